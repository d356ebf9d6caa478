import PyProof.Rows.All
import Wide.All
import OpenK.AllK
import Wide.FinOn
import Lean
import PyProof.EqAt
import PyProof.EqKinds
import PyProof.TupleCall
import PySem.Challenge.RW_troupe_k78_whole_castings_by_numbers
set_option Elab.async false
set_option genSizeOf false
set_option bootstrap.genMatcherCode false
set_option compiler.extract_closed false
set_option genSizeOfSpec false
set_option linter.all false
set_option maxRecDepth 100000
open Array renaming length_toList->oG,getElem?_toList->xD,forIn_toList->FL,toList_inj->Nn
open Bool renaming and_eq_true->aD,false_ne_true->aJ,not_eq_true'->bM,or_eq_true->fH,true_and->iV,false_eq_true->jQ,true_or->lW,false_or->lX,not_true->mC,not_false->rN,eq_iff_iff->rQ,or_false->wY,false_and->Et,and_false->FB,and_eq_true_iff->Nh
open Int renaming toNat_natCast->eY,zero_add->jT,add_zero->mK,sub_self->rT,natCast_nonneg->xE,le_refl->FP,eq_ofNat_of_zero_le->OD,toNat_of_nonneg->OS
open List renaming range->aC,length_map->aI,map_cons->aL,length_cons->aN,getElem?_eq_getElem->aP,replicate->aQ,length_append->bB,mem_cons_self->bF,mem_cons_of_mem->bG,size_toArray->bI,mem_cons->bU,getElem?_map->bX,mem_filter->cB,mem_range->cF,getElem?_eq_some_iff->cT,map_append->cU,find?_cons->cY,mem_map->cZ,range'->dA,mem_singleton->dE,map_map->dQ,length_range->dR,length_replicate->eB,mem_append->eO,all_eq_true->eP,length_set->eQ,mem_append_right->fT,getElem?_append_right->gE,append_nil->gN,length_singleton->gO,all_cons->gP,mem_of_getElem?->iB,any_cons->iC,flatMap_cons->iD,range_eq_range'->iE,map_nil->iT,map_congr_left->iU,length_filter_le->iW,range'_succ->iX,filterMap_cons->jO,getElem?_append_left->jP,getElem?_eq_none->jR,getD_eq_getElem?_getD->jU,lookup->kN,replicate_succ->kO,nil_append->kP,lookup_cons->kQ,getElem_mem->kR,getElem?_replicate->lV,range_succ_eq_map->lY,take_of_length_le->lZ,contains_iff_mem->mD,findSome?_cons->mF,cons_append->mH,mem_range'_1->mJ,nodup_cons->oI,length_drop->oJ,flatten_cons->oK,length_nil->oM,filter_cons->oN,mem_append_left->rG,length_take->rJ,drop_zero->rL,length_eq_zero_iff->rM,sum_cons->rP,filterMap_eq_map'->rR,flatMap->rS,getElem?_set_self->wV,getElem?_set_ne->wW,reverse_cons->wZ,append_assoc->xA,drop_eq_getElem_cons->xB,mem_of_mem_take->xF,any_eq_true->xG,filter_map->xI,filter_filter->xJ,map->xK,filter_congr->xM,filter_eq_nil_iff->xN,mem_filterMap->Eu,of_mem_zip->Ex,length->Ey,getElem?_take_of_lt->Ez,take_sublist->FA,Pairwise->FC,nodup_nil->FH,eq_nil_of_length_eq_zero->FI,all_map->FJ,getElem?_cons_succ->FN,map_take->FQ,filter_eq_self->FR,pairwise_append->FS,pairwise_cons->FT,sublist_nil->FU,getElem_inj->Ni,any_eq_false->Nj,filterMap_map->Nk,mem_flatMap->Np,toList_toArray->Nq,mem_of_find?_eq_some->Nr,find?_some->Nt,drop_eq_nil_of_le->Nx,drop_length->Ny,forIn_cons->Nz,sum_append->OF,length_range'->OG,mem_of_mem_drop->OH,mem_reverse->OI,filter_append->OJ,filter_flatMap->OK,map_flatMap->OL,flatMap_map->OM,range_succ->ON,singleton_append->OO,pairwise_singleton->OP,pairwise_lt_range->OQ,filter_sublist->OR
open Nat renaming le_refl->aK,ne_of_lt->cE,le_trans->cG,lt_of_lt_of_le->dP,zero_le->fU,lt_irrefl->jN,not_lt_zero->jS,le_of_lt->kM,lt_succ_self->oH,zero_add->oO,le_succ->rH,lt_trans->rK,min_eq_left->rO,ne_of_gt->wX,sub_zero->xC,mul_le_mul->xH,le_of_eq->Ew,lt_of_le_of_lt->FD,succ->FK,pow_succ->FM,add_sub_cancel_left->FO,pow_le_pow_right->FV,le_of_not_lt->Nm,lt_of_succ_lt_succ->Nw,le_add_right->OA,le_succ_of_le->OB,succ_ne_self->OC
open Option renaming some->dJ,isSome_some->FE,isSome_map->FF,map_eq_some_iff->FG,getD_none->Nl,isSome_none->Nu,isNone_iff_eq_none->OE
namespace K78
variable{a b:Bool}
theorem both1(h:(a&&b)=true):a=true:=(Nh.mp h).1
theorem both2(h:(a&&b)=true):b=true:=(Nh.mp h).2
noncomputable def vw:PySem.Program:=PySem.W.view PySem.Challenge.pw_troupe_k78_whole_castings_by_numbers [1,2,3,4,5,6,8,9,10,11,12,13,15,16,17,18,20,21,22,23,24,25,26,28,29,30,31,32,33,34,35,36,38,39,40,42,43,44,45,46,47,48,49,50,51,52,53,54]
end K78
section
open PySem PySem.W PyProof.Rows
set_option maxHeartbeats 0
local macro_rules
  | `(tactic| o_head $H)=>`(tactic| (
    apply holds_open (N:=4900) (q:=K78.vw) (loose:=[])
      (Yf:=($H).obs) (Ya:=($H).val) (YP:=($H).says)
      (XP:=XL K78.vw []) (Xt:=fun s=>xlAt K78.vw [] s&&recOk (PySem.Challenge.rw_troupe_k78_whole_castings_by_numbers.row.toRowW).records s)
      (by intro w;kernel_rfl) ($H).of ($H).keeps
      (fun s e=>xl_of s (K78.both1 e)) XL.keeps
      rfl rfl rfl
      (fun s e=>recFacts_of (K78.both2 e))
      rfl (by assumption) (by decide +kernel)
      (by refine⟨rfl,rfl,rfl,rfl,rfl,?_⟩;decide +kernel)))
open_top K78.hd for PySem.Challenge.rw_troupe_k78_whole_castings_by_numbers
end
set_option Elab.async false
set_option linter.all false
set_option maxRecDepth 100000
namespace L2
open PySem PySem.Spec PyProof.Rows
noncomputable abbrev Key:=Sum Int Str
noncomputable def kS:Key->Value->Bool
 |.inl k,v=>Value.isInt k v
 |.inr x,v=>Value.isStrOf x v
noncomputable def keyH(w:World):Key->Int
 |.inl k=>hashInt k
 |.inr x=>hashStr w x
theorem gQ:∀{k:Key} {v:Value},kS k v=true->(∃i t,k=Sum.inl i/\v=Value.int i t)\/(∃x t,k=Sum.inr x/\v=Value.str x t)
 |.inl i,v,h=>by
  obtain⟨t,e⟩:=Value.isInt_shape (k:=i) (v:=v) h
  exact .inl ⟨i,t,rfl,e⟩
 |.inr x,v,h=>by
  obtain⟨t,e⟩:=Value.isStrOf_shape (x:=x) (v:=v) h
  exact .inr ⟨x,t,rfl,e⟩
theorem FW(i:Int)(t:Tok):kS (.inl i) (.int i t)=true:=by simp[kS,Value.isInt]
theorem FX(x:Str)(t:Tok):kS (.inr x) (.str x t)=true:=by simp[kS,Value.isStrOf]
theorem key_ll(a b:Int):decide ((Sum.inl a:Key)=Sum.inl b)=(a==b):=by
 by_cases e:a=b
 ·subst e;simp
 ·have h:¬(Sum.inl a:Key)=Sum.inl b:=λq=>e (Sum.inl.inj q)
  rw[decide_eq_false h]
  exact(beq_eq_false_iff_ne.mpr e).symm
theorem key_rr(a b:Str):decide ((Sum.inr a:Key)=Sum.inr b)=decide (a=b):=by
 by_cases e:a=b
 ·subst e;simp
 ·have h:¬(Sum.inr a:Key)=Sum.inr b:=λq=>e (Sum.inr.inj q)
  rw[decide_eq_false h,decide_eq_false e]
theorem key_lr(a:Int)(b:Str):decide ((Sum.inl a:Key)=Sum.inr b)=false:=decide_eq_false (λq=>nomatch q)
theorem key_rl(a:Str)(b:Int):decide ((Sum.inr a:Key)=Sum.inl b)=false:=decide_eq_false (λq=>nomatch q)
noncomputable def dF(prog:Program)(w:World):PySem.KeyKind prog w Key where
 is:=kS
 hash:=keyH w
 inj:=λv a b ha hb=>by
  rcases gQ ha with⟨i,t,rfl,rfl⟩|⟨x,t,rfl,rfl⟩
  ·rcases gQ hb with⟨j,u,rfl,e⟩|⟨y,u,rfl,e⟩
   ·injection e with e1 _;rw[e1]
   ·exact nomatch e
  ·rcases gQ hb with⟨j,u,rfl,e⟩|⟨y,u,rfl,e⟩
   ·exact nomatch e
   ·injection e with e1 _;rw[e1]
 byValue:=λk v h=>by
  rcases gQ h with⟨i,t,rfl,rfl⟩|⟨x,t,rfl,rfl⟩<;>rfl
 pyHash:=λhv h=>by
  rcases gQ hv with⟨i,t,rfl,rfl⟩|⟨x,t,rfl,rfl⟩
  ·exact wpAny_pyHash_int h
  ·exact wpAny_pyHash_str h
 eqBool:=λhu hv h=>by
  rcases gQ hu with⟨i,t,rfl,rfl⟩|⟨x,t,rfl,rfl⟩
  ·rcases gQ hv with⟨j,u,rfl,rfl⟩|⟨y,u,rfl,rfl⟩
   ·rw[key_ll]at h;exact wpAny_eqBool_int h
   ·rw[key_lr]at h;exact SeqAt.EqAt.int_str i t y u _ _ _ _ h
  ·rcases gQ hv with⟨j,u,rfl,rfl⟩|⟨y,u,rfl,rfl⟩
   ·rw[key_rl]at h;exact SeqAt.EqAt.str_int x t j u _ _ _ _ h
   ·rw[key_rr]at h;exact wpAny_eqBool_str h
 «strs»:=λk x t v h=>by
  rcases gQ h with⟨i,u,rfl,e⟩|⟨y,u,rfl,e⟩
  ·exact nomatch e
  ·injection e with e1 _
   subst e1
   cases v<;>rfl
theorem FY(prog:Program)(w:World)(i:Int)(t:Tok):(dF prog w).is (.inl i) (.int i t)=true:=FW i t
theorem FZ(prog:Program)(w:World)(x:Str)(t:Tok):(dF prog w).is (.inr x) (.str x t)=true:=FX x t
variable{a b:Addr}{o u:HO}{h:Heap}{H:Hp}
inductive V where
 |non|bl (b:Bool)|int (i:Int)|str (x:Str)|byt (b:Array UInt8)|flt (b:UInt64)|ref (a:Addr)|ty (n:String)
 deriving DecidableEq
noncomputable def RelV:V->Value->Prop
 |.non,u=>u=Value.none
 |.bl b,u=>u=Value.bool b
 |.int i,u=>∃t,u=Value.int i t
 |.str x,u=>∃t,u=Value.str x t
 |.byt b,u=>∃t,u=Value.bytes b t
 |.flt b,u=>∃t,u=Value.float b t
 |.ref a,u=>u=Value.ref a
 |.ty n,u=>u=Value.type n
noncomputable abbrev Vals:List V->List Value->Prop:=Paired RelV
theorem Vals.length{xs:List V}{us:List Value}(r:Vals xs us):xs.length=us.length:=Paired.length r
theorem Vals.get:∀{xs:List V} {us:List Value} {i:Nat} {x:V},Vals xs us->xs[i]?=some x->∃u,us[i]?=some u/\RelV x u
 |_,_,_,_,.nil,e=>by simp at e
 |_,_,0,_,.cons r _,e=>by simp at e;subst e;exact⟨_,rfl,r⟩
 |_,_,i+1,x,.cons _ t,e=>by
  obtain⟨u,h1,h2⟩:=Vals.get (i:=i) (x:=x) t (by simpa using e)
  exact⟨u,by simpa using h1,h2⟩
theorem Vals.append:∀{xs ys:List V} {us ws:List Value},Vals xs us->Vals ys ws->Vals (xs++ys) (us++ws)
 |_,_,_,_,.nil,s=>s
 |_,_,_,_,.cons r t,s=>.cons r (Vals.append t s)
theorem Vals.take:∀{xs:List V} {us:List Value} (n:Nat),Vals xs us->Vals (xs.take n) (us.take n)
 |_,_,0,_=>.nil
 |_,_,_+1,.nil=>.nil
 |_,_,n+1,.cons r t=>.cons r (Vals.take n t)
theorem Vals.drop:∀{xs:List V} {us:List Value} (n:Nat),Vals xs us->Vals (xs.drop n) (us.drop n)
 |_,_,0,r=>r
 |_,_,_+1,.nil=>.nil
 |_,_,n+1,.cons _ t=>Vals.drop n t
noncomputable def RelO:Option V->Option Value->Prop
 |some v,some u=>RelV v u
 |none,none=>True
 |_,_=>False
noncomputable def KV{κ:Type}:List (κ×V)->List (κ×Value)->Prop:=Paired λ(p:κ×V) (q:κ×Value)=>p.1=q.1/\RelV p.2 q.2
noncomputable def kV:Key->V
 |.inl i=>.int i
 |.inr x=>.str x
noncomputable def cC(cl:List (Int×Int))(f:Int):Int->List (List Int)->Int->List (List Int)
 |_,[],_=>[]
 |j,ps::r,p=>(if cl.contains (f,j)then ps.filter (λq=>q != p)else ps)::cC cl f (j+1) r p
noncomputable def gR(n:Int)(cl:List (Int×Int)):Nat->List (List Int)->Int
 |_,[]=>1
 |0,_=>1
 |k+1,ps::r=>(ps.map λp=>gR n cl k (cC cl (n-(r.length+1:Nat)) (n-(r.length+1:Nat)+1) r p)).sum
noncomputable def dS(n:Int)(cl:List (Int×Int))(kss:List (List Int)):Int:=gR n cl kss.length kss
noncomputable def subs3:List (List Int):=[[],[0],[1],[2],[0,1],[0,2],[1,2],[0,1,2]]
noncomputable def fJ(kss:List (List Int)):Bool:=decide (kss.length<=5)&&kss.all subs3.contains
noncomputable def oP(prog:Program)(w:World)(kss:List (List Int)):Int:=reduceHash (Builtin.Tuple.tupleHashOf (kss.map (tupleKeyHash (intKind prog w))))
noncomputable def eC (n:Int) (b kd:Addr):List (Str×V):=[("parts", .int n),("clashes", .ref b),("known", .ref kd)]
inductive HO where
 |lst (xs:List V)
 |tup (xs:List V)
 |dK (kvs:List (Key×V))|dT (kvs:List (List Key×V))
 |set (S:Int->Bool) (n:Nat)
 |ins (C dx:Addr) (fs:List (Str×V))
 |own (x:Addr)
 |xd (fs:List (Str×V))
 |met (f x:Addr)
 |rng (lo hi:Int)
 |frz (o:Obj) (u:HO)
 |tbl (ps:Array Value)
 |ctab (pos:Pos) (qual:Str)
 |cnt (C dx kd b:Addr) (n:Int) (cl:List (Int×Int))
 |ext (φ:Heap->Prop)
noncomputable abbrev Hp:=Addr->Option HO
noncomputable def upd(H:Hp)(a:Addr)(o:HO):Hp:=λb=>if b=a then some o else H b
theorem bA:upd H a o a=some o:=by unfold upd;rw[if_pos rfl]
theorem aG(h:b≠a):upd H a o b=H b:=by unfold upd;rw[if_neg h]
theorem F0:upd (upd H a o) a u=upd H a u:=by
 funext b;unfold upd;split<;>rfl
theorem fK(h:H a=some o)(h':H b=some u)(d:o≠u):a≠b:=by
 intro e;subst e;rw[h]at h';exact d (dJ.inj h')
theorem cV(h:H a=some o)(h':H b=none):a≠b:=by
 intro e;subst e;rw[h]at h';cases h'
section
variable(P:Program)(w:World)
noncomputable def ObjOk(H:Hp)(h:Heap)(a:Addr):HO->Prop
 |.lst xs=>xs.length<=sizeLine/\∃(its:List Value) (n:Nat),Vals xs its/\h.get? a=some {cls:=.type "list", data:=.seq its.toArray n}
 |.tup xs=>xs.length<=sizeLine/\∃its:List Value,Vals xs its/\IsTup h a its.toArray
 |.dK kvs=>kvs.length<=sizeLine/\(a==sysModules)=false/\∃vs,KV kvs vs/\h.DictOf (dF P w) a vs
 |.dT kvs=>kvs.length<=sizeLine/\(a==sysModules)=false/\∃xs:List (List Key×Addr×Value),
  Paired (λ(p:List Key×V) (q:List Key×Addr×Value)=>p.1=q.1/\H q.2.1=some (.tup (p.1.map kV))/\RelV p.2 q.2.2) kvs xs /\
  ∃o es ep,h.get? a=some o/\o.ExactDict/\o.data=.dict es ep/\es.toList=xs.map (entryOfKey (tupleKind (dF P w)))/\(xs.map (·.1)).Nodup
 |.set S n=>h.SetOf (intKind P w) a S n
 |.ins C dx fs=>H dx=some (.own a)/\fs.length<=1000/\dx≠a/\h.get? a=some (PySem.W.instObj C dx) /\
  ∃mA,h.Ns1 dx mA/\(∀f,RelO (fs.lookup f) (mA f))/\PySem.Within mA (fs.map (·.1))
 |.own _=>∃o,h.get? a=some o
 |.xd fs=>∃mA,h.Ns1 a mA/\∀f,RelO (fs.lookup f) (mA f)
 |.rng lo hi=>∃t u v,h.get? a=some {cls:=.type "range", data:=.fields #[.int lo t,.int hi u,.int 1 v] }
 |.frz o u=>h.get? a=some o/\ObjOk H h a u
 |.tbl ps=>h.get? a=some {cls:=.none,data:=.fields ps}
 |.ctab pos qual=>∃ps:Array Value,h.get? a=some {cls:=.none,data:=.fields ps}/\TriplesOk ps.toList/\∀cv,codeAmong pos ps.toList=some cv->∃(c:Addr)(oc:Obj)(vs:Array Value)(t:Tok),cv=.ref c/\H c=some (.frz oc (.own a))/\oc.data=.fields vs/\vs[1]?=some (.str qual t)
 |.met f x=>h.get? a=some (PySem.W.methodObj (.ref f) (.ref x))
 |.cnt C dx kd b n cl=>(H dx=some (.own a)/\dx≠a/\h.get? a=some (PySem.W.instObj C dx) /\
  ∃mA,h.Ns1 dx mA/\(∀f,RelO ((eC n b kd).lookup f) (mA f))/\PySem.Within mA ((eC n b kd).map (·.1))) /\
  (∃ol xs,H b=some (.frz ol (.lst xs))/\Paired (λ(p:Int×Int) (v:V)=>∃q,v=V.ref q/\H q=some (.tup [.int p.1,.int p.2])) cl xs) /\
  H kd=some (.own a)/\kd≠a/\kd≠dx/\(kd==sysModules)=false/\∃xs:List (List (List Int)×Addr×Value),
   (∀q∈xs,fJ q.1=true/\(∃vs,H q.2.1=some (.tup vs)/\Paired (λ(ks:List Int) (v:V)=>∃c,v=V.ref c/\H c=some (.tup (ks.map V.int))) q.1 vs)/\RelV (.int (dS n cl q.1)) q.2.2) /\
   ∃o es ep,h.get? kd=some o/\o.ExactDict/\o.data=.dict es ep/\es.toList=xs.map (λq=>(⟨oP P w q.1,.ref q.2.1,q.2.2⟩:DictEntry))/\(xs.map (·.1)).Nodup
 |.ext φ=>φ h/\(∃o,h.get? a=some o)/\∀h1 h2:Heap,φ h1->(∀o,h1.get? a=some o->h2.get? a=some o)->φ h2
noncomputable def HOk(H:Hp)(h:Heap):Prop:=∀a o,H a=some o->ObjOk P w H h a o
end
section
variable{P:Program}{w:World}{H H':Hp}{h h':Heap}{a:Addr}{o:HO}
theorem ObjOk.lt(x:ObjOk P w H h a o):a<h.objs.size:=by
 cases o with
 |lst xs=>obtain⟨_,_,_,_,e⟩:=x;exact Heap.lt_size e
 |tup xs=>obtain⟨_,_,_,p⟩:=x;exact p.lt
 |dK kvs=>obtain⟨_,_,_,_,o,_,_,e,_⟩:=x;exact Heap.lt_size e
 |dT kvs=>obtain⟨_,_,_,_,o,_,_,e,_⟩:=x;exact Heap.lt_size e
 |set S n=>obtain⟨o,_,_,_,e,_⟩:=x;exact Heap.lt_size e
 |ins C dx fs=>obtain⟨_,_,_,e,_⟩:=x;exact Heap.lt_size e
 |own y=>obtain⟨_,e⟩:=x;exact Heap.lt_size e
 |xd fs=>obtain⟨_,⟨_,_,_,e,_⟩,_⟩:=x;exact Heap.lt_size e
 |rng lo hi=>obtain⟨_,_,_,e⟩:=x;exact Heap.lt_size e
 |frz ob u=>obtain⟨e,_⟩:=x;exact Heap.lt_size e
 |tbl ps=>exact Heap.lt_size (show h.get? a=some _ from x)
 |ctab ps q=>obtain⟨_,e,_⟩:=x;exact Heap.lt_size e
 |met f y=>exact Heap.lt_size (show h.get? a=some _ from x)
 |cnt C dx kd b n cl=>obtain⟨⟨_,_,e,_⟩,_⟩:=x;exact Heap.lt_size e
 |ext φ=>obtain⟨_,⟨_,e⟩,_⟩:=x;exact Heap.lt_size e
theorem Paired.mapP{α β:Type}{F G:α->β->Prop}:∀{lh:List α} {lx:List β},Paired F lh lx->(∀a b,F a b->G a b)->Paired G lh lx
 |_,_,.nil,_=>.nil
 |_,_,.cons r t,f=>.cons (f _ _ r) (Paired.mapP t f)
theorem ObjOk.stay(x:ObjOk P w H h a o)(k:∀b u,(b=a\/H b=some (.own a))->h.get? b=some u->h'.get? b=some u)
 (ho:∀b,H b=some (.own a)->H' b=some (.own a)) (ht:∀b xs,H b=some (.tup xs)->H' b=some (.tup xs)) (hz:∀b ob u,H b=some (.frz ob u)->H' b=some (.frz ob u)):ObjOk P w H' h' a o:=by
 induction o with
 |lst xs=>obtain⟨z,its,n,r,e⟩:=x;exact⟨z,its,n,r,k _ _ (.inl rfl) e⟩
 |tup xs=>obtain⟨z,its,r,ob,e,c⟩:=x;exact⟨z,its,r,ob,k _ _ (.inl rfl) e,c⟩
 |dK kvs=>obtain⟨z,y,vs,r,ob,es,ep,e,c⟩:=x;exact⟨z,y,vs,r,ob,es,ep,k _ _ (.inl rfl) e,c⟩
 |dT kvs=>
  obtain⟨z,y,xs,r,ob,es,ep,e,c⟩:=x
  exact⟨z,y,xs,Paired.mapP r λp q z=>⟨z.1,ht _ _ z.2.1,z.2.2⟩,ob,es,ep,k _ _ (.inl rfl) e,c⟩
 |set S n=>obtain⟨ob,es,ep,t,e,c⟩:=x;exact⟨ob,es,ep,t,k _ _ (.inl rfl) e,c⟩
 |ins C dx fs=>
  obtain⟨d,z,ne,e,mA,⟨od,es,ep,e2,c⟩,r⟩:=x
  exact⟨ho _ d,z,ne,k _ _ (.inl rfl) e,mA,⟨od,es,ep,k _ _ (.inr d) e2,c⟩,r⟩
 |own y=>obtain⟨ob,e⟩:=x;exact⟨ob,k _ _ (.inl rfl) e⟩
 |xd fs=>obtain⟨mA,⟨od,es,ep,e,c⟩,r⟩:=x;exact⟨mA,⟨od,es,ep,k _ _ (.inl rfl) e,c⟩,r⟩
 |rng lo hi=>obtain⟨t,u,v,e⟩:=x;exact⟨t,u,v,k _ _ (.inl rfl) e⟩
 |frz ob u ih=>obtain⟨e,q⟩:=x;exact⟨k _ _ (.inl rfl) e,ih q⟩
 |tbl ps=>
  have e:h.get? a=some {cls:=.none,data:=.fields ps}:=x
  show h'.get? a=some {cls:=.none,data:=.fields ps}
  exact k a _ (.inl rfl) e
 |ctab pos qual=>
  obtain⟨ps,e,tr,hc⟩:=x
  exact⟨ps,k a _ (.inl rfl) e,tr,λcv q=>let ⟨c,oc,vs,t,e1,e2,e3⟩:=hc cv q;⟨c,oc,vs,t,e1,hz _ _ _ e2,e3⟩⟩
 |met f y=>
  have e:h.get? a=some (PySem.W.methodObj (.ref f) (.ref y)):=x
  show h'.get? a=some (PySem.W.methodObj (.ref f) (.ref y))
  exact k a _ (.inl rfl) e
 |cnt C dx kd b n cl=>
  obtain⟨⟨d,ne,e,mA,⟨od,es,ep,e2,c⟩,r⟩,⟨ol,xs,b1,b2⟩,d2,ne2,ne3,sm,ys,q1,ok,ek,pk,e3,c3⟩:=x
  refine⟨⟨ho _ d,ne,k _ _ (.inl rfl) e,mA,⟨od,es,ep,k _ _ (.inr d) e2,c⟩,r⟩,⟨ol,xs,hz _ _ _ b1,Paired.mapP b2 λp v z=>let ⟨q,z1,z2⟩:=z;⟨q,z1,ht _ _ z2⟩⟩,ho _ d2,ne2,ne3,sm,ys,λq hq=>?_,ok,ek,pk,k _ _ (.inr d2) e3,c3⟩
  obtain⟨s1,⟨vs,v1,v2⟩,s3⟩:=q1 q hq
  exact⟨s1,⟨vs,ht _ _ v1,Paired.mapP v2 λks v z=>let ⟨c,z1,z2⟩:=z;⟨c,z1,ht _ _ z2⟩⟩,s3⟩
 |ext φ=>obtain⟨p,⟨o,e⟩,st⟩:=x;exact⟨st _ _ p λo q=>k _ _ (.inl rfl) q,⟨o,k _ _ (.inl rfl) e⟩,st⟩
theorem HOk.lt(x:HOk P w H h)(e:H a=some o):a<h.objs.size:=(x a o e).lt
theorem HOk.fresh(x:HOk P w H h)(e:h.objs.size<=a):H a=none:=by
 cases q:H a with
 |none=>rfl
 |some u=>exact absurd (dP (x.lt q) e) (jN _)
theorem HOk.kept(x:HOk P w H h)(k:∀b u,h.get? b=some u->h'.get? b=some u):HOk P w H h':=λa o e=>
 (x a o e).stay (λb u _ q=>k b u q) (λ_ q=>q) (λ_ _ q=>q) λ_ _ _ q=>q
theorem HOk.laid(x:HOk P w H h)(k:∀b u,h.get? b=some u->h'.get? b=some u)(hp:h.objs.size<=a)(new:ObjOk P w (upd H a o) h' a o):HOk P w (upd H a o) h':=λb u e=>by
 have hn:=x.fresh hp
 by_cases hb:b=a
 ·subst hb;rw[bA]at e;cases e;exact new
 ·rw[aG hb]at e
  exact(x b u e).stay (λc v _ q=>k c v q) (λc q=>by rw[aG (cV q hn)];exact q) (λc xs q=>by rw[aG (cV q hn)];exact q) λc o u q=>by rw[aG (cV q hn)];exact q
end
noncomputable def Rd(H:Hp)(a:Addr)(u:HO):Prop:=H a=some u\/∃o,H a=some (.frz o u)
theorem Rd.ok{P:Program}{w:World}(r:Rd H a u)(x:HOk P w H h):ObjOk P w H h a u:=by
 rcases r with r|⟨o,r⟩
 ·exact x a u r
 ·obtain⟨_,q⟩:=x a _ r
  exact q
noncomputable def Mut:Option HO->Prop
 |some (.lst _)=>True
 |some (.dK _)=>True
 |some (.dT _)=>True
 |some (.set _ _)=>True
 |some (.ins _ _ _)=>True
 |some (.ext _)=>True
 |_=>False
section
variable{P:Program}{w:World}{H:Hp}{h h':Heap}{x e:Addr}{o':HO}
theorem HOk.write(ok:HOk P w H h)(mu:Mut (H x))(he:e=x\/H e=some (.own x))(k:∀b u,b≠e->h.get? b=some u->h'.get? b=some u)(heo:∃u,h'.get? e=some u)
 (new:ObjOk P w (upd H x o') h' x o'):HOk P w (upd H x o') h':=λb u q=>by
 have nown:∀c y,H c=some (.own y)->c≠x:=λc y r z=>by subst z;rw[r]at mu;exact mu
 have ntup:∀c xs,H c=some (.tup xs)->c≠x:=λc xs r z=>by subst z;rw[r]at mu;exact mu
 by_cases hb:b=x
 ·subst hb;rw[bA]at q;cases q;exact new
 ·rw[aG hb]at q
  by_cases hbe:b=e
  ·have q':H b=some (.own x):=by
    rcases he with z|z
    ·exact absurd (hbe.trans z) hb
    ·rw[hbe];exact z
   rw[q]at q';cases q'
   obtain⟨v,hv⟩:=heo
   exact⟨v,by rw[hbe];exact hv⟩
  ·refine(ok b u q).stay (λc v hc r=>k c v ?_ r) (λc r=>by rw[aG (nown c b r)];exact r) (λc xs r=>by rw[aG (ntup c xs r)];exact r) λc ob u r=>by rw[aG (λz=>by subst z;rw[r]at mu;exact mu)];exact r
   rcases hc with rfl|hc
   ·exact hbe
   ·rintro rfl
    rcases he with z|z
    ·exact nown c b hc z
    ·rw[hc]at z;cases z;exact hb rfl
end
set_option genInjectivity false in
structure Un(fs ex:List Addr)(H H':Hp)(h h':Heap):Prop where
 keep:∀b o,h.get? b=some o->H b=none->b∉fs->b∉ex->h'.get? b=some o
 slot:∀b o,h.get? b=some o->H b=none->b∈fs->b∉ex->∃sl,h'.get? b=some {o with slots:=sl}
 free:∀b o,h.get? b=some o->H b=none->b∉ex->H' b=none
 there:∀b o,h.get? b=some o->b∉ex->∃o',h'.get? b=some o'
 tups:∀b xs,H b=some (.tup xs)->H' b=some (.tup xs)
 frzs:∀b o u,H b=some (.frz o u)->H' b=some (.frz o u)
 tbls:∀b ps,H b=some (.tbl ps)->∃more,H' b=some (.tbl (ps++more))
section
variable{fs fs' ex ex':List Addr}{H H1 H2:Hp}{h h1 h2 h':Heap}{a x e:Addr}{o:HO}
theorem Un.any(u:Un fs ex H H1 h h1){ob:Obj}(q:h.get? b=some ob)(n:H b=none)(hx:b∉ex):∃sl,h1.get? b=some {ob with slots:=sl}:=by
 by_cases hb:b∈fs
 ·exact u.slot b ob q n hb hx
 ·exact⟨ob.slots,u.keep b ob q n hb hx⟩
theorem Un.kept(k:∀b u,h.get? b=some u->h'.get? b=some u):Un fs ex H H h h':=
 ⟨λb ob q _ _ _=>k b ob q,λb ob q _ _ _=>⟨ob.slots,k b ob q⟩,λ_ _ _ n _=>n,λb ob q _=>⟨ob,k b ob q⟩,λ_ _ q=>q,λ_ _ _ q=>q,λ_ ps q=>⟨#[],by rw[q];simp⟩⟩
theorem Un.refl:Un fs ex H H h h:=Un.kept λ_ _ q=>q
theorem Un.laid(k:∀b u,h.get? b=some u->h'.get? b=some u)(hp:h.objs.size<=a)(hn:H a=none):Un fs ex H (upd H a o) h h' where
 keep:=λb u q _ _ _=>k b u q
 slot:=λb u q _ _ _=>⟨u.slots,k b u q⟩
 free:=λb u q n _=>by rw[aG (cE (dP (Heap.lt_size q) hp))];exact n
 there:=λb u q _=>⟨u,k b u q⟩
 tups:=λb xs q=>by rw[aG (cV q hn)];exact q
 frzs:=λb u xs q=>by rw[aG (cV q hn)];exact q
 tbls:=λb ps q=>⟨#[],by rw[aG (cV q hn),q];simp⟩
theorem Un.write(mu:Mut (H x))(he:e=x\/H e=some (.own x))(k:∀b u,b≠e->h.get? b=some u->h'.get? b=some u)(heo:∃u,h'.get? e=some u):Un fs ex H (upd H x o) h h':=by
 have hx:∀b,H b=none->b≠x:=λb n z=>by subst z;rw[n]at mu;exact mu
 have hb:∀b,H b=none->b≠e:=λb n z=>by
  subst z
  rcases he with r|r
  ·exact hx b n r
  ·rw[n]at r;cases r
 have hm:∀b u,H b=some u->¬Mut (some u)->b≠x:=λb u q nm z=>by subst z;rw[q]at mu;exact nm mu
 refine⟨λb u q n _ _=>k b u (hb b n) q,λb u q n _ _=>⟨u.slots,k b u (hb b n) q⟩,λb u q n _=>by rw[aG (hx b n)];exact n,λb u q _=>?_,
  λb xs q=>by rw[aG (hm b _ q λz=>z)];exact q,λb u xs q=>by rw[aG (hm b _ q λz=>z)];exact q,λb ps q=>⟨#[],by rw[aG (hm b _ q λz=>z),q];simp⟩⟩
 by_cases hbe:b=e
 ·subst hbe;exact heo
 ·exact⟨u,k b u hbe q⟩
end
noncomputable def trk(h:Heap)(H:Hp):List Addr:=(aC h.objs.size).filter λa=>(H a).isSome
noncomputable def iF(h:Heap)(H:Hp):Heap:=PySem.W.hideAll h (trk h H)
theorem F4(h:Heap)(H:Hp):(iF h H).objs.size=h.objs.size:=PySem.W.hideAll_size _ _
theorem F9{o:Obj}(e:h.get? b=some o)(n:H b=none):(iF h H).get? b=some o:=
 PySem.W.hideAll_get _ e λhm=>by
  have q:(H b).isSome=true:=(cB.mp hm).2
  rw[n]at q;simp at q
theorem F_{o:Obj}(e:(iF h H).get? b=some o):h.get? b=some o/\H b=none:=by
 have e':h.get? b=some o:=PySem.W.of_hideAll (trk h H) e
 refine⟨e',?_⟩
 cases q:H b with
 |none=>rfl
 |some x=>
  have hm:b∈trk h H:=cB.mpr ⟨cF.mpr (Heap.lt_size e'),by simp[q]⟩
  have z:(iF h H).get? b=none:=PySem.W.hideAll_none (trk h H) hm
  rw[z]at e;cases e
end L2
namespace L2
open PySem PySem.Spec PyProof.Rows
variable{a:Addr}{t':Nat}
set_option genInjectivity false in
structure Mod(K:PySem.W.Frag)(mg:Str->Option Value)(base:Heap):Prop where
 kin:K.In base
 glob:base.Ns mainGlobals mg
 blt:∃mb,base.Ns builtinsNs mb/\∀x:Str,x ≠ "__name__" -> mb x=bootBuiltins x
 nolimit:base.NoLimit
set_option genInjectivity false in
structure Cx where
 prog:Program
 w:World
 K:PySem.W.Frag
 mg:Str->Option Value
 base:Heap
 A:Around
 N:List Str
 sh:Shared
 H_h:Hp
 env:Env
 outer:List Env
 stack:List Env
 ex:List Addr
 fn:Str->Bool
 calm:Bool
 pn:List (Addr×Obj)
 xe:Value->Shared->Prop
noncomputable def frs(l:List Env):List Addr:=l.filterMap (·.frame)
noncomputable abbrev Cx.fs(X:Cx):List Addr:=frs X.outer
noncomputable def Vis(sc:Scope)(x:Str):Prop:=sc.names.lookup x=some .local\/sc.names.lookup x=some .cell\/sc.names.lookup x=some .free
noncomputable def Loc(sc:Scope)(x:Str):Prop:=sc.names.lookup x=some .local\/sc.names.lookup x=some .cell
noncomputable def Look(env:Env)(h:Heap)(m:Str->Option Value)(x:Str)(u:Value):Prop:=
 (env.kindOf x=some .local/\m x=some u)\/((env.kindOf x=some .cell\/env.kindOf x=some .free)/\∃c,env.cells.lookup x=some c/\h.IsCell c (some u))
set_option genInjectivity false in
structure Cx.Ok(X:Cx):Prop where
 mod:Mod X.K X.mg X.base
 kind:X.env.scope.kind=.function
 glob:X.env.globals=mainGlobals
 blt:X.env.builtins=builtinsNs
 above:X.sh.heap.objs.size<=X.env.locals
 inj:∀x y c,X.env.cells.lookup x=some c->X.env.cells.lookup y=some c->x=y
 has:∀x,(X.env.kindOf x=some .cell\/X.env.kindOf x=some .free)->∃c,X.env.cells.lookup x=some c
 cab:∀x c,X.fn x=true->X.env.cells.lookup x=some c->X.sh.heap.objs.size<=c
 hd:X.calm=true->X.A.handled=none
 frames:X.A.frames=some X.stack
 stk:X.stack=X.outer\/(X.stack=X.env::X.outer/\X.env.frame=some X.env.locals)
 exf:∀b∈X.ex,b≠X.env.locals/\∀x c,X.env.cells.lookup x=some c->c≠b
 bs:∀b o,X.base.get? b=some o->X.sh.heap.get? b=some o/\X.H_h b=none
 bsz:X.base.objs.size<=X.sh.heap.objs.size
 noex:∀b o,X.base.get? b=some o->b∉X.ex
 exfs:∀b∈X.ex,b∉X.fs
 funs:X.sh.heap.FunFrames X.base X.outer
 frf:∀b∈X.fs,X.H_h b=none
set_option genInjectivity false in
structure Inv(X:Cx)(pins:List (Addr×Obj))(σ:List (Option V))(H:Hp)(s:Shared):Prop where
 ok:X.Ok
 os:s.os=X.sh.os
 bare:AllBare s.gens
 base:Un X.fs X.ex X.H_h H X.sh.heap s.heap
 loc:∃m,s.heap.Ns X.env.locals m/\∀(i:Nat)(x:Str)(v:V),X.N[i]?=some x->σ[i]?=some (some v)->Vis X.env.scope x->∃u,RelV v u/\Look X.env s.heap m x u
 cell:∀x c,X.env.cells.lookup x=some c->∃v,s.heap.IsCell c v
 free:H X.env.locals=none
 freeC:∀x c,X.env.cells.lookup x=some c->H c=none
 pin:∀p∈X.pn++pins,s.heap.get? p.1=some p.2/\H p.1=none/\p.1≠X.env.locals/\p.1∉X.fs/\∀v,p.2.data≠.cell v
 hok:HOk X.prog X.w H s.heap
 len:σ.length=X.N.length
section
variable{X:Cx}{pins:List (Addr×Obj)}{σ:List (Option V)}{H H':Hp}{s:Shared}{h':Heap}
theorem Cx.Ok.nofr(ok:X.Ok){b:Addr}{o:Obj}(e:X.base.get? b=some o):b∉X.fs:=λhb=>by
 have:=(ok.funs.mem hb).1
 rw[e]at this;cases this
theorem Inv.bs(I:Inv X pins σ H s):∀b o,X.base.get? b=some o->s.heap.get? b=some o/\H b=none:=λb o e=>
 ⟨I.base.keep b o (I.ok.bs b o e).1 (I.ok.bs b o e).2 (I.ok.nofr e) (I.ok.noex b o e),I.base.free b o (I.ok.bs b o e).1 (I.ok.bs b o e).2 (I.ok.noex b o e)⟩
theorem Inv.bk(I:Inv X pins σ H s):∀b o,X.base.get? b=some o->s.heap.get? b=some o:=λb o e=>(I.bs b o e).1
theorem Inv.mod(I:Inv X pins σ H s):Mod X.K X.mg X.base:=I.ok.mod
theorem Inv.kIn(I:Inv X pins σ H s):X.K.In s.heap:=I.ok.mod.kin.keeps I.bk
theorem Inv.lt(I:Inv X pins σ H s):X.env.locals<s.heap.objs.size:=let ⟨_,hn,_⟩:=I.loc;hn.lt
theorem Inv.sz(I:Inv X pins σ H s):X.sh.heap.objs.size<=s.heap.objs.size:=cG I.ok.above (kM I.lt)
theorem Inv.nofs(I:Inv X pins σ H s)(h:s.heap.objs.size<=a):a∉X.fs:=λhb=>by
 obtain⟨_,o,ho,_⟩:=I.ok.funs.mem hb
 exact absurd (dP (Heap.lt_size ho) (cG I.sz h)) (jN _)
theorem Inv.cne(I:Inv X pins σ H s):∀x c,X.env.cells.lookup x=some c->c≠X.env.locals:=λx c e z=>by
 obtain⟨v,o,ho,hd⟩:=I.cell x c e
 obtain⟨m,⟨o',es,ep,ho',hd',_⟩,_⟩:=I.loc
 rw[z,ho']at ho;cases ho;rw[hd']at hd;cases hd
theorem Inv.funs(I:Inv X pins σ H s):s.heap.FunFrames X.base X.outer:=by
 have all:∀(l:List Env),(∀b∈frs l,b∈X.fs)->X.sh.heap.FunFrames X.base l->s.heap.FunFrames X.base l:=by
  intro l
  induction l with
  |nil=>intro _ _;trivial
  |cons env r ih=>
   intro hs hl
   obtain⟨hk,⟨L,o,hf,hn,ho,hd⟩,hr⟩:=hl
   have hL:L∈X.fs:=hs L (by unfold frs;rw[jO,hf];exact bF)
   obtain⟨sl,e⟩:=I.base.slot L o ho (I.ok.frf L hL) hL λz=>I.ok.exfs L z hL
   exact⟨hk,⟨L,_,hf,hn,e,hd⟩,ih (λb hb=>hs b (by unfold frs;rw[jO,hf];exact bG _ hb)) hr⟩
 exact all X.outer (λ_ hb=>hb) I.ok.funs
theorem Inv.stack(I:Inv X pins σ H s):s.heap.FunFrames X.base X.stack:=by
 rcases I.ok.stk with e|⟨e,hf⟩
 ·rw[e];exact I.funs
 ·rw[e]
  obtain⟨m,hn,_⟩:=I.loc
  refine .cons (by rw[I.ok.kind];decide) hf hn ?_ I.funs
  exact Heap.get?_none_of_le (cG I.ok.bsz I.ok.above)
theorem Inv.stkSub(I:Inv X pins σ H s):∀b∈frs X.stack,b∈X.env.locals::X.fs:=λb hb=>by
 rcases I.ok.stk with e|⟨e,hf⟩
 ·rw[e]at hb;exact bG _ hb
 ·rw[e]at hb
  unfold frs at hb
  rw[jO,hf]at hb
  exact hb
theorem Inv.stkFree(I:Inv X pins σ H s):∀b∈frs X.stack,H b=none:=λb hb=>by
 rcases bU.mp (I.stkSub b hb)with e|hb
 ·rw[e];exact I.free
 ·obtain⟨_,o,ho,_⟩:=I.ok.funs.mem hb
  exact I.base.free b o ho (I.ok.frf b hb) λz=>I.ok.exfs b z hb
theorem Inv.step{g':Array GenState}{t':Nat}{d':Drawn}{ch:List Addr}(I:Inv X pins σ H s)
 (hch:∀b∈ch,(b∈X.ex\/X.sh.heap.objs.size<=b)/\b≠X.env.locals/\(∀x c,X.env.cells.lookup x=some c->c≠b)/\∀p∈X.pn++pins,p.1≠b)
 (keep:∀b o,b≠X.env.locals->b∉X.fs->b∉ch->s.heap.get? b=some o->H b=none->h'.get? b=some o)
 (slot:∀b o,b≠X.env.locals->b∈X.fs->b∉ch->s.heap.get? b=some o->H b=none->∃sl,h'.get? b=some {o with slots:=sl}) (free:∀b o,b∉ch->s.heap.get? b=some o->H b=none->H' b=none)
 (there:∀b o,b∉ch->s.heap.get? b=some o->∃o',h'.get? b=some o')
 (tups:∀b xs,H b=some (.tup xs)->H' b=some (.tup xs)) (frzs:∀b o u,H b=some (.frz o u)->H' b=some (.frz o u)) (tbls:∀b ps,H b=some (.tbl ps)->∃more,H' b=some (.tbl (ps++more)))
 (ns:∀m,s.heap.Ns X.env.locals m->h'.Ns X.env.locals m) (hok:HOk X.prog X.w H' h') (hg:AllBare g') :
 Inv X pins σ H' {s with heap:=h',gens:=g',drawn:=d',toks:=t' }:=by
 have neL:∀b o,X.sh.heap.get? b=some o->b≠X.env.locals:=λb o e=>cE (dP (Heap.lt_size e) I.ok.above)
 have neC:∀b o,X.sh.heap.get? b=some o->b∉X.ex->b∉ch:=λb o e hx hb=>by
  rcases(hch b hb).1 with z|z
  ·exact hx z
  ·exact absurd (dP (Heap.lt_size e) z) (jN _)
 have cellK:∀x c,X.env.cells.lookup x=some c->∀v,s.heap.IsCell c v->h'.IsCell c v:=λx c e v ⟨o,ho,hd⟩=>by
  have nch:c∉ch:=λz=>(hch c z).2.2.1 x c e rfl
  by_cases hc:c∈X.fs
  ·obtain⟨sl,q⟩:=slot c o (I.cne x c e) hc nch ho (I.freeC x c e)
   exact⟨_,q,hd⟩
  ·exact⟨o,keep c o (I.cne x c e) hc nch ho (I.freeC x c e),hd⟩
 refine⟨I.ok,I.os,hg,⟨λb o e n hb hx=>?_,λb o e n hb hx=>?_,λb o e n hx=>?_,λb o e hx=>?_,λb xs e=>tups b xs (I.base.tups b xs e),λb o xs e=>frzs b o xs (I.base.frzs b o xs e),λb ps e=>?_⟩,?_,λx c e=>?_,?_,λx c e=>?_,λp hp=>?_,hok,I.len⟩
 ·exact keep b o (neL b o e) hb (neC b o e hx) (I.base.keep b o e n hb hx) (I.base.free b o e n hx)
 ·obtain⟨sl,e1⟩:=I.base.slot b o e n hb hx
  obtain⟨sl',e2⟩:=slot b _ (neL b o e) hb (neC b o e hx) e1 (I.base.free b o e n hx)
  exact⟨sl',e2⟩
 ·obtain⟨o',e1⟩:=I.base.there b o e hx
  exact free b o' (neC b o e hx) e1 (I.base.free b o e n hx)
 ·obtain⟨o',e1⟩:=I.base.there b o e hx
  exact there b o' (neC b o e hx) e1
 ·obtain⟨m1,e1⟩:=I.base.tbls b ps e
  obtain⟨m2,e2⟩:=tbls b _ e1
  exact⟨m1++m2,by rw[e2,Array.append_assoc]⟩
 ·obtain⟨m,hn,hl⟩:=I.loc
  refine⟨m,ns m hn,λi x v e1 e2 e3=>?_⟩
  obtain⟨u,r,l⟩:=hl i x v e1 e2 e3
  refine⟨u,r,?_⟩
  rcases l with l|⟨k,c,e,z⟩
  ·exact .inl l
  ·exact .inr ⟨k,c,e,cellK x c e _ z⟩
 ·obtain⟨v,z⟩:=I.cell x c e
  exact⟨v,cellK x c e v z⟩
 ·obtain⟨m,⟨o,_,_,ho,_⟩,_⟩:=I.loc
  exact free _ o (λz=>(hch _ z).2.1 rfl) ho I.free
 ·obtain⟨v,o,ho,hd⟩:=I.cell x c e
  exact free c o (λz=>(hch c z).2.2.1 x c e rfl) ho (I.freeC x c e)
 ·obtain⟨e,n,ne,nf,d⟩:=I.pin p hp
  have nch:p.1∉ch:=λz=>(hch p.1 z).2.2.2 p hp rfl
  exact⟨keep p.1 p.2 ne nf nch e n,free p.1 p.2 nch e n,ne,nf,d⟩
theorem Inv.un(I:Inv X pins σ H s)(u:Un X.fs [] H H' s.heap h')(hok:HOk X.prog X.w H' h'):Inv X pins σ H' {s with heap:=h',toks:=t' }:=by
 obtain⟨m,⟨o,es,ep,ho,r⟩,_⟩:=id I.loc
 obtain⟨sl,hL⟩:=u.any ho I.free (by simp)
 exact I.step (g':=s.gens) (d':=s.drawn) (ch:=[]) (λ_ z=>nomatch z) (λb o _ hb _ e n=>u.keep b o e n hb (by simp)) (λb o _ hb _ e n=>u.slot b o e n hb (by simp)) (λb o _ e n=>u.free b o e n (by simp)) (λb o _ e=>u.there b o e (by simp)) u.tups u.frzs u.tbls (λm' hm=>by
  obtain⟨o',es',ep',ho',r'⟩:=hm
  rw[ho]at ho';cases ho'
  exact⟨_,es',ep',hL,r'⟩) hok I.bare
theorem Inv.call{g':Array GenState}{t':Nat}{d':Drawn}{ch:List Addr}(I:Inv X pins σ H s)(u:Un (frs X.stack) ch H H' s.heap h')(hok:HOk X.prog X.w H' h')(hg:AllBare g')
 (hch:∀b∈ch,(b∈X.ex\/X.sh.heap.objs.size<=b)/\b≠X.env.locals/\(∀x c,X.env.cells.lookup x=some c->c≠b)/\∀p∈X.pn++pins,p.1≠b) :
 Inv X pins σ H' {s with heap:=h',gens:=g',drawn:=d',toks:=t' }:=by
 obtain⟨m,⟨o,es,ep,ho,r⟩,_⟩:=id I.loc
 obtain⟨sl,hL⟩:=u.any ho I.free λz=>(hch _ z).2.1 rfl
 exact I.step (ch:=ch) hch (λb o hL hb hc e n=>u.keep b o e n (λz=>(bU.mp (I.stkSub b z)).elim hL hb) hc) (λb o _ _ hc e n=>u.any e n hc) (λb o hc e n=>u.free b o e n hc) (λb o hc e=>u.there b o e hc) u.tups u.frzs u.tbls (λm' hm=>by
  obtain⟨o',es',ep',ho',r'⟩:=hm
  rw[ho]at ho';cases ho'
  exact⟨_,es',ep',hL,r'⟩) hok hg
theorem Inv.turned{t':Nat}{it:Addr}(I:Inv X pins σ H s)(k:∀b o,b≠it->s.heap.get? b=some o->h'.get? b=some o)(hn:H it=none)(hL:it≠X.env.locals)
 (h1:it∈X.ex\/X.sh.heap.objs.size<=it) (h2:∀x c,X.env.cells.lookup x=some c->c≠it) (h3:∀p∈X.pn++pins,p.1≠it):Inv X pins σ H {s with heap:=h',toks:=t' }:=by
 have nit:∀b u,H b=some u->b≠it:=λb u e z=>by rw[z,hn]at e;cases e
 refine I.step (g':=s.gens) (d':=s.drawn) (ch:=[it]) (λb hb=>?_) (λb o _ _ hc e _=>k b o (λz=>hc (by simp[z])) e) (λb o _ _ hc e _=>⟨o.slots,k b o (λz=>hc (by simp[z])) e⟩) (λ_ _ _ _ n=>n)
  (λb o hc e=>⟨o,k b o (λz=>hc (by simp[z])) e⟩) (λ_ _ e=>e) (λ_ _ _ e=>e) (λb ps e=>⟨#[],by rw[e];simp⟩) (λm hm=>?_) (λb u e=>?_) I.bare
 ·have e:b=it:=by simpa using hb
  subst e
  exact⟨h1,hL,h2,h3⟩
 ·obtain⟨o,es,ep,ho,r⟩:=hm
  exact⟨o,es,ep,k _ o (Ne.symm hL) ho,r⟩
 ·refine(I.hok b u e).stay (λc v hc q=>k c v ?_ q) (λ_ q=>q) (λ_ _ q=>q) λ_ _ _ q=>q
  rcases hc with z|z
  ·rw[z];exact nit b u e
  ·exact nit c _ z
theorem Inv.tok(I:Inv X pins σ H s)(t:Nat):Inv X pins σ H {s with toks:=t}:=I.un (h':=s.heap) (t':=t) Un.refl I.hok
theorem Inv.kept(I:Inv X pins σ H s)(k:∀b u,s.heap.get? b=some u->h'.get? b=some u):Inv X pins σ H {s with heap:=h',toks:=t' }:=I.un (Un.kept k) (I.hok.kept k)
theorem Inv.laid{o:HO}(I:Inv X pins σ H s)(k:∀b u,s.heap.get? b=some u->h'.get? b=some u)(hp:s.heap.objs.size<=a)(new:ObjOk X.prog X.w (upd H a o) h' a o) :
 Inv X pins σ (upd H a o) {s with heap:=h',toks:=t' }:=I.un (Un.laid k hp (I.hok.fresh hp)) (I.hok.laid k hp new)
theorem Inv.write{x e:Addr}{o:HO}{t':Nat}(I:Inv X pins σ H s)(mu:Mut (H x))(he:e=x\/H e=some (.own x))(k:∀b u,b≠e->s.heap.get? b=some u->h'.get? b=some u)(heo:∃u,h'.get? e=some u)
 (new:ObjOk X.prog X.w (upd H x o) h' x o):Inv X pins σ (upd H x o) {s with heap:=h',toks:=t' }:=I.un (Un.write mu he k heo) (I.hok.write mu he k heo new)
theorem Inv.pins_of{pins':List (Addr×Obj)}(I:Inv X pins σ H s)(h:∀p∈pins',s.heap.get? p.1=some p.2/\H p.1=none/\p.1≠X.env.locals/\p.1∉X.fs/\∀v,p.2.data≠.cell v):Inv X pins' σ H s:=
 ⟨I.ok,I.os,I.bare,I.base,I.loc,I.cell,I.free,I.freeC,λp hp=>(eO.mp hp).elim (λz=>I.pin p (rG _ z)) (h p),I.hok,I.len⟩
theorem xO{N:List Str}(hN:N.Nodup){i j:Nat}{x:Str}(a:N[i]?=some x)(b:N[j]?=some x):i=j:=by
 obtain⟨h1,e1⟩:=cT.mp a
 obtain⟨h2,e2⟩:=cT.mp b
 exact(Ni hN).mp (e1.trans e2.symm)
theorem xP{M:Model}{A:Around}{E:Value->Shared->Prop}{i:Nat}{x:Str}{v:V}{u:Value}{Q:Unit->Shared->Prop}(I:Inv X pins σ H s)(hN:X.N.Nodup)(hi:X.N[i]?=some x)(hx:Loc X.env.scope x)(r:RelV v u)
 (h:∀s',Inv X pins (σ.set i (some v)) H s'->(∃a,Heap.SameBut a s.heap s'.heap/\(a=X.env.locals\/X.env.cells.lookup x=some a))->Q () s') (hf:X.fn x=true\/X.env.scope.names.lookup x=some .local:=by first|exact .inl rfl|exact .inr rfl|assumption):wpAny M A (storeName X.env x u) Q E s:=by
 obtain⟨m,hn,hl⟩:=id I.loc
 have hcls:(X.env.scope.kind==.class||(X.env.scope.kind==.module&&X.env.locals != X.env.globals))=false:=by rw[I.ok.kind];rfl
 have hiσ:i<σ.length:=by rw[I.len];exact(cT.mp hi).1
 have cne:=I.cne
 have tracked:∀{a:Addr} {h':Heap},(∃o,s.heap.get? a=some o/\H a=none)->Heap.SameBut a s.heap h'->HOk X.prog X.w H h':=λ{a h'} ha hs b ob e=>by
  obtain⟨_,_,hfree⟩:=ha
  refine(I.hok b ob e).stay (λc w' hc q=>(hs.2 c ?_).trans q) (λ_ q=>q) (λ_ _ q=>q) λ_ _ _ q=>q
  rintro rfl
  rcases hc with rfl|hc
  ·rw[hfree]at e;cases e
  ·rw[hfree]at hc;cases hc
 rcases hx with hk|hk
 ·refine wpAny_storeName_local hk hn (λh' hn' hs=>?_) hcls
  obtain⟨oL,_,_,hoL,_⟩:=id hn
  refine h _ ⟨I.ok,I.os,I.bare,⟨λb o e n hb hx=>?_,λb o e n hb hx=>?_,I.base.free,λb o e hx=>?_,I.base.tups,I.base.frzs,I.base.tbls⟩,⟨_,hn',λj y v' e1 e2 e3=>?_⟩,λy c e=>?_,I.free,I.freeC,λp hp=>?_,tracked ⟨oL,hoL,I.free⟩ hs,by simpa using I.len⟩ ⟨_,hs,.inl rfl⟩
  ·exact(hs.2 b (cE (dP (Heap.lt_size e) I.ok.above))).trans (I.base.keep b o e n hb hx)
  ·obtain⟨sl,e1⟩:=I.base.slot b o e n hb hx
   exact⟨sl,(hs.2 b (cE (dP (Heap.lt_size e) I.ok.above))).trans e1⟩
  ·obtain⟨o',e1⟩:=I.base.there b o e hx
   exact⟨o',(hs.2 b (cE (dP (Heap.lt_size e) I.ok.above))).trans e1⟩
  ·by_cases hj:j=i
   ·subst hj
    rw[hi]at e1;cases e1
    rw[wV hiσ]at e2
    cases e2
    exact⟨u,r,.inl ⟨hk,by simp⟩⟩
   ·rw[wW (Ne.symm hj)]at e2
    obtain⟨u',r',q⟩:=hl j y v' e1 e2 e3
    refine⟨u',r',?_⟩
    rcases q with⟨k,e⟩|⟨k,c,e,z⟩
    ·refine .inl ⟨k,?_⟩
     have:y≠x:=λe=>hj (xO hN e1 (e▸hi))
     simp[this,e]
    ·exact .inr ⟨k,c,e,z.sameBut hs (cne y c e)⟩
  ·obtain⟨w',z⟩:=I.cell y c e
   exact⟨w',z.sameBut hs (cne y c e)⟩
  ·obtain⟨e,n,ne,nf,d⟩:=I.pin p hp
   exact⟨(hs.2 p.1 ne).trans e,n,ne,nf,d⟩
 ·have hfn:X.fn x=true:=by
   rcases hf with z|z
   ·exact z
   ·rw[z]at hk;cases hk
  obtain⟨c,hc⟩:=I.ok.has x (.inl hk)
  obtain⟨w',z⟩:=I.cell x c hc
  refine wpAny_storeName_cell I.ok.kind hk hc z (λh' hc' hs=>?_)
  obtain⟨oc,hoc,hocd⟩:=id z
  refine h {s with heap:=h' } ⟨I.ok,I.os,I.bare,⟨λb o e n hb hx=>?_,λb o e n hb hx=>?_,I.base.free,λb o e hx=>?_,I.base.tups,I.base.frzs,I.base.tbls⟩,⟨m,hn.sameBut hs (Ne.symm (cne x c hc)),λj y v' e1 e2 e3=>?_⟩,λy c' e=>?_,I.free,I.freeC,λp hp=>?_,tracked ⟨oc,hoc,I.freeC x c hc⟩ hs,by simpa using I.len⟩ ⟨c,hs,.inr hc⟩
  ·exact(hs.2 b (cE (dP (Heap.lt_size e) (I.ok.cab x c hfn hc)))).trans (I.base.keep b o e n hb hx)
  ·obtain⟨sl,e1⟩:=I.base.slot b o e n hb hx
   exact⟨sl,(hs.2 b (cE (dP (Heap.lt_size e) (I.ok.cab x c hfn hc)))).trans e1⟩
  ·obtain⟨o',e1⟩:=I.base.there b o e hx
   exact⟨o',(hs.2 b (cE (dP (Heap.lt_size e) (I.ok.cab x c hfn hc)))).trans e1⟩
  ·by_cases hj:j=i
   ·subst hj
    rw[hi]at e1;cases e1
    rw[wV hiσ]at e2
    cases e2
    exact⟨u,r,.inr ⟨.inl hk,c,hc,hc'⟩⟩
   ·rw[wW (Ne.symm hj)]at e2
    obtain⟨u',r',q⟩:=hl j y v' e1 e2 e3
    refine⟨u',r',?_⟩
    rcases q with q|⟨k,c',e,z'⟩
    ·exact .inl q
    ·refine .inr ⟨k,c',e,z'.sameBut hs ?_⟩
     rintro rfl
     exact hj (xO hN e1 (I.ok.inj _ _ _ e hc▸hi))
  ·by_cases hcc:c'=c
   ·subst hcc;exact⟨_,hc'⟩
   ·obtain⟨w2,z2⟩:=I.cell y c' e
    exact⟨w2,z2.sameBut hs hcc⟩
  ·obtain⟨e,n,ne,nf,d⟩:=I.pin p hp
   refine⟨(hs.2 p.1 ?_).trans e,n,ne,nf,d⟩
   intro q
   rw[q,hoc]at e
   have q':oc=p.2:=dJ.inj e
   exact d w' (by rw[<-q'];exact hocd)
theorem rV{M:Model}{A:Around}{E:Value->Shared->Prop}{i:Nat}{x:Str}{v:V}{u:Value}{Q:Unit->Shared->Prop}(I:Inv X pins σ H s)(hN:X.N.Nodup)(hi:X.N[i]?=some x)(hx:Loc X.env.scope x)(r:RelV v u)
 (h:∀s',Inv X pins (σ.set i (some v)) H s'->Q () s') (hf:X.fn x=true\/X.env.scope.names.lookup x=some .local:=by first|exact .inl rfl|exact .inr rfl|assumption):wpAny M A (storeName X.env x u) Q E s:=
 xP I hN hi hx r (λs' I' _=>h s' I') hf
theorem Inv.call'{s':Shared}{ch:List Addr}(I:Inv X pins σ H s)(ho:s'.os=s.os)(u:Un (frs X.stack) ch H H' s.heap s'.heap)(hok:HOk X.prog X.w H' s'.heap)(hg:AllBare s'.gens)
 (hch:∀b∈ch,(b∈X.ex\/X.sh.heap.objs.size<=b)/\b≠X.env.locals/\(∀x c,X.env.cells.lookup x=some c->c≠b)/\∀p∈X.pn++pins,p.1≠b):Inv X pins σ H' s':=by
 obtain⟨h',g',d',t',o'⟩:=s'
 have e:o'=s.os:=ho
 subst e
 exact I.call (g':=g') (t':=t') (d':=d') u hok hg hch
end
noncomputable abbrev XK:=Value->Option Addr->Hp->Prop
noncomputable abbrev St:=List (Option V)
noncomputable abbrev VK:=V->Hp->Prop
noncomputable abbrev TE:=St->Hp->VK->Prop
noncomputable abbrev TT:=St->Hp->(Bool->Hp->Prop)->Prop
noncomputable abbrev TA:=St->Hp->(List V->Hp->Prop)->Prop
set_option genInjectivity false in
structure Ends where
 nx:St->Hp->Prop
 rt:VK
 bk:St->Hp->Prop:=λ_ _=>False
 ct:St->Hp->Prop:=λ_ _=>False
noncomputable abbrev TS:=Ends->St->Hp->Prop
noncomputable def EP(X:Cx)(pins:List (Addr×Obj))(σ:St)(Q:VK)(u:Value)(s':Shared):Prop:=∃v H',Inv X pins σ H' s'/\RelV v u/\Q v H'
noncomputable def TP(X:Cx)(pins:List (Addr×Obj))(σ:St)(Q:Bool->Hp->Prop)(b:Bool)(s':Shared):Prop:=∃H',Inv X pins σ H' s'/\Q b H'
noncomputable def AP(X:Cx)(pins:List (Addr×Obj))(σ:St)(Q:List V->Hp->Prop)(us:List Value)(s':Shared):Prop:=∃vs H',Inv X pins σ H' s'/\Vals vs us/\Q vs H'
noncomputable def SP(X:Cx)(pins:List (Addr×Obj))(D:Ends)(f:Flow)(s':Shared):Prop:=
 match f with
 |.next=>∃σ' H',Inv X pins σ' H' s'/\D.nx σ' H'
 |.brk=>∃σ' H',Inv X pins σ' H' s'/\D.bk σ' H'
 |.cont=>∃σ' H',Inv X pins σ' H' s'/\D.ct σ' H'
 |.ret u=>∃v σ' H',Inv X pins σ' H' s'/\RelV v u/\D.rt v H'
noncomputable def PE(X:Cx)(e:Expr)(t:TE):Prop:=
 ∀(pins:List (Addr×Obj))(s:Shared)(σ:St)(H:Hp)(Q:VK),Inv X pins σ H s->t σ H Q->wpAny (model X.prog X.w) X.A (eval e X.env) (EP X pins σ Q) X.xe s
noncomputable def PT(X:Cx)(e:Expr)(t:TT):Prop:=
 ∀(pins:List (Addr×Obj))(s:Shared)(σ:St)(H:Hp)(Q:Bool->Hp->Prop),Inv X pins σ H s->t σ H Q->wpAny (model X.prog X.w) X.A (isTrue e X.env (eval e X.env)) (TP X pins σ Q) X.xe s
noncomputable def PW(X:Cx)(e:Expr)(t:TT):Prop:=
 ∀(whole:Sem Value)(pins:List (Addr×Obj))(s:Shared)(σ:St)(H:Hp)(Q:Bool->Hp->Prop),Inv X pins σ H s->t σ H Q->wpAny (model X.prog X.w) X.A (isTrue e X.env whole) (TP X pins σ Q) X.xe s
theorem PW.pt{X:Cx}{e:Expr}{t:TT}(h:PW X e t):PT X e t:=h _
noncomputable def PA(X:Cx)(es:List Expr)(t:TA):Prop:=
 ∀(pos:Pos)(pins:List (Addr×Obj))(s:Shared)(σ:St)(H:Hp)(Q:List V->Hp->Prop),Inv X pins σ H s->t σ H Q->wpAny (model X.prog X.w) X.A (spliced (backTo pos (starEach es X.env))) (AP X pins σ Q) X.xe s
noncomputable def PS(X:Cx)(st:Stmt)(t:TS):Prop:=
 ∀(pins:List (Addr×Obj))(s:Shared)(σ:St)(H:Hp)(D:Ends),Inv X pins σ H s->t D σ H->wpAny (model X.prog X.w) X.A (exec st X.env) (SP X pins D) X.xe s
noncomputable def PSs(X:Cx)(st:List Stmt)(t:TS):Prop:=
 ∀(pins:List (Addr×Obj))(s:Shared)(σ:St)(H:Hp)(D:Ends),Inv X pins σ H s->t D σ H->wpAny (model X.prog X.w) X.A (execs st X.env) (SP X pins D) X.xe s
theorem thn{α:Type}{t:Sem α}{Q Q':α->Shared->Prop}{M:Model}{A:Around}{E:Value->Shared->Prop}{s:Shared}(h:wpAny M A t Q E s)(hQ:∀a s,Q a s->Q' a s):wpAny M A t Q' E s:=wpAny_mono h hQ λ_ _ x=>x
end L2
namespace L2
open PySem PySem.Spec PyProof.Rows
variable{pos:Pos}{x:Str}{v:V}{u:Value}
section
variable{X:Cx}
noncomputable def tVar(i:Nat):TE:=λσ H Q=>∃v,σ[i]?=some (some v)/\Q v H
noncomputable def tC(v:V):TE:=λ_ H Q=>Q v H
theorem fV {i:Nat} (hN:X.N[i]?=some x) (hv:Vis X.env.scope x) (hd:(x==("__debug__" : Str))=false:=by decide) (hcd:(x==("__classdict__" : Str))=false:=by decide):PE X (.Name x pos) (tVar i):=by
 intro pins s σ H Q I h
 obtain⟨v,e,h⟩:=h
 obtain⟨m,hn,hl⟩:=I.loc
 obtain⟨u,r,l⟩:=hl i x v hN e hv
 have fin:EP X pins σ Q u s:=⟨v,H,I,r,h⟩
 rcases l with⟨hk,hm⟩|⟨hk,c,hc,hcell⟩
 ·exact wpAny_Name (wpAny_loadName_local I.ok.kind hk hn hm fin) hd
 ·rcases hk with hk|hk
  ·exact wpAny_Name (wpAny_loadName_cell I.ok.kind hk hc hcell fin) hd
  ·exact wpAny_Name (wpAny_loadName_free I.ok.kind hk hc hcell fin hcd) hd
theorem pe_int{i j pos}:PE X (.Constant (.int i) j pos) (tC (.int i)):=λ_ _ _ H _ I h=>wpAny_Constant_int ⟨.int i,H,I.tok _,⟨_,rfl⟩,h⟩
theorem pe_bl{b j pos}:PE X (.Constant (.bool b) j pos) (tC (.bl b)):=λ_ _ _ H _ I h=>Constant_bool ⟨.bl b,H,I,rfl,h⟩
theorem pe_non{j pos}:PE X (.Constant .none j pos) (tC .non):=λ_ _ _ H _ I h=>Constant_none ⟨.non,H,I,rfl,h⟩
theorem pe_str{x j pos}:PE X (.Constant (.str x) j pos) (tC (.str x)):=λ_ _ _ H _ I h=>Calls.Constant_str ⟨.str x,H,I.tok _,⟨_,rfl⟩,h⟩
noncomputable def Gl(X:Cx)(x:Str):Prop:=X.env.kindOf x=some .globalImplicit
theorem oQ{E:Value->Shared->Prop}{pins:List (Addr×Obj)}{s:Shared}{σ:St}{H:Hp}{x:Str}{u:Value}{pos:Pos}{Q:Value->Shared->Prop}(I:Inv X pins σ H s)(hg:Gl X x)(hm:X.mg x=some u)(h:Q u s)
 (hd:(x==("__debug__" : Str))=false:=by decide):wpAny (model X.prog X.w) X.A (eval (.Name x pos) X.env) Q E s:=
 Calls.Name_function_global I.ok.kind hg (Calls.loadGlobal_global (by rw[I.ok.glob];exact I.mod.glob.keeps I.bk) hm h) hd
theorem iY{E:Value->Shared->Prop}{pins:List (Addr×Obj)}{s:Shared}{σ:St}{H:Hp}{x:Str}{u:Value}{pos:Pos}{Q:Value->Shared->Prop}(I:Inv X pins σ H s)(hg:Gl X x)(hm:X.mg x=none)(hv:bootBuiltins x=some u)(h:Q u s)
 (hn:x ≠ "__name__" := by decide) (hd:(x==("__debug__" : Str))=false:=by decide):wpAny (model X.prog X.w) X.A (eval (.Name x pos) X.env) Q E s:=by
 obtain⟨mb,h1,h2⟩:=I.mod.blt
 exact Calls.Name_function_global I.ok.kind hg (Calls.loadGlobal_builtin (by rw[I.ok.glob];exact I.mod.glob.keeps I.bk) hm (by rw[I.ok.blt];exact h1.keeps I.bk) ((h2 x hn).trans hv) h) hd
theorem Fb (hg:Gl X x) (hm:X.mg x=some u) (r:RelV v u) (hd:(x==("__debug__" : Str))=false:=by decide):PE X (.Name x pos) (tC v):=
 λ_ _ _ H _ I h=>oQ I hg hm ⟨v,H,I,r,h⟩ hd
theorem Fd (hg:Gl X x) (hm:X.mg x=none) (hv:bootBuiltins x=some u) (r:RelV v u) (hn:x ≠ "__name__" := by decide) (hd:(x==("__debug__" : Str))=false:=by decide):PE X (.Name x pos) (tC v):=
 λ_ _ _ H _ I h=>iY I hg hm hv ⟨v,H,I,r,h⟩ hn hd
variable{a b:Expr}{ta tb:TE}{pos:Pos}
variable{tA tB':TT}{rest:List Expr}
noncomputable def tAnd(t u:TT):TT:=λσ H Q=>t σ H λc H1=>if c=true then u σ H1 Q else Q false H1
noncomputable def tOr(t u:TT):TT:=λσ H Q=>t σ H λc H1=>if c=true then Q true H1 else u σ H1 Q
noncomputable def tNot(t:TT):TT:=λσ H Q=>t σ H λc H1=>Q (!c) H1
theorem Fe(ha:PT X a tA):PW X (.BoolOp .And [a] pos) tA:=by
 intro wh pins s σ H Q I h
 refine isTrue_and (thn (ha pins s σ H Q I h) λc s1 e=>?_)
 cases c with
 |true=>exact isTrue_and_nil e
 |false=>exact e
theorem pw_or1(ha:PT X a tA):PW X (.BoolOp .Or [a] pos) tA:=by
 intro wh pins s σ H Q I h
 refine isTrue_or (thn (ha pins s σ H Q I h) λc s1 e=>?_)
 cases c with
 |false=>exact isTrue_or_nil e
 |true=>exact e
theorem pw_and(ha:PT X a tA)(hb:PW X (.BoolOp .And (b::rest) pos) tB'):PW X (.BoolOp .And (a::b::rest) pos) (tAnd tA tB'):=by
 intro wh pins s σ H Q I h
 refine isTrue_and (thn (ha pins s σ H _ I h) λc s1 ⟨H1,I1,q1⟩=>?_)
 cases c with
 |true=>exact hb wh pins s1 σ H1 Q I1 q1
 |false=>exact⟨H1,I1,q1⟩
theorem pw_or(ha:PT X a tA)(hb:PW X (.BoolOp .Or (b::rest) pos) tB'):PW X (.BoolOp .Or (a::b::rest) pos) (tOr tA tB'):=by
 intro wh pins s σ H Q I h
 refine isTrue_or (thn (ha pins s σ H _ I h) λc s1 ⟨H1,I1,q1⟩=>?_)
 cases c with
 |true=>exact⟨H1,I1,q1⟩
 |false=>exact hb wh pins s1 σ H1 Q I1 q1
theorem pt_not(ha:PT X a tA):PT X (.UnaryOp .Not a pos) (tNot tA):=by
 intro pins s σ H Q I h
 exact isTrue_not (ha pins s σ H (λc H1=>Q (!c) H1) I h)
theorem pe_one{op}{t:TE}(h:PE X a t):PE X (.BoolOp op [a] pos) t:=λpins s σ H Q I hw=>BoolOp_one (h pins s σ H Q I hw)
noncomputable def tIf(t:TT)(ta tb:TE):TE:=λσ H Q=>t σ H λc H1=>if c=true then ta σ H1 Q else tb σ H1 Q
theorem Ff{c:Expr}(hc:PT X c tA)(ha:PE X a ta)(hb:PE X b tb):PE X (.IfExp c a b pos) (tIf tA ta tb):=by
 intro pins s σ H Q I h
 refine wpAny_IfExp (thn (hc pins s σ H _ I h) λd s1 ⟨H1,I1,q1⟩=>?_)
 cases d with
 |true=>exact ha pins s1 σ H1 Q I1 q1
 |false=>exact hb pins s1 σ H1 Q I1 q1
end
end L2
namespace L2
open PySem PySem.Spec PyProof.Rows
variable{X:Cx}{c e tg:Expr}{H:Hp}{pins:List (Addr×Obj)}{i:Nat}{pos':Pos}{P:Program}{K:PySem.W.Frag}{s:Shared}{σ:St}{x:Str}{te:TE}{tc:TT}{u:Value}{w:World}
noncomputable def SqL(K:PySem.W.Frag)(H:Hp)(a:Addr)(xs:List V):Prop:=
 Rd H a (.lst xs) \/
  ∃(o:Obj) (its:Array Value) (n:Nat),K.lookup a=some o/\o.cls=.type "list" /\ o.dict=none/\o.data=.seq its n/\its.size<=sizeLine/\Vals xs its.toList
noncomputable def SqT(K:PySem.W.Frag)(H:Hp)(a:Addr)(xs:List V):Prop:=
 Rd H a (.tup xs) \/
  ∃(o:Obj) (its:Array Value) (n:Nat),K.lookup a=some o/\o.cls=.type "tuple" /\ o.data=.seq its n/\its.size<=sizeLine/\Vals xs its.toList
noncomputable def absV:Value->Option V
 |.none=>some .non
 |.bool b=>some (.bl b)
 |.int i _=>some (.int i)
 |.str x _=>some (.str x)
 |.bytes b _=>some (.byt b)
 |.float b _=>some (.flt b)
 |.ref a=>some (.ref a)
 |.type n=>some (.ty n)
 |_=>none
theorem RelV.abs{x:V}(r:RelV x u):absV u=some x:=by
 cases x with
 |non=>cases r;rfl
 |bl _=>cases r;rfl
 |int _=>obtain⟨t,rfl⟩:=r;rfl
 |str _=>obtain⟨t,rfl⟩:=r;rfl
 |byt _=>obtain⟨t,rfl⟩:=r;rfl
 |flt _=>obtain⟨t,rfl⟩:=r;rfl
 |ref _=>cases r;rfl
 |ty _=>cases r;rfl
theorem RelV.inj{x y:V}(r:RelV x u)(q:RelV y u):x=y:=dJ.inj (r.abs.symm.trans q.abs)
theorem Vals.inj:∀{xs ys:List V} {us:List Value},Vals xs us->Vals ys us->xs=ys
 |_,_,_,.nil,.nil=>rfl
 |_,_,_,.cons r t,.cons r' t'=>by rw[r.inj r',Vals.inj t t']
section
variable{X:Cx}{pins:List (Addr×Obj)}{σ:St}{H:Hp}{s:Shared}{a:Addr}{xs ys:List V}
theorem SqL.of(h:H a=some (.lst xs)):SqL K H a xs:=.inl (.inl h)
theorem Inv.list(I:Inv X pins σ H s)(h:SqL X.K H a xs):∃its:List Value,Vals xs its/\PlainL s.heap a its.toArray/\xs.length<=sizeLine:=by
 rcases h with h|⟨o,its,n,hk,hc,hd,hs,hz,r⟩
 ·obtain⟨z,its,n,r,e⟩:=h.ok I.hok
  exact⟨its,r,⟨_,n,e,rfl,rfl,rfl⟩,z⟩
 ·refine⟨its.toList,r,⟨o,n,I.kIn a o hk,hc,hd,by simpa using hs⟩,?_⟩
  have e:=r.length
  simp only[oG]at e
  lia
theorem Inv.tuple(I:Inv X pins σ H s)(h:SqT X.K H a xs):∃its:List Value,Vals xs its/\IsTup s.heap a its.toArray/\xs.length<=sizeLine:=by
 rcases h with h|⟨o,its,n,hk,hc,hs,hz,r⟩
 ·obtain⟨z,its,r,p⟩:=h.ok I.hok
  exact⟨its,r,p,z⟩
 ·refine⟨its.toList,r,⟨o,I.kIn a o hk,hc,n,by simpa using hs⟩,?_⟩
  have e:=r.length
  simp only[oG]at e
  lia
theorem Inv.list_inj(I:Inv X pins σ H s)(h:SqL X.K H a xs)(h':SqL X.K H a ys):xs=ys:=by
 obtain⟨its,r,⟨o,n,e,_,_,d⟩,_⟩:=I.list h
 obtain⟨its',r',⟨o',n',e',_,_,d'⟩,_⟩:=I.list h'
 rw[e]at e';cases e'
 rw[d]at d'
 injection d' with d1 _
 have:its=its':=by simpa using congrArg Array.toList d1
 subst this
 exact r.inj r'
theorem Inv.tuple_inj(I:Inv X pins σ H s)(h:SqT X.K H a xs)(h':SqT X.K H a ys):xs=ys:=by
 obtain⟨its,r,⟨o,e,_,n,d⟩,_⟩:=I.tuple h
 obtain⟨its',r',⟨o',e',_,n',d'⟩,_⟩:=I.tuple h'
 rw[e]at e';cases e'
 rw[d]at d'
 injection d' with d1 _
 have:its=its':=by simpa using congrArg Array.toList d1
 subst this
 exact r.inj r'
end
noncomputable abbrev Cx.wish(X:Cx)(E:Value->Shared->Prop):Cx:={X with xe:=E}
noncomputable abbrev Cx.nox(X:Cx):Cx:=X.wish λ_ _=>False
theorem Cx.Ok.wish(ok:X.Ok)(E:Value->Shared->Prop):(X.wish E).Ok:=
 ⟨ok.mod,ok.kind,ok.glob,ok.blt,ok.above,ok.inj,ok.has,ok.cab,ok.hd,ok.frames,ok.stk,ok.exf,ok.bs,ok.bsz,ok.noex,ok.exfs,ok.funs,ok.frf⟩
theorem Cx.Ok.unwish{E:Value->Shared->Prop}(ok:(X.wish E).Ok):X.Ok:=
 ⟨ok.mod,ok.kind,ok.glob,ok.blt,ok.above,ok.inj,ok.has,ok.cab,ok.hd,ok.frames,ok.stk,ok.exf,ok.bs,ok.bsz,ok.noex,ok.exfs,ok.funs,ok.frf⟩
section
variable{X:Cx}{pins:List (Addr×Obj)}{σ:St}{H:Hp}{s:Shared}{E:Value->Shared->Prop}
theorem Inv.wish(I:Inv X pins σ H s)(E:Value->Shared->Prop):Inv (X.wish E) pins σ H s:=⟨I.ok.wish E,I.os,I.bare,I.base,I.loc,I.cell,I.free,I.freeC,I.pin,I.hok,I.len⟩
theorem Inv.unwish(I:Inv (X.wish E) pins σ H s):Inv X pins σ H s:=⟨I.ok.unwish,I.os,I.bare,I.base,I.loc,I.cell,I.free,I.freeC,I.pin,I.hok,I.len⟩
theorem SP.unwish{D:Ends}{f:Flow}{s':Shared}(h:SP (X.wish E) pins D f s'):SP X pins D f s':=by
 cases f with
 |next=>obtain⟨σ',H',I,q⟩:=h;exact⟨σ',H',I.unwish,q⟩
 |brk=>obtain⟨σ',H',I,q⟩:=h;exact⟨σ',H',I.unwish,q⟩
 |cont=>obtain⟨σ',H',I,q⟩:=h;exact⟨σ',H',I.unwish,q⟩
 |ret u=>obtain⟨v,σ',H',I,r,q⟩:=h;exact⟨v,σ',H',I.unwish,r,q⟩
theorem PSs.nox{st:List Stmt}{t:TS}(h:PSs X.nox st t):PSs X st t:=λpins s σ H D I hw=>
 wpAny_mono (h pins s σ H D (I.wish _) hw) (λ_ _ q=>q.unwish) λ_ _ z=>False.elim z
end
section
variable{X:Cx}{st:Stmt}{rest:List Stmt}{t u:TS}{e:Expr}{te:TE}{pos:Pos}
noncomputable def tNext:TS:=λD σ H=>D.nx σ H
noncomputable def tSeq(t u:TS):TS:=λD σ H=>t {D with nx:=u D} σ H
theorem Fg:PSs X [] tNext:=λ_ _ σ H _ I h=>wpAny_execs_nil ⟨σ,H,I,h⟩
theorem oR(h1:PS X st t)(h2:PSs X rest u):PSs X (st::rest) (tSeq t u):=by
 intro pins s σ H D I h
 refine wpAny_execs_cons (thn (h1 pins s σ H {D with nx:=u D} I h) λf s1 q=>?_)
 cases f with
 |next=>
  obtain⟨σ',H',I',q⟩:=q
  exact h2 pins s1 σ' H' D I' q
 |ret v=>exact q
 |brk=>exact q
 |cont=>exact q
theorem Fh(h1:PS X st t):PSs X [st] t:=by
 intro pins s σ H D I h
 refine wpAny_execs_cons (thn (h1 pins s σ H D I h) λf s1 q=>?_)
 cases f with
 |next=>exact wpAny_execs_nil q
 |ret v=>exact q
 |brk=>exact q
 |cont=>exact q
noncomputable def tBreak:TS:=λD σ H=>D.bk σ H
noncomputable def tCont:TS:=λD σ H=>D.ct σ H
theorem Fj:PS X (.Break pos) tBreak:=λ_ _ σ H _ I h=>wpAny_Break ⟨σ,H,I,h⟩
theorem Fl:PS X (.Continue pos) tCont:=λ_ _ σ H _ I h=>wpAny_Continue ⟨σ,H,I,h⟩
theorem Inv.quiet(I:Inv X pins σ H s):interactive X.env=false:=by simp[interactive,I.ok.kind]
noncomputable def tDrop(te:TE):TS:=λD σ H=>te σ H λ_ H1=>D.nx σ H1
theorem oS(he:PE X e te)(hs:swapsWith e none pos.line X.env=pure false:=by rfl):PS X (.Expr e pos) (tDrop te):=by
 intro pins s σ H D I h
 exact wpAny_Expr_any (thn (he pins s σ H _ I h) λv s1 ⟨x,H1,I1,r1,q1⟩=>⟨σ,H1,I1,q1⟩) I.quiet hs
noncomputable def tRet(te:TE):TS:=λD σ H=>te σ H D.rt
theorem rW(he:PE X e te):PS X (.Return (some e) pos) (tRet te):=by
 intro pins s σ H D I h
 exact wpAny_Return_some (thn (he pins s σ H _ I h) λv s1 ⟨x,H1,I1,r1,q1⟩=>⟨x,σ,H1,I1,r1,q1⟩)
noncomputable def tIfS(c:TT)(t u:TS):TS:=λD σ H=>c σ H λb H1=>if b=true then t D σ H1 else u D σ H1
theorem ps_if{a b:List Stmt}(hc:PT X c tc)(ha:PSs X a t)(hb:PSs X b u):PS X (.If c a b pos) (tIfS tc t u):=by
 intro pins s σ H D I h
 refine wpAny_If (thn (hc pins s σ H _ I h) λd s1 ⟨H1,I1,q1⟩=>?_)
 cases d with
 |true=>exact ha pins s1 σ H1 D I1 q1
 |false=>exact hb pins s1 σ H1 D I1 q1
noncomputable def tNever:TS:=λ_ _ _=>False
theorem Fn:PS X st tNever:=λ_ _ _ _ _ _ h=>h.elim
end
noncomputable abbrev TG:=V->St->Hp->(St->Hp->Prop)->Prop
noncomputable abbrev TGs:=List V->St->Hp->(St->Hp->Prop)->Prop
noncomputable def PG(X:Cx)(target:Expr)(t:TG):Prop:=
 ∀(pins:List (Addr×Obj))(s:Shared)(σ:St)(H:Hp)(v:V)(u:Value)(Q:St->Hp->Prop),Inv X pins σ H s->RelV v u->t v σ H Q ->
  wpAny (model X.prog X.w) X.A (assign target X.env u) (λ_ s'=>∃σ' H',Inv X pins σ' H' s'/\Q σ' H') X.xe s
noncomputable def PGs(X:Cx)(ts:List Expr)(t:TGs):Prop:=
 ∀(pins:List (Addr×Obj))(s:Shared)(σ:St)(H:Hp)(vs:List V)(us:List Value)(Q:St->Hp->Prop),Inv X pins σ H s->Vals vs us->t vs σ H Q ->
  wpAny (model X.prog X.w) X.A (assignInOrder ((assignEach ts X.env).map (·.2)) us) (λ_ s'=>∃σ' H',Inv X pins σ' H' s'/\Q σ' H') X.xe s
noncomputable abbrev TIp:=V->V->Hp->VK->Prop
noncomputable def PIp(X:Cx)(op:Operator)(t:TIp):Prop:=
 ∀(pins:List (Addr×Obj))(s:Shared)(σ:St)(H:Hp)(x y:V)(v u:Value)(Q:VK),Inv X pins σ H s->RelV x v->RelV y u->t x y H Q ->
  wpAny (model X.prog X.w) X.A (inplaceOp op v u) (EP X pins σ Q) X.xe s
section
variable{X:Cx}{pos:Pos}
noncomputable def xQ(i:Nat):TG:=λv σ H Q=>Q (σ.set i (some v)) H
theorem xR(hN:X.N.Nodup)(hi:X.N[i]?=some x)(hx:Loc X.env.scope x)(hf:X.fn x=true\/X.env.scope.names.lookup x=some .local:=by first|exact .inl rfl|exact .inr rfl|assumption):PG X (.Name x pos) (xQ i):=by
 intro pins s σ H v u Q I r h
 exact wpAny_assign_Name (rV I hN hi hx r (λs' I'=>⟨_,H,I',h⟩) hf)
noncomputable def gNil:TGs:=λvs σ H Q=>vs=[]/\Q σ H
noncomputable def gCons(t:TG)(u:TGs):TGs:=λvs σ H Q=>∃v r,vs=v::r/\t v σ H λσ' H'=>u r σ' H' Q
theorem Fo:PGs X [] gNil:=by
 intro pins s σ H vs us Q I r h
 obtain⟨e,h⟩:=h
 subst e
 cases r
 exact assignInOrder_nil ⟨σ,H,I,h⟩
theorem Fp{e:Expr}{es:List Expr}{t:TG}{u:TGs}(h1:PG X e t)(h2:PGs X es u)
 (hs:(assignEach (e::es) X.env).map (·.2)=assign e X.env::(assignEach es X.env).map (·.2):=by rfl):PGs X (e::es) (gCons t u):=by
 intro pins s σ H vs us Q I r h
 obtain⟨v,vr,e1,h⟩:=h
 subst e1
 cases r with
 |cons r rr=>
  rw[hs]
  refine assignInOrder_cons (thn (h1 pins s σ H _ _ _ I r h) λ_ s1 ⟨σ1,H1,I1,q1⟩=>?_)
  exact h2 pins s1 σ1 H1 _ _ Q I1 rr q1
noncomputable def gTup(K:PySem.W.Frag)(n:Nat)(t:TGs):TG:=λv σ H Q=>∃a xs,v=.ref a/\SqT K H a xs/\xs.length=n/\t xs σ H Q
theorem pg_tup{es:List Expr}{k:Nat}{t:TGs}{n:Nat}(hc:X.calm=true)(h:PGs X es t)
 (hn:(assignEach es X.env).length=n:=by rfl) (hst:(assignEach es X.env).findIdx? (·.1)=none:=by rfl):PG X (.Tuple es k pos) (gTup X.K n t):=by
 intro pins s σ H v u Q I r hw
 obtain⟨a,xs,e1,hq,hl,hw⟩:=hw
 subst e1
 cases r
 obtain⟨its,rv,ht,hz⟩:=I.tuple hq
 refine assign_Tuple_tuple (I.ok.hd hc) ht (by simp[hn,<-hl,rv.length]) hst λh' hx=>?_
 have I1:Inv X pins σ H {s with heap:=h' }:=I.kept (t':=s.toks) λb o e=>hx b o (cE (Heap.lt_size e)) e
 exact h pins _ σ H xs _ Q I1 (by simpa using rv) hw
noncomputable def tAsg(te:TE)(g:TG):TS:=λD σ H=>te σ H λx H1=>g x σ H1 D.nx
theorem ps_asg{tg e:Expr}{te:TE}{g:TG}(he:PE X e te)(hg:PG X tg g)(hs:swapsWithSole [tg] e pos.line X.env=pure false:=by rfl)(hw:swappedStores [tg] e X.env=pure none:=by rfl)
 (h1:(assignEach [tg] X.env).map (·.2)=[assign tg X.env]:=by rfl):PS X (.Assign [tg] e pos) (tAsg te g):=by
 intro pins s σ H D I h
 refine wpAny_Assign_stores (thn (he pins s σ H _ I h) λv s1 ⟨x,H1,I1,r1,q1⟩=>?_) hs hw
 rw[h1]
 exact thn (hg pins s1 σ H1 x v _ I1 r1 q1) λ_ s2 q=>q
theorem mL(hN:X.N.Nodup)(hi:X.N[i]?=some x)(hx:Loc X.env.scope x)(he:PE X e te)(hs:swapsWith e (some (.Name x pos')) pos.line X.env=pure false:=by rfl)(hf:X.fn x=true\/X.env.scope.names.lookup x=some .local:=by first|exact .inl rfl|exact .inr rfl|assumption) :
 PS X (.Assign [.Name x pos'] e pos) (tAsg te (xQ i)):=by
 intro pins s σ H D I h
 refine wpAny_Assign_Name (thn (he pins s σ H _ I h) λv s1 ⟨y,H1,I1,r1,q1⟩=>?_) hs
 exact rV I1 hN hi hx r1 (λs2 I2=>⟨_,H1,I2,q1⟩) hf
noncomputable def tAug(i:Nat)(te:TE)(ti:TIp):TS:=λD σ H=>∃x,σ[i]?=some (some x)/\te σ H λy H1=>ti x y H1 λz H2=>D.nx (σ.set i (some z)) H2
theorem ps_aug{op:Operator}{ti:TIp}{pos':Pos}(hN:X.N.Nodup)(hi:X.N[i]?=some x)(hx:Loc X.env.scope x)(he:PE X e te)(ho:PIp X op ti)(hf:X.fn x=true\/X.env.scope.names.lookup x=some .local:=by first|exact .inl rfl|exact .inr rfl|assumption) :
 PS X (.AugAssign (.Name x pos') op e pos) (tAug i te ti):=by
 intro pins s σ H D I h
 obtain⟨v,e1,h⟩:=h
 obtain⟨m,hn,hl⟩:=I.loc
 have vis:Vis X.env.scope x:=by rcases hx with k|k;exact .inl k;exact .inr (.inl k)
 obtain⟨u,r,l⟩:=hl i x v hi e1 vis
 refine wpAny_AugAssign_Name ?_
 have go:wpAny (model X.prog X.w) X.A (eval e X.env) (λw sy=>wpAny (model X.prog X.w) X.A (inplaceOp op u w) (λr su=>wpAny (model X.prog X.w) X.A (storeName X.env x r) (λ_=>SP X pins D .next) X.xe su) X.xe sy) X.xe s:=by
  refine thn (he pins s σ H _ I h) λw s1 ⟨y,H1,I1,r1,q1⟩=>?_
  refine thn (ho pins s1 σ H1 v y u w _ I1 r r1 q1) λz s2 ⟨zv,H2,I2,r2,q2⟩=>?_
  exact rV I2 hN hi hx r2 (λs3 I3=>⟨_,H2,I3,q2⟩) hf
 rcases l with⟨hk,hm⟩|⟨hk,c,hc,hcell⟩
 ·exact wpAny_loadName_local I.ok.kind hk hn hm go
 ·rcases hk with hk|hk
  ·exact wpAny_loadName_cell I.ok.kind hk hc hcell go
  ·rcases hx with k|k
   ·have:X.env.scope.names.lookup x=some .free:=hk
    rw[k]at this;cases this
   ·have:X.env.scope.names.lookup x=some .free:=hk
    rw[k]at this;cases this
end
section
variable{X:Cx}{pos:Pos}
noncomputable def tWhile(c:TT)(tb:TS):TS:=λD σ H=>∃W:Nat->St->Hp->Prop,(∃m,W m σ H)/\∀m σ H,W m σ H ->
 c σ H λb H1=>if b=true then ∃N:St->Hp->Prop,(∀σ' H',N σ' H'->∃m',m'<m/\W m' σ' H')/\tb {D with nx:=N,ct:=N,bk:=D.nx} σ H1 else D.nx σ H1
theorem Fq{body:List Stmt}{tb:TS}(hp:PassesOwn (model X.prog X.w) X.A X.env X.xe)(hc:PT X c tc)(hb:PSs X body tb):PS X (.While c body [] pos) (tWhile tc tb):=by
 intro pins s σ H D I h
 obtain⟨W,⟨m0,w0⟩,turn⟩:=h
 refine wpAny_While (codeAny_whileLoop (λn s'=>∃σ' H',Inv X pins σ' H' s'/\W n σ' H') ?_ m0 ⟨σ,H,I,w0⟩)
 rintro n s1 ⟨σ1,H1,I1,w1⟩
 refine wpAny_passesOwn hp (thn (hc pins s1 σ1 H1 _ I1 (turn n σ1 H1 w1)) λb s2 ⟨H2,I2,q2⟩=>?_)
 cases b with
 |true=>
  obtain⟨N,hN,q2⟩:=q2
  rw[if_pos rfl]
  refine wpAny_passesOwn hp (thn (hb pins s2 σ1 H2 _ I2 q2) λf s3 q3=>?_)
  cases f with
  |next=>
   obtain⟨σ3,H3,I3,n3⟩:=q3
   obtain⟨m',hm,w3⟩:=hN σ3 H3 n3
   exact⟨m',hm,σ3,H3,I3,w3⟩
  |cont=>
   obtain⟨σ3,H3,I3,n3⟩:=q3
   obtain⟨m',hm,w3⟩:=hN σ3 H3 n3
   exact⟨m',hm,σ3,H3,I3,w3⟩
  |brk=>exact q3
  |ret v=>exact q3
 |false=>
  rw[if_neg aJ]
  exact wpAny_execs_nil ⟨σ1,H2,I2,q2⟩
end
set_option genInjectivity false in
structure It where
 go:Nat->Hp->Prop
 yld:Nat->Hp->V->Hp->Prop
 stop:Nat->Hp->Prop
noncomputable def gS(X:Cx)(pins:List (Addr×Obj))(H:Hp)(b:Addr):Prop:=
 H b=none/\b≠X.env.locals/\b∉X.fs/\(b∈X.ex\/X.sh.heap.objs.size<=b)/\(∀x c,X.env.cells.lookup x=some c->c≠b)/\∀p∈X.pn++pins,p.1≠b
theorem Inv.fpOk{H':Hp}{b:Addr}(I:Inv X pins σ H s)(hb:s.heap.objs.size<=b)(hn:H' b=none):gS X pins H' b:=by
 refine⟨hn,wX (dP I.lt hb),I.nofs hb,.inr (cG I.sz hb),λx c e z=>?_,λp hp z=>?_⟩
 ·obtain⟨v,q⟩:=I.cell x c e
  exact absurd (dP q.lt (by rw[z];exact hb)) (jN _)
 ·exact absurd (dP (Heap.lt_size (I.pin p hp).1) (by rw[z];exact hb)) (jN _)
set_option genInjectivity false in
structure Turn(P:Program)(w:World)(K:PySem.W.Frag)(tg:Expr)(J:It)(fp:List Addr)(it:Addr)(tn:Nat->Heap->Prop):Prop where
 mem:it∈fp
 obj:∀i h,tn i h->∀b∈fp,∃o,h.get? b=some o/\∀v,o.data≠.cell v
 keep:∀i h h',tn i h->(∀b∈fp,∀o,h.get? b=some o->h'.get? b=some o)->tn i h'
 item:∀(X:Cx),X.prog=P->X.w=w->X.K=K->X.calm=true->∀(i:Nat)(pins:List (Addr×Obj))(s:Shared)(σ:St)(H:Hp)(E:Value->Shared->Prop),Inv X pins σ H s->(∀b∈fp,gS X pins H b)->tn i s.heap->J.go i H ->
  wpAny (model P w) X.A (pyNext (.ref it)) (λr s1=>∃u,r=some u /\
   wpAny (model P w) X.A (letOwnedTupleGo tg (.ref it) u) (λ_ s2=>∃x H',Inv X pins σ H' s2/\RelV x u/\J.yld i H x H'/\tn (i+1) s2.heap/\∀b∈fp,H' b=none) E s1) E s
 done:∀(X:Cx),X.prog=P->X.w=w->X.K=K->X.calm=true->∀(i:Nat)(pins:List (Addr×Obj))(s:Shared)(σ:St)(H:Hp)(E:Value->Shared->Prop),Inv X pins σ H s->(∀b∈fp,gS X pins H b)->tn i s.heap->J.stop i H ->
  wpAny (model P w) X.A (pyNext (.ref it)) (λr s1=>r=none/\Inv X pins σ H s1) E s
 self:∀(A:Around)(i:Nat)(s:Shared)(Q:Value->Shared->Prop)(E:Value->Shared->Prop),tn i s.heap->Q (.ref it) s->wpAny (model P w) A (pyIter (.ref it)) Q E s
noncomputable abbrev TI:=St->Hp->(It->Hp->Prop)->Prop
noncomputable def PIE(X:Cx)(pins:List (Addr×Obj))(σ:St)(tg:Expr)(R:It->Hp->Prop)(itv:Value)(s2:Shared):Prop:=
 ∃(it:Addr)(fp:List Addr)(tn:Nat->Heap->Prop)(J:It)(H':Hp),itv=.ref it/\Inv X pins σ H' s2/\Turn X.prog X.w X.K tg J fp it tn/\tn 0 s2.heap/\(∀b∈fp,gS X pins H' b)/\R J H'
noncomputable def PI(X:Cx)(tg iter:Expr)(wi:TI):Prop:=
 ∀(pins:List (Addr×Obj))(s:Shared)(σ:St)(H:Hp)(R:It->Hp->Prop),Inv X pins σ H s->wi σ H R ->
  wpAny (model X.prog X.w) X.A (eval iter X.env) (λv s1=>wpAny (model X.prog X.w) X.A (pyIter v) (PIE X pins σ tg R) X.xe s1) X.xe s
theorem oT{M:Model}{A:Around}{E:Value->Shared->Prop}{s:Shared}{tg:Expr}{it:Addr}{u:Value}{o:Obj}{n:String}{vs:Array Value}{Q:Unit->Shared->Prop}(ho:s.heap.get? it=some o)(hc:o.cls=.type n)(hd:o.data=.fields vs)
 (hn:["enumerate", "zip", "dict_itemiterator", "dict_reverseitemiterator", "odict_iterator", "itertools.zip_longest", "itertools.pairwise"].contains n=false) (hQ:Q () s):wpAny M A (letOwnedTupleGo tg (.ref it) u) Q E s:=by
 unfold letOwnedTupleGo
 cases tg<;>first
  |exact wpAny_pure hQ
  |(cases u<;>first
   |exact wpAny_pure hQ
   | (refine wpAny_bind (wpAny_load ho ?_)
      rw[hc,hd]
      show wpAny M A (if(["enumerate", "zip", "dict_itemiterator", "dict_reverseitemiterator", "odict_iterator", "itertools.zip_longest", "itertools.pairwise"].contains n&&vs[0]?==some (rawInt _))=true then _ else _) Q E s
      rw[if_neg (by intro h;rw[hn,Et]at h;cases h)]
      exact wpAny_pure hQ))
noncomputable def Itl(K:PySem.W.Frag)(a:Addr):It:=
 ⟨λi H=>∃xs x,SqL K H a xs/\xs[i]?=some x,λi H x H'=>H'=H/\∀xs,SqL K H a xs->xs[i]?=some x,λi H=>∃xs,SqL K H a xs/\xs.length<=i⟩
noncomputable def Itt(K:PySem.W.Frag)(a:Addr):It:=
 ⟨λi H=>∃xs x,SqT K H a xs/\xs[i]?=some x,λi H x H'=>H'=H/\∀xs,SqT K H a xs->xs[i]?=some x,λi H=>∃xs,SqT K H a xs/\xs.length<=i⟩
noncomputable def Itr(lo:Int)(n:Nat):It:=⟨λi _=>i<n,λi H x H'=>H'=H/\x=.int (lo+i),λi _=>n<=i⟩
theorem Fu(a it:Addr):Turn P w K tg (Itl K a) [it] it (λi h=>h.IsListIter it a i) where
 mem:=by simp
 obj:=λi h st b hb=>by
  have e:b=it:=by simpa using hb
  subst e
  obtain⟨o,e,c,d⟩:=st
  exact⟨o,e,λv z=>by rw[d]at z;cases z⟩
 keep:=λi h h' st k=>st.at λo e=>k it (by simp) o e
 item:=by
  intro X hP hw hK hc i pins s σ H E I hf st hg
  subst hP hw hK
  obtain⟨xs,x,hq,hx⟩:=hg
  obtain⟨its,rv,p,hz⟩:=I.list hq
  obtain⟨u,hu,ru⟩:=rv.get hx
  obtain⟨f0,f1,f2,f3,f4,f5⟩:=hf it (by simp)
  refine wpAny_pyNext_list_item st p.isList (x:=u) (by simpa using hu) λh' st' sb=>?_
  have I1:Inv X pins σ H {s with heap:=h' }:=I.turned (t':=s.toks) (λb o hb e=>(sb.2 b hb).trans e) f0 f1 f3 f4 f5
  obtain⟨o,e,c,d⟩:=id st'
  exact⟨u,rfl,oT (s:={s with heap:=h' }) e c d (by decide) ⟨x,H,I1,ru,⟨rfl,λys hy=>by rw[I.list_inj hy hq];exact hx⟩,st',λb hb=>(hf b hb).1⟩⟩
 done:=by
  intro X hP hw hK hc i pins s σ H E I hf st hg
  subst hP hw hK
  obtain⟨xs,hq,hx⟩:=hg
  obtain⟨its,rv,p,hz⟩:=I.list hq
  obtain⟨f0,f1,f2,f3,f4,f5⟩:=hf it (by simp)
  have hl:=rv.length
  exact wpAny_pyNext_list_end (I.ok.hd hc) st p.isList (by simp;lia) λh' eb=>⟨rfl,I.turned (t':=s.toks) (λb o hb e=>eb b o hb e) f0 f1 f3 f4 f5⟩
 self:=λ_ _ _ _ _ st h=>wpAny_pyIter_listiter st h
theorem Fv(a it:Addr):Turn P w K tg (Itt K a) [it] it (λi h=>h.IsTupleIter it a i) where
 mem:=by simp
 obj:=λi h st b hb=>by
  have e:b=it:=by simpa using hb
  subst e
  obtain⟨o,e,c,d⟩:=st
  exact⟨o,e,λv z=>by rw[d]at z;cases z⟩
 keep:=λi h h' st k=>st.at λo e=>k it (by simp) o e
 item:=by
  intro X hP hw hK hc i pins s σ H E I hf st hg
  subst hP hw hK
  obtain⟨xs,x,hq,hx⟩:=hg
  obtain⟨its,rv,p,hz⟩:=I.tuple hq
  obtain⟨u,hu,ru⟩:=rv.get hx
  obtain⟨f0,f1,f2,f3,f4,f5⟩:=hf it (by simp)
  refine wpAny_pyNext_tuple_item st (show s.heap.IsTuple a its.toArray from p) (x:=u) (by simpa using hu) λh' st' sb=>?_
  have I1:Inv X pins σ H {s with heap:=h' }:=I.turned (t':=s.toks) (λb o hb e=>(sb.2 b hb).trans e) f0 f1 f3 f4 f5
  obtain⟨o,e,c,d⟩:=id st'
  exact⟨u,rfl,oT (s:={s with heap:=h' }) e c d (by decide) ⟨x,H,I1,ru,⟨rfl,λys hy=>by rw[I.tuple_inj hy hq];exact hx⟩,st',λb hb=>(hf b hb).1⟩⟩
 done:=by
  intro X hP hw hK hc i pins s σ H E I hf st hg
  subst hP hw hK
  obtain⟨xs,hq,hx⟩:=hg
  obtain⟨its,rv,p,hz⟩:=I.tuple hq
  obtain⟨f0,f1,f2,f3,f4,f5⟩:=hf it (by simp)
  have hl:=rv.length
  exact wpAny_pyNext_tuple_end (I.ok.hd hc) st (show s.heap.IsTuple a its.toArray from p) (by simp;lia) λh' eb=>⟨rfl,I.turned (t':=s.toks) (λb o hb e=>eb b o hb e) f0 f1 f3 f4 f5⟩
 self:=λ_ _ _ _ _ st h=>wpAny_pyIter_tupleiter st h
theorem Fw{w:World}(it:Addr)(lo:Int)(n:Nat):Turn P w K tg (Itr lo n) [it] it (λi h=>IsRangeIter h it (lo+(i:Nat)*1) ((n:Int)-(i:Nat)) 1) where
 mem:=by simp
 obj:=λi h st b hb=>by
  have e:b=it:=by simpa using hb
  subst e
  exact⟨_,st,λv z=>by
   have z':Data.fields _=Data.cell v:=z
   cases z'⟩
 keep:=λi h h' st k=>k it (by simp) _ st
 item:=by
  intro X hP hw hK hc i pins s σ H E I hf st hg
  subst hP hw hK
  obtain⟨f0,f1,f2,f3,f4,f5⟩:=hf it (by simp)
  have W:=Walks.range (prog:=X.prog) (w:=X.w) (I.ok.hd hc) it lo 1 n
  refine W.item i s _ _ hg st λv h' tk hv st' kk=>?_
  obtain⟨t,rfl⟩:=hv
  have I1:Inv X pins σ H {s with heap:=h',toks:=tk}:=I.turned (λb o hb e=>kk b o (by simpa using hb) e) f0 f1 f3 f4 f5
  refine⟨_,rfl,oT (s:={s with heap:=h',toks:=tk}) (n := "range_iterator") st' rfl rfl (by decide) ⟨.int (lo+i),H,I1,⟨t,?_⟩,⟨rfl,rfl⟩,st',λb hb=>(hf b hb).1⟩⟩
  rw[Int.mul_one]
 done:=by
  intro X hP hw hK hc i pins s σ H E I hf st hg
  subst hP hw hK
  obtain⟨f0,f1,f2,f3,f4,f5⟩:=hf it (by simp)
  exact wpAny_pyNext_range_end (I.ok.hd hc) st (by have:n<=i:=hg;lia) λh' eb=>⟨rfl,I.turned (t':=s.toks) (λb o hb e=>eb b o hb e) f0 f1 f3 f4 f5⟩
 self:=λ_ _ _ _ _ st h=>wpAny_pyIter_rangeiter st h
end L2
namespace L2
open PySem PySem.Spec PyProof.Rows
variable{a:Expr}{h:Heap}{H:Hp}{pins:List (Addr×Obj)}{fp:List Addr}{p pos:Pos}{s:Shared}{σ:St}{ta:TA}
section
variable{X:Cx}{tg:Expr}
theorem xS{pins:List (Addr×Obj)}{σ:St}{H:Hp}{s:Shared}{R:It->Hp->Prop}{E:Value->Shared->Prop}{lo hi:Int}{t u v:Tok}{tk:Nat}(I:Inv X pins σ H s)(h1:-(2^62)<=lo)(h2:lo<2^62)(h3:-(2^62)<=hi)(h4:hi<2^62)
 (q:R (Itr lo (hi-lo).toNat) H):wpAny (model X.prog X.w) X.A (pyIter (.ref s.heap.objs.size)) (PIE X pins σ tg R) E {s with heap:=s.heap.push {cls:=.type "range", data:=.fields #[.int lo t,.int hi u,.int 1 v] },toks:=tk}:=by
 refine wpAny_pyIter_range (IsRange.new ..) (small_one h1 h2 h3 h4) ?_
 have I1:Inv X pins σ H {s with heap:=s.heap.push {cls:=.type "range", data:=.fields #[.int lo t,.int hi u,.int 1 v] },toks:=tk}:=I.kept λb o e=>Heap.get?_push_of_some _ e
 refine⟨(s.heap.push {cls:=.type "range", data:=.fields #[.int lo t,.int hi u,.int 1 v] }).objs.size,[(s.heap.push {cls:=.type "range", data:=.fields #[.int lo t,.int hi u,.int 1 v] }).objs.size],_,_,H,rfl,
  I1.kept (t':=tk) λb o e=>Heap.get?_push_of_some _ e,Fw _ lo (hi-lo).toNat,?_,λb hb=>?_,q⟩
 ·have e1:lo+((0:Nat):Int)*1=lo:=by simp
  have e2:(((hi-lo).toNat:Nat):Int)-((0:Nat):Int)=Builtin.Range.rangeSize lo hi 1:=by rw[rangeSize_one];split<;>lia
  show IsRangeIter _ _ (lo+((0:Nat):Int)*1) ((((hi-lo).toNat:Nat):Int)-((0:Nat):Int)) 1
  rw[e1,e2]
  exact Heap.get?_push_size _ rfl
 ·have e:b=(s.heap.push {cls:=.type "range", data:=.fields #[.int lo t,.int hi u,.int 1 v] }).objs.size:=by simpa using hb
  subst e
  exact I1.fpOk (aK _) (I1.hok.fresh (aK _))
noncomputable def iRng1(ta:TA):TI:=λσ H R=>ta σ H λvs H1=>∃j:Int,vs=[.int j] /\ -(2^62)<=j/\j<2^62/\R (Itr 0 j.toNat) H1
noncomputable def iRng2(ta:TA):TI:=λσ H R=>ta σ H λvs H1=>∃i j:Int,vs=[.int i,.int j]/\(-(2^62)<=i/\i<2^62 /\ -(2^62)<=j/\j<2^62)/\R (Itr i (j-i).toNat) H1
theorem Fx (hg:Gl X "range") (hm:X.mg "range" = none) (ha:PA X [a] ta) (hs:starEach [a] X.env=[(false,eval a X.env)]:=by rfl):PI X tg (.Call (.Name "range" p) [a] [] pos) (iRng1 ta):=by
 intro pins s σ H R I h
 refine Call_ (iY I hg hm boot_range (PyProof.Rows.callWith_type1 (thn (ha pos pins s σ H _ I h) λus s1 ⟨vs,H1,I1,r1,q1⟩=>?_) hs rfl))
 obtain⟨j,e,q1,q2,q⟩:=q1
 subst e
 cases r1 with
 |cons r rr=>
  cases rr
  obtain⟨t,rfl⟩:=r
  exact call_range_1 (xS I1 (by lia) (by lia) q1 q2 (by simpa using q))
theorem Fy {b:Expr} {p pos:Pos} (hg:Gl X "range") (hm:X.mg "range" = none) (ha:PA X [a,b] ta) (hs:starEach [a,b] X.env=[(false,eval a X.env),(false,eval b X.env)]:=by rfl) (hs2:starEach [b] X.env=[(false,eval b X.env)]:=by rfl) :
 PI X tg (.Call (.Name "range" p) [a,b] [] pos) (iRng2 ta):=by
 intro pins s σ H R I h
 refine Call_ (iY I hg hm boot_range (PyProof.Rows.callWith_type1 (thn (ha pos pins s σ H _ I h) λus s1 ⟨vs,H1,I1,r1,q1⟩=>?_) (by rw[hs,hs2]) (by rw[hs2];rfl)))
 obtain⟨i,j,e,⟨q1,q2,q3,q4⟩,q⟩:=q1
 subst e
 cases r1 with
 |cons r rr=>
  cases rr with
  |cons r' rr=>
   cases rr
   obtain⟨t,rfl⟩:=r
   obtain⟨t',rfl⟩:=r'
   exact call_range_2 (xS I1 q1 q2 q3 q4 q)
noncomputable def tFor(wi:TI)(g:TG)(tb:TS):TS:=λD σ H=>wi σ H λJ H1=>∃W:Nat->Nat->St->Hp->Prop,(∃m,W 0 m σ H1)/\∀i m σ H,W i m σ H ->
 (J.stop i H/\D.nx σ H)\/(J.go i H/\∃N:St->Hp->Prop,(∀σ' H',N σ' H'->∃m',m'<m/\W (i+1) m' σ' H')/\∀x H',J.yld i H x H'->g x σ H' λσ2 H2=>tb {D with nx:=N,ct:=N,bk:=D.nx} σ2 H2)
noncomputable def kT(fp:List Addr)(h:Heap):List (Addr×Obj):=fp.filterMap λb=>(h.get? b).map λo=>(b,o)
theorem oU{b:Addr}{o:Obj}(hb:b∈fp)(e:h.get? b=some o):(b,o)∈kT fp h:=Eu.mpr ⟨b,hb,by rw[e];rfl⟩
theorem Fz{p:Addr×Obj}(hp:p∈kT fp h):p.1∈fp/\h.get? p.1=some p.2:=by
 obtain⟨b,hb,e⟩:=Eu.mp hp
 cases q:h.get? b with
 |none=>rw[q]at e;cases e
 |some o=>
  rw[q]at e
  have e':(b,o)=p:=dJ.inj e
  subst e'
  exact⟨hb,q⟩
theorem Inv.pinned(I:Inv X pins σ H s)(hf:∀b∈fp,gS X pins H b)(ho:∀b∈fp,∃o,s.heap.get? b=some o/\∀v,o.data≠.cell v):Inv X (pins++kT fp s.heap) σ H s:=
 I.pins_of λp hp=>(eO.mp hp).elim (λz=>I.pin p (fT _ z)) λz=>by
  obtain⟨hb,e⟩:=Fz z
  obtain⟨f0,f1,f2,_⟩:=hf p.1 hb
  obtain⟨o,e',d⟩:=ho p.1 hb
  rw[e]at e';cases e'
  exact⟨e,f0,f1,f2,d⟩
theorem Inv.unpinned{pl:List (Addr×Obj)}(I:Inv X (pins++pl) σ H s):Inv X pins σ H s:=I.pins_of λp hp=>I.pin p (fT _ (rG _ hp))
theorem ps_for{iter:Expr}{body:List Stmt}{wi:TI}{g:TG}{tb:TS}{pos:Pos}(hp:PassesOwn (model X.prog X.w) X.A X.env X.xe)(hc:X.calm=true)(hi:PI X tg iter wi)(hg:PG X tg g)(hb:PSs X body tb)
 (hs:∀x,foldedSetIterable iter X.env x=pure x:=by intro _;rfl):PS X (.For tg iter body [] pos) (tFor wi g tb):=by
 intro pins s σ H D I h
 refine wpAny_For (thn (hi pins s σ H _ I h) λv s1 h1=>thn h1 λitv s2 h2=>?_) hs
 obtain⟨it,fp,tn,J,H2,e,I2,T,st2,f2,W,⟨m0,w0⟩,turn⟩:=h2
 subst e
 have stat:∀{H':Hp},(∀b∈fp,H' b=none)->∀b∈fp,gS X pins H' b:=λhn b hb=>⟨hn b hb,(f2 b hb).2⟩
 refine codeAny_forLoop_any (λn s'=>∃i σ' H',Inv X pins σ' H' s'/\tn i s'.heap/\(∀b∈fp,H' b=none)/\W i n σ' H') ?_ m0 ⟨0,σ,H2,I2,st2,λb hb=>(f2 b hb).1,w0⟩
 rintro n s3 ⟨i,σ3,H3,I3,st3,fr3,w3⟩
 rcases turn i n σ3 H3 w3 with⟨stop,qn⟩|⟨go,N,hN,step⟩
 ·refine wpAny_passesOwn hp (thn (T.done X rfl rfl rfl hc i pins s3 σ3 H3 X.xe I3 (stat fr3) st3 stop) λr s4 ⟨hr,I4⟩=>?_)
  subst hr
  exact wpAny_execs_nil ⟨σ3,H3,I4,qn⟩
 ·refine wpAny_passesOwn hp (thn (T.item X rfl rfl rfl hc i pins s3 σ3 H3 X.xe I3 (stat fr3) st3 go) λr s4 ⟨u,hr,h4⟩=>?_)
  subst hr
  refine wpAny_passesOwn hp (thn h4 λ_ s5 ⟨x,H5,I5,r5,y5,st5,fr5⟩=>?_)
  have I5':=I5.pinned (stat fr5) (T.obj _ _ st5)
  refine wpAny_passesOwn hp (thn (hg _ s5 σ3 H5 x u _ I5' r5 (step x H5 y5)) λ_ s6 ⟨σ6,H6,I6,q6⟩=>?_)
  refine wpAny_passesOwn hp (thn (hb _ s6 σ6 H6 _ I6 q6) λf s7 q7=>?_)
  have again:∀{σ7:St} {H7:Hp},Inv X (pins++kT fp s5.heap) σ7 H7 s7->N σ7 H7->∃m,m<n/\∃i σ' H',Inv X pins σ' H' s7/\tn i s7.heap/\(∀b∈fp,H' b=none)/\W i m σ' H':=λ{σ7 H7} I7 n7=>by
   obtain⟨m',hm,w7⟩:=hN σ7 H7 n7
   refine⟨m',hm,i+1,σ7,H7,I7.unpinned,T.keep _ _ _ st5 λb hb o e=>(I7.pin (b,o) (fT _ (fT _ (oU hb e)))).1,λb hb=>?_,w7⟩
   obtain⟨o,e,d⟩:=T.obj _ _ st5 b hb
   exact(I7.pin (b,o) (fT _ (fT _ (oU hb e)))).2.1
  cases f with
  |next=>obtain⟨σ7,H7,I7,n7⟩:=q7;exact again I7 n7
  |cont=>obtain⟨σ7,H7,I7,n7⟩:=q7;exact again I7 n7
  |brk=>obtain⟨σ7,H7,I7,q7⟩:=q7;exact⟨σ7,H7,I7.unpinned,q7⟩
  |ret v=>obtain⟨x7,σ7,H7,I7,r7,q7⟩:=q7;exact⟨x7,σ7,H7,I7.unpinned,r7,q7⟩
end
end L2
namespace L2
open PySem PySem.Spec PyProof.Rows
variable{op:CmpOp}{us:List Value}{r:R2}{x:V}
noncomputable abbrev R2:=V->V->Hp->VK->Prop
noncomputable def OpR(X:Cx)(f:Value->Value->Sem Value)(r:R2):Prop:=
 ∀(pins:List (Addr×Obj))(s:Shared)(σ:St)(H:Hp)(x y:V)(v u:Value)(Q:VK),Inv X pins σ H s->RelV x v->RelV y u->r x y H Q ->
  wpAny (model X.prog X.w) X.A (f v u) (EP X pins σ Q) X.xe s
noncomputable def UnR(X:Cx)(f:Value->Sem Value)(r:V->Hp->VK->Prop):Prop:=
 ∀(pins:List (Addr×Obj))(s:Shared)(σ:St)(H:Hp)(x:V)(v:Value)(Q:VK),Inv X pins σ H s->RelV x v->r x H Q ->
  wpAny (model X.prog X.w) X.A (f v) (EP X pins σ Q) X.xe s
noncomputable def cM(X:Cx)(f:Value)(r:List V->Hp->VK->Prop):Prop:=
 ∀(pins:List (Addr×Obj))(s:Shared)(σ:St)(H:Hp)(xs:List V)(us:List Value)(Q:VK),Inv X pins σ H s->Vals xs us->r xs H Q ->
  wpAny (model X.prog X.w) X.A (call f us) (EP X pins σ Q) X.xe s
noncomputable def TruR(X:Cx)(r:V->Hp->(Bool->Hp->Prop)->Prop):Prop:=
 ∀(pins:List (Addr×Obj))(s:Shared)(σ:St)(H:Hp)(x:V)(v:Value)(Q:Bool->Hp->Prop),Inv X pins σ H s->RelV x v->r x H Q ->
  wpAny (model X.prog X.w) X.A (truthy v) (TP X pins σ Q) X.xe s
noncomputable def tOp(r:R2)(ta tb:TE):TE:=λσ H Q=>ta σ H λx H1=>tb σ H1 λy H2=>r x y H2 Q
noncomputable def tUn(r:V->Hp->VK->Prop)(ta:TE):TE:=λσ H Q=>ta σ H λx H1=>r x H1 Q
noncomputable def rI(C:Int->Int->Prop)(g:Int->Int->V):R2:=λx y H Q=>∃i j,x=.int i/\y=.int j/\C i j/\Q (g i j) H
noncomputable def rI0(g:Int->Int->V):R2:=λx y H Q=>∃i j,x=.int i/\y=.int j/\Q (g i j) H
noncomputable def rU(g:Int->V):V->Hp->VK->Prop:=λx H Q=>∃i,x=.int i/\Q (g i) H
section
variable{X:Cx}{a b c:Expr}{ta tb tc:TE}{pos:Pos}
theorem binT(ha:PE X a ta)(hb:PE X b tb){pins:List (Addr×Obj)}{s:Shared}{σ:St}{H:Hp}{R:V->V->Hp->Prop}(I:Inv X pins σ H s)
 (h:ta σ H λx H1=>tb σ H1 λy H2=>R x y H2) {Q:Value->Shared->Prop} {f:Value->Value->Sem Value}
 (hf:∀v u s2 x y H2,Inv X pins σ H2 s2->RelV x v->RelV y u->R x y H2->wpAny (model X.prog X.w) X.A (f v u) Q X.xe s2) :
 wpAny (model X.prog X.w) X.A (eval a X.env) (λv sv=>wpAny (model X.prog X.w) X.A (eval b X.env) (λu sy=>wpAny (model X.prog X.w) X.A (f v u) Q X.xe sy) X.xe sv) X.xe s:=by
 refine thn (ha pins s σ H _ I h) λv s1 ⟨x,H1,I1,r1,q1⟩=>?_
 refine thn (hb pins s1 σ H1 _ I1 q1) λu s2 ⟨y,H2,I2,r2,q2⟩=>?_
 exact hf v u s2 x y H2 I2 r1 r2 q2
theorem pe_op{op:Operator}(ho:OpR X (binaryOp op) r)(ha:PE X a ta)(hb:PE X b tb):PE X (.BinOp a op b pos) (tOp r ta tb):=by
 intro pins s σ H Q I h
 exact wpAny_BinOp (binT ha hb I h λv u s2 x y H2 I2 rx ry q=>ho pins s2 σ H2 x y v u Q I2 rx ry q)
theorem pe_un{op:UnaryOp}{r:V->Hp->VK->Prop}(ho:UnR X (unaryOp op) r)(ha:PE X a ta):PE X (.UnaryOp op a pos) (tUn r ta):=by
 intro pins s σ H Q I h
 exact UnaryOp_ (thn (ha pins s σ H _ I h) λv s1 ⟨x,H1,I1,r1,q1⟩=>ho pins s1 σ H1 x v Q I1 r1 q1)
theorem opI{f:Value->Value->Sem Value}{C:Int->Int->Prop}{g:Int->Int->Int}
 (rule:∀(i j:Int)(t u:Tok)(s:Shared)(Q:Value->Shared->Prop)(E:Value->Shared->Prop),C i j->Q (.int (g i j) s.toks) {s with toks:=s.toks+1}->wpAny (model X.prog X.w) X.A (f (.int i t) (.int j u)) Q E s) :
 OpR X f (rI C λi j=>.int (g i j)):=by
 intro pins s σ H x y v u Q I rx ry h
 obtain⟨i,j,rfl,rfl,hc,q⟩:=h
 obtain⟨t,rfl⟩:=rx
 obtain⟨t',rfl⟩:=ry
 exact rule i j t t' s _ _ hc ⟨.int (g i j),H,I.tok _,⟨_,rfl⟩,q⟩
theorem oV{f:Value->Value->Sem Value}{g:Int->Int->Int}
 (rule:∀(i j:Int)(t u:Tok)(s:Shared)(Q:Value->Shared->Prop)(E:Value->Shared->Prop),Q (.int (g i j) s.toks) {s with toks:=s.toks+1}->wpAny (model X.prog X.w) X.A (f (.int i t) (.int j u)) Q E s) :
 OpR X f (rI0 λi j=>.int (g i j)):=by
 intro pins s σ H x y v u Q I rx ry h
 obtain⟨i,j,rfl,rfl,q⟩:=h
 obtain⟨t,rfl⟩:=rx
 obtain⟨t',rfl⟩:=ry
 exact rule i j t t' s _ _ ⟨.int (g i j),H,I.tok _,⟨_,rfl⟩,q⟩
theorem oW{f:Value->Value->Sem Value}{g:Int->Int->Bool}
 (rule:∀(i j:Int)(t u:Tok)(s:Shared)(Q:Value->Shared->Prop)(E:Value->Shared->Prop),Q (.bool (g i j)) s->wpAny (model X.prog X.w) X.A (f (.int i t) (.int j u)) Q E s) :
 OpR X f (rI0 λi j=>.bl (g i j)):=by
 intro pins s σ H x y v u Q I rx ry h
 obtain⟨i,j,rfl,rfl,q⟩:=h
 obtain⟨t,rfl⟩:=rx
 obtain⟨t',rfl⟩:=ry
 exact rule i j t t' s _ _ ⟨.bl (g i j),H,I,rfl,q⟩
noncomputable def CDiv(i j:Int):Prop:=0<j/\j<1073741824
noncomputable def CPow(i j:Int):Prop:=0<=j/\j<=1000000/\i.natAbs<2^64
noncomputable def CMul(i j:Int):Prop:=(-(2^64)<i/\i<2^64)\/(-(2^64)<j/\j<2^64)
theorem CMul.ok{i j:Int}(h:CMul i j):IntMulOk i j:=by
 rcases h with⟨h1,h2⟩|⟨h1,h2⟩
 ·exact .of_left (intBits_le_64 h1 h2)
 ·exact .of_right (intBits_le_64 h1 h2)
theorem op_add:OpR X (binaryOp .Add) (rI0 λi j=>.int (i+j)):=oV λ_ _ _ _ _ _ _ q=>add_int q
theorem op_sub:OpR X (binaryOp .Sub) (rI0 λi j=>.int (i-j)):=oV λ_ _ _ _ _ _ _ q=>sub_int q
theorem op_mul:OpR X (binaryOp .Mult) (rI CMul λi j=>.int (i*j)):=opI λ_ _ _ _ _ _ _ hc q=>mul_int q hc.ok
theorem GA:OpR X (binaryOp .FloorDiv) (rI CDiv λi j=>.int (i/j)):=opI λi j _ _ _ _ _ hc q=>by
 have h1:(0:Int)<j:=hc.1
 have h2:j<1073741824:=hc.2
 exact floordiv_int (by lia) (by rw[Int.fdiv_eq_ediv_of_nonneg i (by lia)];exact q) (.inl (PyProof.noPylong_small (by lia)))
theorem op_mod:OpR X (binaryOp .Mod) (rI (λ_ j=>0<j) λi j=>.int (i%j)):=opI λi j _ _ _ _ _ hc q=>by
 have h1:(0:Int)<j:=hc
 exact mod_int' (by lia) (by rw[Int.fmod_eq_emod_of_nonneg i (by lia)];exact q)
theorem op_pow:OpR X (binaryOp .Pow) (rI CPow λi j=>.int (i^j.toNat)):=opI λ_ _ _ _ _ _ _ hc q=>pow_int_small hc.1 hc.2.1 hc.2.2 q
theorem GB:OpR X (inplaceOp .Add) (rI0 λi j=>.int (i+j)):=oV λ_ _ _ _ _ _ _ q=>iadd_int q
theorem GC:OpR X (inplaceOp .Sub) (rI0 λi j=>.int (i-j)):=oV λ_ _ _ _ _ _ _ q=>isub_int q
theorem unI{f:Value->Sem Value}{g:Int->Int}
 (rule:∀(i:Int)(t:Tok)(s:Shared)(Q:Value->Shared->Prop)(E:Value->Shared->Prop),Q (.int (g i) s.toks) {s with toks:=s.toks+1}->wpAny (model X.prog X.w) X.A (f (.int i t)) Q E s) :
 UnR X f (rU λi=>.int (g i)):=by
 intro pins s σ H x v Q I rx h
 obtain⟨i,rfl,q⟩:=h
 obtain⟨t,rfl⟩:=rx
 exact rule i t s _ _ ⟨.int (g i),H,I.tok _,⟨_,rfl⟩,q⟩
theorem un_neg:UnR X (unaryOp .USub) (rU λi=>.int (-i)):=unI λ_ _ _ _ _ q=>neg_int q
end
section
variable{X:Cx}{a b c:Expr}{ta tb tc:TE}{pos:Pos}
theorem kU{pins:List (Addr×Obj)}{σ:St}{H:Hp}{s:Shared}{Q:VK}{k k':Bool}(I:Inv X pins σ H s)(q:Q (.bl k) H)(e:k=k'):EP X pins σ Q (.bool k') s:=by
 subst e
 exact⟨.bl k,H,I,rfl,q⟩
theorem op_lt:OpR X (compareOp .Lt) (rI0 λi j=>.bl (decide (i<j))):=oW λ_ _ _ _ _ _ _ q=>lt_int q
theorem op_le:OpR X (compareOp .LtE) (rI0 λi j=>.bl (decide (i<=j))):=oW λ_ _ _ _ _ _ _ q=>le_int q
theorem op_gt:OpR X (compareOp .Gt) (rI0 λi j=>.bl (decide (j<i))):=oW λ_ _ _ _ _ _ _ q=>gt_int q
theorem op_ge:OpR X (compareOp .GtE) (rI0 λi j=>.bl (decide (j<=i))):=oW λ_ _ _ _ _ _ _ q=>ge_int q
theorem GD:OpR X (compareOp .In) (λx y H Q=>∃i j,x=.str i/\y=.str j/\Q (.bl (!(Builtin.Str.occurrences j i 0 j.length 1).isEmpty)) H):=by
 intro pins s σ H x y v u Q I rx ry h
 obtain⟨i,j,rfl,rfl,q⟩:=h
 obtain⟨t,rfl⟩:=rx
 obtain⟨t',rfl⟩:=ry
 exact in_str (kU I q rfl)
theorem op_isN:OpR X (compareOp .Is) (λx y H Q=>y=.non/\Q (.bl (decide (x=.non))) H):=by
 intro pins s σ H x y v u Q I rx ry h
 obtain⟨rfl,q⟩:=h
 cases ry
 refine is_none_gen (kU I q ?_)
 cases x<;>first
  |(cases rx;rfl)
  |(obtain⟨t,rfl⟩:=rx;rfl)
theorem GE:OpR X (compareOp .IsNot) (λx y H Q=>y=.non/\Q (.bl (!decide (x=.non))) H):=by
 intro pins s σ H x y v u Q I rx ry h
 obtain⟨rfl,q⟩:=h
 cases ry
 refine isnot_none_gen (kU I q ?_)
 cases x<;>first
  |(cases rx;rfl)
  |(obtain⟨t,rfl⟩:=rx;rfl)
theorem GF:OpR X (compareOp .NotIn) (λx y H Q=>∃i j,x=.str i/\y=.str j/\Q (.bl (!(!(Builtin.Str.occurrences j i 0 j.length 1).isEmpty))) H):=by
 intro pins s σ H x y v u Q I rx ry h
 obtain⟨i,j,rfl,rfl,q⟩:=h
 obtain⟨t,rfl⟩:=rx
 obtain⟨t',rfl⟩:=ry
 exact notIn_str (kU I q rfl)
theorem GG(ho:OpR X (compareOp op) r)(ha:PE X a ta)(hb:PE X b tb)(hm:behindInMarks op b=false):PE X (.Compare a [op] [b] pos) (tOp r ta tb):=by
 intro pins s σ H Q I h
 exact wpAny_Compare1 (binT ha hb I h λv u s2 x y H2 I2 rx ry q=>ho pins s2 σ H2 x y v u Q I2 rx ry q) hm
noncomputable def xT(t:TE):TT:=λσ H Q=>t σ H λx H'=>∃k,x=.bl k/\Q k H'
theorem GH(ho:OpR X (compareOp op) r)(ha:PE X a ta)(hb:PE X b tb)(hm:behindInMarks op b=false):PT X (.Compare a [op] [b] pos) (xT (tOp r ta tb)):=by
 intro pins s σ H Q I h
 refine wpAny_isTrue_Compare1 (thn (ha pins s σ H _ I h) λv s1 ⟨x,H1,I1,r1,q1⟩=>thn (hb pins s1 σ H1 _ I1 q1) λu s2 ⟨y,H2,I2,r2,q2⟩=>
  thn (ho pins s2 σ H2 x y v u _ I2 r1 r2 q2) λc s3 ⟨z,H3,I3,r3,k,e,q3⟩=>?_) hm
 subst e
 cases r3
 exact wpAny_truthy_bool ⟨H3,I3,q3⟩
noncomputable def rX(r r':R2)(ta tb tc:TE):TE:=λσ H Q=>ta σ H λx H1=>tb σ H1 λy H2=>r x y H2 λz H3=>∃k,z=.bl k /\
 (if k=true then tc σ H3 λw' H4=>r' y w' H4 Q else Q (.bl false) H3)
theorem GI{op op':CmpOp}{r r':R2}(ho:OpR X (compareOp op) r)(ho':OpR X (compareOp op') r')(ha:PE X a ta)(hb:PE X b tb)(hc:PE X c tc)
 (hm:lastMarks [op,op'] [b,c]=false:=by with_unfolding_all rfl):PE X (.Compare a [op,op'] [b,c] pos) (rX r r' ta tb tc):=by
 intro pins s σ H Q I h
 refine Compare_chain (thn (ha pins s σ H _ I h) λv s1 ⟨x,H1,I1,r1,q1⟩=>chain_link (thn (hb pins s1 σ H1 _ I1 q1) λu s2 ⟨y,H2,I2,r2,q2⟩=>
  thn (ho pins s2 σ H2 x y v u _ I2 r1 r2 q2) λd s3 ⟨z,H3,I3,r3,k,e,q3⟩=>?_)) hm
 subst e
 cases r3
 refine wpAny_truthy_bool ?_
 cases k with
 |false=>exact ite_ff ⟨.bl false,H3,I3,rfl,q3⟩
 |true=>exact ite_tt (chain_last (thn (hc pins s3 σ H3 _ I3 q3) λw' s4 ⟨z',H4,I4,r4,q4⟩=>ho' pins s4 σ H4 y z' u w' Q I4 r2 r4 q4))
theorem GJ{op op':CmpOp}{r r':R2}(ho:OpR X (compareOp op) r)(ho':OpR X (compareOp op') r')(ha:PE X a ta)(hb:PE X b tb)(hc:PE X c tc)
 (hm:lastMarks [op,op'] [b,c]=false:=by with_unfolding_all rfl):PT X (.Compare a [op,op'] [b,c] pos) (xT (rX r r' ta tb tc)):=by
 intro pins s σ H Q I h
 refine isTrue_chain (thn (ha pins s σ H _ I h) λv s1 ⟨x,H1,I1,r1,q1⟩=>test_link (thn (hb pins s1 σ H1 _ I1 q1) λu s2 ⟨y,H2,I2,r2,q2⟩=>
  thn (ho pins s2 σ H2 x y v u _ I2 r1 r2 q2) λd s3 ⟨z,H3,I3,r3,k,e,q3⟩=>?_)) hm
 subst e
 cases r3
 refine wpAny_truthy_bool ?_
 cases k with
 |false=>
  obtain⟨k',e',q'⟩:=q3
  cases e'
  exact ite_ff ⟨H3,I3,q'⟩
 |true=>
  refine ite_tt (test_last (thn (hc pins s3 σ H3 _ I3 q3) λw' s4 ⟨z',H4,I4,r4,q4⟩=>thn (ho' pins s4 σ H4 y z' u w' _ I4 r2 r4 q4) λd' s5 ⟨z2,H5,I5,r5,k2,e2,q5⟩=>?_))
  subst e2
  cases r5
  exact wpAny_truthy_bool ⟨H5,I5,q5⟩
noncomputable def mM(K:PySem.W.Frag)(x:V)(H:Hp)(k:Bool):Prop:=
 match x with
 |.non=>k=false
 |.bl b=>k=b
 |.int i=>k=(i != 0)
 |.str y=>y.length<=sizeLine/\k=((y.length:Int) != 0)
 |.byt y=>y.size<=sizeLine/\k=((y.size:Int) != 0)
 |.ref p=>(∃xs,SqL K H p xs/\k=!xs.isEmpty)\/(∃xs,SqT K H p xs/\k=!xs.isEmpty)\/∃kvs,H p=some (.dK kvs)/\k=!kvs.isEmpty
 |_=>False
theorem GK{κ:Type}{kvs:List (κ×V)}{vs:List (κ×Value)}(r:KV kvs vs):(!vs.isEmpty)=!kvs.isEmpty:=by
 cases r<;>rfl
theorem xU{xs:List V}{its:List Value}(r:Vals xs its):(!its.toArray.isEmpty)=!xs.isEmpty:=by
 cases r<;>simp
theorem kW:(sizeLine:Nat)<2^63:=by rw[sizeLine_eq];decide
theorem oX:TruR X (λx H Q=>∃k,mM X.K x H k/\Q k H):=by
 intro pins s σ H x v Q I rx h
 obtain⟨k,e,q⟩:=h
 have hl:=kW
 have hs:sizeLine=16777216:=sizeLine_eq
 cases x with
 |non=>
  cases rx
  have e':k=false:=e
  subst e'
  exact truthy_none ⟨H,I,q⟩
 |bl b=>
  cases rx
  have e':k=b:=e
  subst e'
  exact wpAny_truthy_bool ⟨H,I,q⟩
 |int i=>
  obtain⟨t,rfl⟩:=rx
  have e':k=(i != 0):=e
  subst e'
  exact PySem.P.truthy_int ⟨H,I,q⟩
 |str y=>
  obtain⟨t,rfl⟩:=rx
  obtain⟨hy,e'⟩:y.length<=sizeLine/\k=((y.length:Int) != 0):=e
  subst e'
  exact PySem.P.truthy_str (by lia) ⟨H,I.tok _,q⟩
 |byt y=>
  obtain⟨t,rfl⟩:=rx
  obtain⟨hy,e'⟩:y.size<=sizeLine/\k=((y.size:Int) != 0):=e
  subst e'
  exact PySem.W.truthy_bytes (by lia) ⟨H,I.tok _,q⟩
 |ref p=>
  cases rx
  have e':(∃xs,SqL X.K H p xs/\k=!xs.isEmpty)\/(∃xs,SqT X.K H p xs/\k=!xs.isEmpty)\/∃kvs,H p=some (.dK kvs)/\k=!kvs.isEmpty:=e
  rcases e' with⟨xs,hx,e'⟩|⟨xs,hx,e'⟩|⟨kvs,hx,e'⟩
  ·subst e'
   obtain⟨its,r,pl,hz⟩:=I.list hx
   have hlen:=r.length
   exact wpAny_truthy_list pl.isList (by simp only[bI];lia) ⟨H,I.tok _,by rw[xU r];exact q⟩
  ·subst e'
   obtain⟨its,r,pl,hz⟩:=I.tuple hx
   have hlen:=r.length
   exact truthy_tuple pl (by simp only[bI];lia) ⟨H,I.tok _,by rw[xU r];exact q⟩
  ·subst e'
   obtain⟨hz,hS,vs,r,m⟩:kvs.length<=sizeLine/\(p==sysModules)=false/\∃vs,KV kvs vs/\s.heap.DictOf (dF X.prog X.w) p vs:=I.hok p _ hx
   have hlen:kvs.length=vs.length:=Paired.length r
   exact wpAny_truthy_dict hS m (by lia) ⟨H,I.tok _,by rw[GK r];exact q⟩
 |_=>exact(show False from e).elim
theorem GL(ha:PE X a ta)(he:∀whole,isTrue a X.env whole=(do let v<-whole;standAt a.pos;holding [v] (truthy v))) :
 PT X a (λσ H Q=>ta σ H λx H'=>∃k,mM X.K x H' k/\Q k H'):=by
 intro pins s σ H Q I h
 exact isTrue_plain (thn (ha pins s σ H _ I h) λv s1 ⟨x,H1,I1,r1,q1⟩=>oX pins s1 σ H1 x v Q I1 r1 q1) (he _)
theorem GM:OpR X (binaryOp .Add) (λx y H Q=>∃i j,x=.str i/\y=.str j/\i.length+j.length<=sizeLine/\Q (.str (i++j)) H):=by
 intro pins s σ H x y v u Q I rx ry h
 obtain⟨i,j,rfl,rfl,hz,q⟩:=h
 obtain⟨t,rfl⟩:=rx
 obtain⟨t',rfl⟩:=ry
 exact add_str (λt' tk=>⟨.str (i++j),H,I.tok _,⟨_,rfl⟩,q⟩) hz
theorem fL(r:Vals [x] us):∃u,us=[u]/\RelV x u:=by
 cases r with
 |cons r1 r2=>cases r2;exact⟨_,rfl,r1⟩
theorem xV{y:V}(r:Vals [x,y] us):∃u w',us=[u,w']/\RelV x u/\RelV y w':=by
 cases r with
 |cons r1 r2=>
  cases r2 with
  |cons r3 r4=>cases r4;exact⟨_,_,rfl,r1,r3⟩
theorem GN (hc:X.calm=true):cM X (.builtin "max") (λxs H Q=>∃i j,xs=[.int i,.int j]/\Q (.int (if j>i then j else i)) H):=by
 intro pins s σ H xs us Q I r h
 obtain⟨i,j,rfl,q⟩:=h
 obtain⟨u,w',rfl,⟨t,rfl⟩,⟨t',rfl⟩⟩:=xV r
 refine max_two_ints (I.ok.hd hc) λh' tk k=>⟨_,H,I.kept k,?_,q⟩
 by_cases hj:j>i
 ·rw[if_pos hj,if_pos hj];exact⟨_,rfl⟩
 ·rw[if_neg hj,if_neg hj];exact⟨_,rfl⟩
theorem xW:cM X (.type "int") (λxs H Q=>(∃i,xs=[.int i]/\Q (.int i) H)\/∃k,xs=[.bl k]/\Q (.int (if k then 1 else 0)) H):=by
 intro pins s σ H xs us Q I r h
 rcases h with⟨i,rfl,q⟩|⟨k,rfl,q⟩
 ·obtain⟨u,rfl,t,rfl⟩:=fL r
  exact call_int_int ⟨.int i,H,I,⟨_,rfl⟩,q⟩
 ·obtain⟨u,rfl,r1⟩:=fL r
  cases r1
  exact call_int_bool ⟨.int (if k then 1 else 0),H,I.tok _,⟨_,rfl⟩,q⟩
end
end L2
namespace L2
open PySem PySem.Spec PyProof.Rows
variable{C dx:Addr}{h:Heap}{o:Option Value}{K:PySem.W.Frag}{v:V}
structure ObjM(h:Heap)(x dx C:Addr)(mA:Str->Option Value):Prop where
 obj:h.get? x=some (PySem.W.instObj C dx)
 ns:h.Ns1 dx mA
 ne:dx≠x
theorem GO{mA:Str->Option Value}(n:h.Ns1 dx mA):∃od,h.get? dx=some od/\∀name,PySem.W.lookIn name od=some (mA name):=by
 obtain⟨o,es,ep,ho,hd,hk,_,hm⟩:=n
 refine⟨o,ho,λname=>?_⟩
 have e:=hm name
 unfold nsFind findBy at e
 rw[<-Array.find?_toList]at e
 unfold PySem.W.lookIn
 rw[hd]
 dsimp only
 split
 ·rename_i y q
  rw[q]at e
  exact congrArg some e
 ·rename_i q
  rw[q]at e
  have a:es.toList.any (·.refKey)=false:=by
   rw[Nj]
   intro y hy
   obtain⟨z,t,hkey⟩:=hk y (Array.mem_toList_iff.mp hy)
   simp[DictEntry.refKey,hkey]
  have a':¬es.toList.any (·.refKey)=true:=by rw[a];exact aJ
  rw[if_neg a']
  exact congrArg some e
theorem ObjM.look{x:Addr}{mA:Str->Option Value}(I:ObjM h x dx C mA):∃od,PySem.W.InstAt h x (PySem.W.instObj C dx) C (some od)/\∀name,PySem.W.lookIn name od=some (mA name):=
 let ⟨od,ho,hl⟩:=GO I.ns
 ⟨od,⟨I.obj,rfl,rfl,ho⟩,hl⟩
section
variable{prog:Program}{w:World}{A:Around}{E:Value->Shared->Prop}{s:Shared}{K:PySem.W.Frag}{x dx C f:Addr}{mA:Str->Option Value}{name:Str}{v:Value}
theorem GP{expr:Bool}{Q:Value->Shared->Prop}(X:K.In s.heap)(I:ObjM s.heap x dx C mA)(hg:PySem.W.plainGet K C name=true)(hh:PySem.W.hasDictIn K C=true)
 (ha:PySem.W.findIn K (.ref C) name=some none) (hv:mA name=some v) (hv':PySem.W.handedIn v=true) (h:Q v {s with toks:=s.toks+1}) :
 wpAny (model prog w) A (getAttr (.ref x) name expr) Q E s:=by
 obtain⟨od,J,hl⟩:=I.look
 exact PySem.W.get_value X J (PySem.W.plainGet_of hg).1 (PySem.W.findObj_own hh ha rfl (by rw[hl,hv])) hv' h
theorem GQ{pl:Sem Bool}{Q:Value×List Value->Shared->Prop}(X:K.In s.heap)(I:ObjM s.heap x dx C mA)(hg:PySem.W.plainGet K C name=true)
 (hf:PySem.W.findIn K (.ref C) name=some (some (.ref f))) (ht:PySem.W.isFn K (.ref f)=true) (hv:mA name=none) (h:Q (.ref f,[.ref x]) s) :
 wpAny (model prog w) A (getMethod (.ref x) name pl) Q E s:=by
 obtain⟨od,J,hl⟩:=I.look
 exact PySem.W.method_fn X J (PySem.W.plainGet_of hg).1 (PySem.W.plainGet_of hg).2 hf (beq_iff_eq.mp ht) (by show(PySem.W.lookIn name od).map (·.isSome)=some false;rw[hl,hv];rfl) h
theorem GR{ns:List Str}{Q:Unit->Shared->Prop}(X:K.In s.heap)(I:ObjM s.heap x dx C mA)
 (hs:PySem.W.findIn K (.ref C) "__setattr__" = some (some (.builtin "object.__setattr__"))) (hp:PySem.W.plainOver K C=true) (ht:PySem.W.takerIn K C name=some none) (hh:PySem.W.hasDictIn K C=true)
 (hw:PySem.Within mA ns) (hsz:ns.length<=sizeLine)
 (h:∀h',ObjM h' x dx C (λy=>if y=name then some v else mA y)->Heap.SameBut dx s.heap h'->Q () {s with heap:=h',toks:=s.toks+2}) :
 wpAny (model prog w) A (setAttr (.ref x) name v) Q E s:=by
 obtain⟨od,J,hl⟩:=I.look
 refine PySem.W.set_plain X J hs (PySem.W.osa_open (s:={s with toks:=s.toks+1}) (r:=none) X J hp ht λb=>?_)
 obtain⟨cd,hc,hd'⟩:=PySem.W.any_some hh
 have hx:s.heap.get? x=some ⟨.ref C,some dx,.plain,#[]⟩:=I.obj
 refine wpAny_bind (wpAny_pure (wpAny_bind (wpAny_bind (wpAny_loadPart hx (wpAny_bind (PySem.W.Looks.here (s:={s with toks:=s.toks+1}) (PySem.W.looks_clsIn X hc) ?_))))))
 rw[hd']
 refine wpAny_pure (a:=some dx) (wpAny_bind (wpAny_pure (wpAny_bind ?_)))
 refine wpAny_nsSet1 (s:={s with toks:=s.toks+1}) I.ns λh' hn2 hs2=>?_
 obtain⟨oD,esD,epD,hoD,hdD,hcD⟩:=hn2.count (PySem.Within.cons name v hw)
 refine wpAny_bind (wpAny_lookBehind hoD (by rw[hdD];exact pastItsLine_dict (cG hcD (by rw[aN];lia))) ?_)
 exact wpAny_pure (h _ ⟨(hs2.2 _ (Ne.symm I.ne)).trans I.obj,hn2,I.ne⟩ hs2)
theorem GS{R:Result->Shared->Prop}{vs:List Value}{kw:List (Str×Value)}(X:K.In s.heap)(hm:PySem.W.makesIn K C=true)
 (hi:PySem.W.findIn K (.ref C) "__init__" = some (some (.ref f))) (hf:PySem.W.typeIn K (.ref f)=some (.type "function"))
 (h:codeAny (model prog w) (A.under (.builtin "type.__call__" ⟨.ref C::vs,kw⟩)) (.call (.ref f) ⟨.ref (s.heap.objs.size+1)::vs,kw⟩) (PySem.W.InitBack (s.heap.objs.size+1) R)
  {s with heap:=(s.heap.push PySem.W.emptyDict).push (PySem.W.instObj C s.heap.objs.size) }) :
 codeAny (model prog w) A (.call (.ref C) ⟨vs,kw⟩) R s:=by
 obtain⟨hh,g,d,t,os⟩:=s
 exact PySem.W.make_core (PySem.W.makes_of X hm) (PySem.W.looks_findIn X hi) (λself=>PySem.W.bind_fn X self hf) (.inl rfl) h
end
noncomputable def dB(f:Str)(v:V):List (Str×V)->List (Str×V)
 |[]=>[(f,v)]
 |(g,x)::r=>if g=f then(g,v)::r else(g,x)::dB f v r
theorem xX(f g:Str)(v:V):∀fs:List (Str×V),(dB f v fs).lookup g=if g=f then some v else fs.lookup g
 |[]=>by
  show kN g [(f,v)]=_
  by_cases h:g=f
  ·have hb:(g==f)=true:=beq_iff_eq.mpr h
   simp only[kN,hb,if_pos h]
  ·have hb:(g==f)=false:=beq_eq_false_iff_ne.mpr h
   simp only[kN,hb,if_neg h]
 |(k,x)::r=>by
  have ih:=xX f g v r
  rw[show dB f v ((k,x)::r)=(if k=f then(k,v)::r else(k,x)::dB f v r)from rfl]
  by_cases hk:k=f
  ·rw[if_pos hk]
   by_cases h:g=k
   ·have hb:(g==k)=true:=beq_iff_eq.mpr h
    simp only[kN,hb,if_pos (h.trans hk)]
   ·have hb:(g==k)=false:=beq_eq_false_iff_ne.mpr h
    simp only[kN,hb,if_neg (λe:g=f=>h (e.trans hk.symm))]
  ·rw[if_neg hk]
   by_cases h:g=k
   ·have hb:(g==k)=true:=beq_iff_eq.mpr h
    simp only[kN,hb,if_neg (λe:g=f=>hk (h.symm.trans e))]
   ·have hb:(g==k)=false:=beq_eq_false_iff_ne.mpr h
    simp only[kN,hb]
    exact ih
theorem rY(f:Str)(v:V):∀fs:List (Str×V),f∈(dB f v fs).map (·.1)/\∀g,g∈fs.map (·.1)->g∈(dB f v fs).map (·.1)
 |[]=>⟨by simp[dB],λg h=>by simp at h⟩
 |(k,x)::r=>by
  obtain⟨i1,i2⟩:=rY f v r
  rw[show dB f v ((k,x)::r)=(if k=f then(k,v)::r else(k,x)::dB f v r)from rfl]
  by_cases hk:k=f
  ·rw[if_pos hk]
   subst hk
   exact⟨by simp,λg h=>by simpa using h⟩
  ·rw[if_neg hk]
   refine⟨?_,λg h=>?_⟩
   ·rw[aL]
    exact bG _ i1
   ·rw[aL]at h⊢
    rcases bU.mp h with e|e
    ·exact bU.mpr (.inl e)
    ·exact bG _ (i2 g e)
theorem mN(f:Str)(v:V):∀fs:List (Str×V),(dB f v fs).length<=fs.length+1
 |[]=>by simp[dB]
 |(k,x)::r=>by
  have ih:=mN f v r
  rw[show dB f v ((k,x)::r)=(if k=f then(k,v)::r else(k,x)::dB f v r)from rfl]
  by_cases hk:k=f
  ·rw[if_pos hk,aN,aN];lia
  ·rw[if_neg hk,aN,aN];lia
theorem RelO.some_of(r:RelO (some v) o):∃u,o=some u/\RelV v u:=by
 cases o with
 |none=>exact(show False from r).elim
 |some u=>exact⟨u,rfl,r⟩
theorem RelO.none_of(r:RelO none o):o=none:=by
 cases o with
 |none=>rfl
 |some u=>exact(show False from r).elim
theorem GT{u:Value}(r:RelV v u):PySem.W.handedIn u=true:=by
 cases v with
 |non=>cases (show u=Value.none from r);rfl
 |bl b=>cases (show u=Value.bool b from r);rfl
 |int i=>obtain⟨t,e⟩:=(show ∃t,u=Value.int i t from r);cases e;rfl
 |str x=>obtain⟨t,e⟩:=(show ∃t,u=Value.str x t from r);cases e;rfl
 |byt b=>obtain⟨t,e⟩:=(show ∃t,u=Value.bytes b t from r);cases e;rfl
 |flt b=>obtain⟨t,e⟩:=(show ∃t,u=Value.float b t from r);cases e;rfl
 |ref a=>cases (show u=Value.ref a from r);rfl
 |ty n=>cases (show u=Value.type n from r);rfl
section
variable{P:Program}{w:World}{H H':Hp}{h h':Heap}{a C dx:Addr}{fs fs':List (Str×V)}
theorem GU(hok:HOk P w H h)(e:H a=some (.ins C dx fs)):∃mA,ObjM h a dx C mA/\(∀f,RelO (fs.lookup f) (mA f))/\PySem.Within mA (fs.map (·.1))/\fs.length<=1000/\H dx=some (.own a):=by
 obtain⟨d,z,ne,ob,mA,n,r,q⟩:=(show ObjOk P w H h a (.ins C dx fs)from hok a _ e)
 exact⟨mA,⟨ob,n,ne⟩,r,q,z,d⟩
end
set_option genInjectivity false in
structure Cls(K:PySem.W.Frag)(C:Addr):Prop where
 pg:PySem.W.plainGet K C Str.empty=true
 hd:PySem.W.hasDictIn K C=true
 po:PySem.W.plainOver K C=true
 sa:PySem.W.findIn K (.ref C) "__setattr__" = some (some (.builtin "object.__setattr__"))
theorem Cls.get(c:Cls K C)(f:Str):PySem.W.plainGet K C f=true:=c.pg
noncomputable def NoAttr(K:PySem.W.Frag)(C:Addr)(f:Str):Prop:=PySem.W.findIn K (.ref C) f=some none
theorem NoAttr.taker{f:Str}(n:NoAttr K C f):PySem.W.takerIn K C f=some none:=by
 unfold PySem.W.takerIn
 rw[show PySem.W.findIn K (.ref C) f=some none from n]
 rfl
structure Meth(K:PySem.W.Frag)(C:Addr)(m:Str)(f:Addr):Prop where
 at_:PySem.W.findIn K (.ref C) m=some (some (.ref f))
 fn:PySem.W.isFn K (.ref f)=true
 kp:PySem.W.keepIn K (.ref f)=true
section
variable{X:Cx}{pins:List (Addr×Obj)}{σ:St}{H:Hp}{s:Shared}{a C dx:Addr}{fs:List (Str×V)}{f:Str}{v:V}{A:Around}{E:Value->Shared->Prop}
theorem GV{y:V}{u:Value}{Q:Unit->Shared->Prop}(I:Inv X pins σ H s)(e:H a=some (.ins C dx fs))(c:Cls X.K C)(n:NoAttr X.K C f)(hl:fs.length<1000)(ry:RelV y u)
 (h:∀s',Inv X pins σ (upd H a (.ins C dx (dB f y fs))) s'->Q () s'):wpAny (model X.prog X.w) A (setAttr (.ref a) f u) Q E s:=by
 obtain⟨mA,O,r,wi,_,ho⟩:=GU I.hok e
 have hz:(fs.map (·.1)).length<=sizeLine:=by rw[aI,sizeLine_eq];lia
 refine GR I.kIn O c.sa c.po n.taker c.hd wi hz λh' O' sb=>h _ ?_
 have hd:∃o,h'.get? dx=some o:=let ⟨o,_,_,e',_⟩:=O'.ns;⟨o,e'⟩
 refine I.write (x:=a) (e:=dx) (by rw[e];exact True.intro) (.inr ho) (λb q hb z=>(sb.2 b hb).trans z) hd ?_
 refine⟨by rw[aG O.ne];exact ho,?_,O.ne,O'.obj,_,O'.ns,λg=>?_,λg hg=>?_⟩
 ·have:=mN f y fs;lia
 ·show RelO ((dB f y fs).lookup g) (if g=f then some u else mA g)
  rw[xX]
  by_cases q:g=f
  ·rw[if_pos q,if_pos q];exact ry
  ·rw[if_neg q,if_neg q];exact r g
 ·by_cases q:g=f
  ·rw[q];exact(rY f y fs).1
  ·refine(rY f y fs).2 g (wi g λz=>hg ?_)
   show(if g=f then some u else mA g)=none
   rw[if_neg q];exact z
theorem Inv.made(I:Inv X pins σ H s):Inv X pins σ (upd (upd H s.heap.objs.size (.own (s.heap.objs.size+1))) (s.heap.objs.size+1) (.ins C s.heap.objs.size []))
 {s with heap:=(s.heap.push PySem.W.emptyDict).push (PySem.W.instObj C s.heap.objs.size) }:=by
 have e1:(s.heap.push PySem.W.emptyDict).get? s.heap.objs.size=some PySem.W.emptyDict:=Heap.get?_push_size s.heap rfl
 have e2:((s.heap.push PySem.W.emptyDict).push (PySem.W.instObj C s.heap.objs.size)).get? (s.heap.objs.size+1)=some (PySem.W.instObj C s.heap.objs.size):=by
  have:=Heap.get?_push_size (s.heap.push PySem.W.emptyDict) (o:=PySem.W.instObj C s.heap.objs.size) rfl
  rwa [Heap.size_push]at this
 have e3:(s.heap.push PySem.W.emptyDict).Ns s.heap.objs.size (λ_=>none):=⟨PySem.W.emptyDict,#[],_,e1,rfl,(λe he=>absurd he (by simp)),λ_=>rfl⟩
 have I1:=I.laid (a:=s.heap.objs.size) (o:=.own (s.heap.objs.size+1)) (h':=s.heap.push PySem.W.emptyDict) (t':=s.toks) (λb u q=>Heap.get?_push_of_some _ q) (aK _) ⟨_,e1⟩
 refine I1.laid (a:=s.heap.objs.size+1) (o:=.ins C s.heap.objs.size []) (t':=s.toks) (λb u q=>Heap.get?_push_of_some _ q) (Ew (Heap.size_push _ _)) ?_
 have ne:s.heap.objs.size≠s.heap.objs.size+1:=cE (oH _)
 refine⟨by rw[aG ne,bA],fU _,ne,e2,λ_=>none,(Heap.Ns1.of_empty e3).at λo q=>Heap.get?_push_of_some _ q,λ_=>True.intro,λy hy=>absurd rfl hy⟩
theorem rZ{prog:Program}{w:World}{env:Env}{e:Expr}{f:Str}{pos:Pos}{s:Shared}{Q:Value->Shared->Prop}(hb:attributeBase e f env (eval e env)=eval e env)
 (h:wpAny (model prog w) A (eval e env) (λo sv=>wpAny (model prog w) A (getAttr o f true) Q E sv) E s):wpAny (model prog w) A (eval (.Attribute e f pos) env) Q E s:=
 Attribute_any_ h (by rw[arm_eval_Attribute,hb])
end
noncomputable def sFld(K:PySem.W.Frag)(ta tv:TE)(f:Str):TS:=λD σ H=>tv σ H λy H1=>ta σ H1 λx H2=>∃a C dx fs,x=.ref a/\H2 a=some (.ins C dx fs)/\Cls K C/\NoAttr K C f/\fs.length<1000 /\
 D.nx σ (upd H2 a (.ins C dx (dB f y fs)))
section
variable{X:Cx}{o e value:Expr}{f:Str}{pos pos' tpos:Pos}{ta tv:TE}
theorem sA(ha:PE X o ta)(hv:PE X value tv)(hs:swapsWith value (some (.Attribute o f pos')) pos.line X.env=pure false):PS X (.Assign [.Attribute o f pos'] value pos) (sFld X.K ta tv f):=by
 intro pins s σ H D I h
 refine plainObj_wpAny_Assign_Attribute (thn (hv pins s σ H _ I h) λu s1 ⟨y,H1,I1,ry,q⟩=>thn (ha pins s1 σ H1 _ I1 q) λov s2 ⟨x,H2,I2,rx,a,C,dx,fs,ex,ea,c,n,l,q2⟩=>?_) hs
 subst ex
 obtain rfl:ov=Value.ref a:=rx
 exact GV I2 ea c n l ry λs3 I3=>⟨σ,_,I3,q2⟩
end
end L2
namespace L2
open PySem PySem.Spec PyProof.Rows
variable{C:Addr}{A:Around}{kw:List (Str×Value)}{us:List Value}{K:PySem.W.Frag}{x:Str}{kindOf:Str->Option NameKind}{v:Value}
set_option genInjectivity false in
structure Room(k:Nat)(A:Around):Prop where
 hd:A.handled=none
 dp:A.depth+3*k+5<recursionLimit
 un:A.units+16*k+200<cLine
theorem Room.mono{j k:Nat}(r:Room k A)(h:j<=k):Room j A:=⟨r.hd,by have:=r.dp;lia,by have:=r.un;lia⟩
theorem Room.deeper{k:Nat}(r:Room (k+1) A)(env:Env):Room k (A.deeper env):=
 ⟨r.hd,by have:=r.dp;show A.depth+1+3*k+5<_;lia,by have:=r.un;show A.units+3+16*k+200<_;lia⟩
theorem GW:(A.under (.builtin "type.__call__" ⟨.ref C::us,kw⟩)).depth=A.depth+1:=by
 first|rfl|simp[Around.under,Code.weight,Code.isCreation,Code.isGuard,Code.isCaller,Code.frames,Code.isFrame,guardIds]
theorem GX:(A.under (.builtin "type.__call__" ⟨.ref C::us,kw⟩)).units=A.units+1:=by
 first|rfl|simp[Around.under,Code.cUnits,Code.frames,Code.isFrame]
theorem Room.make {k:Nat} (r:Room (k+1) A) (C:Addr) (us:List Value) (kw:List (Str×Value)):Room k (A.under (.builtin "type.__call__" ⟨.ref C::us,kw⟩)):=
 ⟨r.hd,by have:=r.dp;rw[GW];lia,by have:=r.un;rw[GX];lia⟩
theorem Room.depth{k:Nat}(r:Room k A):A.depth<recursionLimit:=by have:=r.dp;lia
theorem Room.units{k:Nat}(r:Room k A):A.units+64<cLine:=by have:=r.un;lia
noncomputable def tNil:TA:=λ_ H Q=>Q [] H
noncomputable def tCons(ta:TE)(tr:TA):TA:=λσ H Q=>ta σ H λx H1=>tr σ H1 λxs H2=>Q (x::xs) H2
section
variable{X:Cx}{e:Expr}{es:List Expr}{te:TE}{t:TA}{pos:Pos}
theorem eZ:PA X [] tNil:=λ_ _ _ _ H Q I h=>Calls.spliced_nil ⟨[],H,I,.nil,h⟩
theorem dU(ha:PE X e te)(hr:PA X es t)(hs:starEach (e::es) X.env=(false,eval e X.env)::starEach es X.env:=by rfl):PA X (e::es) (tCons te t):=by
 intro pos pins s σ H Q I h
 rw[hs]
 show wpAny _ _ (spliced ((false,eval e X.env)::backTo pos (starEach es X.env))) _ _ s
 refine Calls.spliced_cons (thn (ha pins s σ H _ I h) λu s1 ⟨x,H1,I1,r1,q1⟩=>?_)
 exact thn (hr pos pins s1 σ H1 _ I1 q1) λus s2 ⟨xs,H2,I2,r2,q2⟩=>⟨x::xs,H2,I2,.cons r1 r2,q2⟩
noncomputable def tTup(t:TA):TE:=λσ H Q=>t σ H λxs H1=>xs.length<=sizeLine/\∀p,H1 p=none->Q (.ref p) (upd H1 p (.tup xs))
noncomputable def tLst(t:TA):TE:=λσ H Q=>t σ H λxs H1=>xs.length<=sizeLine/\∀p,H1 p=none->Q (.ref p) (upd H1 p (.lst xs))
theorem pe_tup{x1}(h:PA X es t):PE X (.Tuple es x1 pos) (tTup t):=by
 intro pins s σ H Q I hq
 refine wpAny_Tuple_spliced (thn (h pos pins s σ H _ I hq) λus s1 ⟨xs,H1,I1,r,z,q⟩=>⟨by rw[<-r.length];exact z,?_⟩)
 have hf:H1 s1.heap.objs.size=none:=I1.hok.fresh (aK _)
 refine⟨.ref s1.heap.objs.size,upd H1 s1.heap.objs.size (.tup xs),I1.laid (t':=s1.toks) (λb u e=>Heap.get?_push_of_some _ e) (aK _) ?_,rfl,q _ hf⟩
 exact⟨z,us,r,⟨_,Heap.get?_push_size _ rfl,rfl,_,rfl⟩⟩
theorem pe_lst(h:PA X es t):PE X (.List es pos) (tLst t):=by
 intro pins s σ H Q I hq
 refine wpAny_List_spliced (thn (h pos pins s σ H _ I hq) λus s1 ⟨xs,H1,I1,r,z,q⟩=>⟨by rw[<-r.length];exact z,?_⟩)
 have hf:H1 s1.heap.objs.size=none:=I1.hok.fresh (aK _)
 refine⟨.ref s1.heap.objs.size,upd H1 s1.heap.objs.size (.lst xs),I1.laid (t':=s1.toks) (λb u e=>Heap.get?_push_of_some _ e) (aK _) ?_,rfl,q _ hf⟩
 exact⟨z,us,0,r,Heap.get?_push_size _ rfl⟩
end
noncomputable abbrev Sp:=List V->Hp->VK->XK->Prop
noncomputable abbrev CXT:=List Env->Hp->Shared->XK->Value->Shared->Prop
set_option genInjectivity false in
structure Env0(P:Program)(w:World)(K:PySem.W.Frag)(mg:Str->Option Value)(base:Heap)(A:Around)(outer:List Env)(s:Shared)(H:Hp):Prop where
 frames:A.frames=some outer
 mod:Mod K mg base
 bs:∀b o,base.get? b=some o->s.heap.get? b=some o/\H b=none
 bsz:base.objs.size<=s.heap.objs.size
 funs:s.heap.FunFrames base outer
 frf:∀b∈frs outer,H b=none
 hok:HOk P w H s.heap
 bare:AllBare s.gens
noncomputable def CE(outer:List Env)(P:Program)(w:World)(H:Hp)(s:Shared)(Q:VK)(u:Value)(s':Shared):Prop:=
 ∃v H',s'.os=s.os/\AllBare s'.gens/\Un (frs outer) [] H H' s.heap s'.heap/\HOk P w H' s'.heap/\RelV v u/\Q v H'
noncomputable def CR(CX:CXT)(outer:List Env)(P:Program)(w:World)(H:Hp)(s:Shared)(Q:VK)(E:XK)(r:Result)(s':Shared):Prop:=
 match r with
 |.ok (.ret u)=>CE outer P w H s Q u s'
 |.ok _=>False
 |.error e=>CX outer H s E e s'
set_option genInjectivity false in
structure FnOk(P:Program)(w:World)(K:PySem.W.Frag)(mg:Str->Option Value)(base:Heap)(CX:CXT)(k:Nat)(f:Addr)(fd:FuncData)(ps:List Str)(sp:Sp):Prop where
 len:∀vs H Q E,sp vs H Q E->vs.length=ps.length
 run:∀(A:Around)(outer:List Env)(s:Shared)(H:Hp)(args:Args)(us:List Value)(vs:List V)(Q:VK)(E:XK),Room k A->Env0 P w K mg base A outer s H->BindsTo s fd args (ps.zip us)->Vals vs us->sp vs H Q E ->
  codeAny (model P w) A (.call (.ref f) args) (CR CX outer P w H s Q E) s
theorem Env0.make{P:Program}{w:World}{mg:Str->Option Value}{base:Heap}{outer:List Env}{s:Shared}{H:Hp}(e:Env0 P w K mg base A outer s H)(C:Addr)(us:List Value)(kw:List (Str×Value)) :
 Env0 P w K mg base (A.under (.builtin "type.__call__" ⟨.ref C::us,kw⟩)) outer s H:=⟨by first|exact e.frames|(simpa[Around.under,Code.envs,Code.isFrame,pushEnvs]using e.frames),e.mod,e.bs,e.bsz,e.funs,e.frf,e.hok,e.bare⟩
section
variable{X:Cx}{pins:List (Addr×Obj)}{σ:St}{H:Hp}{s s':Shared}
theorem Inv.env0(I:Inv X pins σ H s):Env0 X.prog X.w X.K X.mg X.base X.A X.stack s H:=
 ⟨I.ok.frames,I.ok.mod,I.bs,cG I.ok.bsz I.sz,I.stack,I.stkFree,I.hok,I.bare⟩
theorem Inv.after{Q:VK}{u:Value}(I:Inv X pins σ H s)(h:CE X.stack X.prog X.w H s Q u s'):EP X pins σ Q u s':=by
 obtain⟨v,H',os,bare,un,hok,r,q⟩:=h
 obtain⟨hh,g,d,t,os'⟩:=s'
 obtain rfl:os'=s.os:=os
 exact⟨v,H',I.call (h':=hh) (g':=g) (d':=d) (t':=t) (ch:=[]) un hok bare (λb z=>absurd z (by simp)),r,q⟩
end
noncomputable def sC(sp:Sp)(dvs:List V)(E:XK)(t:TA):TE:=λσ H Q=>t σ H λvs H1=>sp (vs++dvs) H1 Q E
noncomputable def tMake(C:Addr)(sp:Sp)(dvs:List V)(E:XK)(t:TA):TE:=λσ H Q=>t σ H λvs H1=>∀x dx,H1 x=none->H1 dx=none->dx≠x ->
 sp (.ref x::(vs++dvs)) (upd (upd H1 dx (.own x)) x (.ins C dx [])) (λv H2=>v=.non/\Q (.ref x) H2) E
noncomputable def Binds(K:PySem.W.Frag)(fd:FuncData)(ps:List Str)(ds:List Value):Prop:=
 ∀(s:Shared)(us:List Value),K.In s.heap->(us++ds).length=ps.length->BindsTo s fd ⟨us,[]⟩ (ps.zip (us++ds))
theorem Binds.all{fd:FuncData}{ps:List Str}(h:∀us:List Value,us.length=ps.length->bindArgs fd ⟨us,[]⟩=pure (ps.zip us)):Binds K fd ps []:=λs us _ hl=>by
 rw[gN]at hl⊢
 exact .of_eq (h us hl)
noncomputable def kX(CX:CXT)(X:Cx)(E:XK):Prop:=∀(pins:List (Addr×Obj))(σ:St)(H:Hp)(s:Shared)(e:Value)(s':Shared),Inv X pins σ H s->CX X.stack H s E e s'->X.xe e s'
section
variable{X:Cx}{CX:CXT}{k:Nat}{f C:Addr}{fd:FuncData}{ps:List Str}{sp:Sp}{dvs:List V}{ds:List Value}{E:XK}{x m:Str}{p pos apos:Pos}{e o:Expr}{es:List Expr}{ta:TE}{t:TA}
theorem sD{pins:List (Addr×Obj)}{σ:St}{H:Hp}{s:Shared}{Q:VK}{us:List Value}{vs:List V}(F:FnOk X.prog X.w X.K X.mg X.base CX k f fd ps sp)(hr:Room k X.A)(hb:Binds X.K fd ps ds)(hd:Vals dvs ds)(hx:kX CX X E)
 (I:Inv X pins σ H s) (r:Vals vs us) (h:sp (vs++dvs) H Q E):wpAny (model X.prog X.w) X.A (call (.ref f) us) (EP X pins σ Q) X.xe s:=by
 have r2:Vals (vs++dvs) (us++ds):=r.append hd
 have hl:(us++ds).length=ps.length:=by rw[<-r2.length];exact F.len _ _ _ _ h
 refine wpAny_call (codeAny_mono (F.run X.A X.stack s H ⟨us,[]⟩ (us++ds) (vs++dvs) Q E hr I.env0 (hb s us I.kIn hl) r2 h) λr s' hq=>?_)
 cases r with
 |error e=>exact hx pins σ H s e s' I hq
 |ok fl=>
  cases fl with
  |ret u=>exact I.after hq
  |next=>exact False.elim hq
  |brk=>exact False.elim hq
  |cont=>exact False.elim hq
theorem GY(F:FnOk X.prog X.w X.K X.mg X.base CX k f fd ps sp)(hr:Room k X.A)(hg:Gl X x)(hm:X.mg x=some (.ref f))(hk:PySem.W.keepIn X.K (.ref f)=true)(hb:Binds X.K fd ps ds)(hd:Vals dvs ds)(hx:kX CX X E)
 (ha:PA X (e::es) t) (hdb:(x==("__debug__" : Str))=false:=by decide) (he:starEach (e::es) X.env=(false,eval e X.env)::starEach es X.env:=by rfl) (hpl:(backTo pos (starEach es X.env)).any (·.1)=false:=by rfl) :
 PE X (.Call (.Name x p) (e::es) [] pos) (sC sp dvs E t):=by
 intro pins s σ H Q I h
 refine wpAny_Call_Name_kw (oQ I hg hm ?_ hdb)
 refine PySem.W.callWith_K (h₀:=X.base) I.ok.mod.kin hk (thn (ha pos pins s σ H _ I h) λus s1 ⟨vs,H1,I1,r,q⟩=>⟨I1.kIn,?_⟩) he hpl
 exact sD F hr hb hd hx I1 r q
theorem GZ(F:FnOk X.prog X.w X.K X.mg X.base CX k f fd ps sp)(hr:Room k X.A)(hg:Gl X x)(hm:X.mg x=some (.ref f))(hk:PySem.W.keepIn X.K (.ref f)=true)(hb:Binds X.K fd ps ds)(hd:Vals dvs ds)(hx:kX CX X E)
 (hdb:(x==("__debug__" : Str))=false:=by decide):PE X (.Call (.Name x p) [] [] pos) (sC sp dvs E tNil):=by
 intro pins s σ H Q I h
 refine wpAny_Call_Name_kw (oQ I hg hm ?_ hdb)
 exact PySem.W.callWith_K0 I.kIn hk (sD (us:=[]) F hr hb hd hx I .nil h)
structure Mk(K:PySem.W.Frag)(C f:Addr):Prop where
 makes:PySem.W.makesIn K C=true
 init:PySem.W.findIn K (.ref C) "__init__" = some (some (.ref f))
 fn:PySem.W.isFn K (.ref f)=true
 kp:PySem.W.keepIn K (.ref C)=true
theorem G0{pins:List (Addr×Obj)}{σ:St}{H:Hp}{s:Shared}{Q:VK}{us:List Value}{vs:List V}(M:Mk X.K C f)(F:FnOk X.prog X.w X.K X.mg X.base CX k f fd ps sp)(hr:Room (k+1) X.A)(hb:Binds X.K fd ps ds)(hd:Vals dvs ds)
 (hx:kX CX X E) (I:Inv X pins σ H s) (r:Vals vs us)
 (h:∀x dx,H x=none->H dx=none->dx≠x->sp (.ref x::(vs++dvs)) (upd (upd H dx (.own x)) x (.ins C dx [])) (λv H2=>v=.non/\Q (.ref x) H2) E) :
 wpAny (model X.prog X.w) X.A (call (.ref C) us) (EP X pins σ Q) X.xe s:=by
 have hq:=h (s.heap.objs.size+1) s.heap.objs.size (I.hok.fresh (rH _)) (I.hok.fresh (aK _)) (cE (oH _))
 have I2:=Inv.made (C:=C) I
 have r2:Vals (V.ref (s.heap.objs.size+1)::(vs++dvs)) (Value.ref (s.heap.objs.size+1)::(us++ds)):=.cons rfl (r.append hd)
 have hl:(Value.ref (s.heap.objs.size+1)::us++ds).length=ps.length:=by
  have e:=r2.length
  rw[F.len _ _ _ _ hq]at e
  exact e.symm
 refine wpAny_call (GS (f:=f) I.kIn M.makes M.init (beq_iff_eq.mp M.fn) (codeAny_mono (F.run _ X.stack _ _ ⟨Value.ref (s.heap.objs.size+1)::us,[]⟩ (Value.ref (s.heap.objs.size+1)::(us++ds)) _ _ E (hr.make C us [])
  (I2.env0.make C us []) (hb _ (Value.ref (s.heap.objs.size+1)::us) I2.kIn hl) r2 hq) λr s' hq'=>?_))
 cases r with
 |error e=>exact hx pins σ _ _ e s' I2 hq'
 |ok fl=>
  cases fl with
  |ret u=>
   obtain⟨v,H',I3,rv,ev,q3⟩:=I2.after hq'
   subst ev
   exact⟨rv,⟨V.ref (s.heap.objs.size+1),H',I3,rfl,q3⟩⟩
  |next=>exact False.elim hq'
  |brk=>exact False.elim hq'
  |cont=>exact False.elim hq'
theorem G1(M:Mk X.K C f)(F:FnOk X.prog X.w X.K X.mg X.base CX k f fd ps sp)(hr:Room (k+1) X.A)(hg:Gl X x)(hm:X.mg x=some (.ref C))(hb:Binds X.K fd ps ds)(hd:Vals dvs ds)(hx:kX CX X E)
 (ha:PA X (e::es) t) (hdb:(x==("__debug__" : Str))=false:=by decide) (he:starEach (e::es) X.env=(false,eval e X.env)::starEach es X.env:=by rfl) (hpl:(backTo pos (starEach es X.env)).any (·.1)=false:=by rfl) :
 PE X (.Call (.Name x p) (e::es) [] pos) (tMake C sp dvs E t):=by
 intro pins s σ H Q I h
 refine wpAny_Call_Name_kw (oQ I hg hm ?_ hdb)
 refine PySem.W.callWith_K (h₀:=X.base) I.ok.mod.kin M.kp (thn (ha pos pins s σ H _ I h) λus s1 ⟨vs,H1,I1,r,q⟩=>⟨I1.kIn,?_⟩) he hpl
 exact G0 M F hr hb hd hx I1 r q
end
section
variable{X:Cx}{CX:CXT}{k:Nat}{f C:Addr}{fd:FuncData}{ps ks:List Str}{sp:Sp}{E:XK}{x m:Str}{p pos apos kpos:Pos}{e o:Expr}{es:List Expr}{kws:List Keyword}{te ta:TE}{t tk:TA}{nm:Option Str}
variable{g:List Value->List Value->List Value}{gV:List V->List V->List V}
end
set_option genInjectivity false in
structure FnScope(N P:List Str)(sc:Scope):Prop where
 kind:sc.kind=.function
 co:sc.isCoroutine=false
 gen:sc.isGenerator=false
 nd:N.Nodup
 pre:N.take P.length=P
 par:∀x∈P,sc.names.lookup x=some .local\/sc.names.lookup x=some .cell
 nofree:∀y∈sc.names,y.2≠.free
theorem xY:∀{binds:List (Str×Value)} {m:Str->Option Value},(∀v,(x,v)∉binds)->bindL kindOf binds m x=m x
 |[],_,_=>rfl
 |(n,v)::r,m,h=>by
  unfold bindL
  rw[xY λw hw=>h w (bG _ hw)]
  split
  ·have:x≠n:=by rintro rfl;exact h v bF
   simp[this]
  ·rfl
theorem xZ:∀{binds:List (Str×Value)} {m:Str->Option Value},(∀v,(x,v)∉binds)->bindC kindOf binds m x=m x
 |[],_,_=>rfl
 |(n,v)::r,m,h=>by
  unfold bindC
  rw[xZ λw hw=>h w (bG _ hw)]
  split
  ·rfl
  ·have:x≠n:=by rintro rfl;exact h v bF
   simp[this]
theorem yA:∀{P:List Str} {vs:List Value} {i:Nat} {m:Str->Option Value},P.Nodup->P[i]?=some x->vs[i]?=some v->kindOf x=some .local ->
 bindL kindOf (P.zip vs) m x=some v
 |[],_,_,_,_,h,_,_=>by simp at h
 |_::_,[],_,_,_,_,h,_=>by simp at h
 |p::P,w::vs,0,m,nd,h1,h2,hk=>by
  simp at h1 h2;subst h1;subst h2
  show bindL kindOf ((p,w)::P.zip vs) m p=_
  unfold bindL
  rw[xY λv hv=>(oI.mp nd).1 (Ex hv).1,if_pos hk]
  simp
 |p::P,w::vs,i+1,m,nd,h1,h2,hk=>by
  show bindL kindOf ((p,w)::P.zip vs) m x=_
  unfold bindL
  exact yA (i:=i) (oI.mp nd).2 (by simpa using h1) (by simpa using h2) hk
theorem yB:∀{P:List Str} {vs:List Value} {i:Nat} {m:Str->Option Value},P.Nodup->P[i]?=some x->vs[i]?=some v->kindOf x≠some .local ->
 bindC kindOf (P.zip vs) m x=some v
 |[],_,_,_,_,h,_,_=>by simp at h
 |_::_,[],_,_,_,_,h,_=>by simp at h
 |p::P,w::vs,0,m,nd,h1,h2,hk=>by
  simp at h1 h2;subst h1;subst h2
  show bindC kindOf ((p,w)::P.zip vs) m p=_
  unfold bindC
  rw[xZ λv hv=>(oI.mp nd).1 (Ex hv).1,if_neg hk]
  simp
 |p::P,w::vs,i+1,m,nd,h1,h2,hk=>by
  show bindC kindOf ((p,w)::P.zip vs) m x=_
  unfold bindC
  exact yB (i:=i) (oI.mp nd).2 (by simpa using h1) (by simpa using h2) hk
noncomputable def dM(N:List Str)(vs:List V):St:=vs.map some++aQ (N.length-vs.length) none
noncomputable def fM(CX:CXT)(P:Program)(w:World)(K:PySem.W.Frag)(mg:Str->Option Value)(base:Heap)(N:List Str)(qual:Str)(scope:Scope)(f:Addr)(cd:Value)(A:Around)(outer:List Env)(s:Shared)(H:Hp)(E:XK):Cx where
 prog:=P
 w:=w
 K:=K
 mg:=mg
 base:=base
 A:=A.deeper (envOfC qual scope s.heap.objs.size f cd)
 N:=N
 sh:=s
 H_h:=H
 env:=envOfC qual scope s.heap.objs.size f cd
 outer:=outer
 stack:=envOfC qual scope s.heap.objs.size f cd::outer
 ex:=[]
 calm:=true
 fn:=λ_=>true
 pn:=[]
 xe:=λe s'=>wpAny (model P w) (A.deeper (envOfC qual scope s.heap.objs.size f cd)) (leaving (envOfC qual scope s.heap.objs.size f cd) e) (λ_ s''=>CX outer H s E e s'') (λe' s''=>CX outer H s E e' s'') s'
theorem yC{sc:Scope}{n:Nat}(h:sc.names.lookup x=some .cell):∃c,(cellsFrom n sc.names []).lookup x=some c:=by
 have q:=PySem.W.cellsFrom_some sc.names n [] (.inl h)
 exact Option.isSome_iff_exists.mp q
theorem G2{CX:CXT}{P:Program}{w:World}{K:PySem.W.Frag}{mg:Str->Option Value}{base:Heap}{N ps:List Str}{qual:Str}{scope:Scope}{f:Addr}{cd:Value}{A:Around}{outer:List Env}{s s1:Shared}{H:Hp}{E:XK}{us:List Value}{vs:List V}
 (S:FnScope N ps scope) (hd:A.handled=none) (e0:Env0 P w K mg base A outer s H) (hl:vs.length=ps.length) (r:Vals vs us)
 (x:InCallC s s.heap.objs.size (bindL (envOfC qual scope s.heap.objs.size f cd).kindOf (ps.zip us) λ_=>none) (cellsFrom (s.heap.objs.size+1) scope.names []) (bindC (envOfC qual scope s.heap.objs.size f cd).kindOf (ps.zip us) λ_=>none) s1) :
 Inv (fM CX P w K mg base N qual scope f cd A outer s H E) [] (dM N vs) H s1:=by
 have hpl:ps.length<=N.length:=by have:=congrArg Ey S.pre;rw[rJ]at this;lia
 obtain⟨h1,tk,rfl,hk⟩:=x.done
 have noA:∀b:Addr,b∉(fM CX P w K mg base N qual scope f cd A outer s H E).ex:=λb z=>absurd (show b∈([]:List Addr)from z) (by simp)
 refine⟨⟨e0.mod,S.kind,rfl,rfl,aK _,λy z c h1 h2=>?_,λy hy=>?_,λy c _ h=>?_,λ_=>hd,Around.frames_deeper e0.frames,.inr ⟨rfl,rfl⟩,λb z=>absurd z (noA b),e0.bs,e0.bsz,λb _ _=>noA b,λb z=>absurd z (noA b),e0.funs,e0.frf⟩,
  rfl,e0.bare,Un.kept hk,⟨_,x.toInCall.ns,λi y v h1 h2 h3=>?_⟩,λy c h=>⟨_,x.cell y c h⟩,e0.hok.fresh (aK _),λy c h=>?_,λp hp=>absurd (show p∈([]:List (Addr×Obj))from hp) (by simp),e0.hok.kept hk,?_⟩
 ·exact name_of_addr x.apart (PySem.mem_of_lookup h1) (PySem.mem_of_lookup h2)
 ·have hy:scope.names.lookup y=some .cell\/scope.names.lookup y=some .free:=hy
  rcases hy with hy|hy
  ·exact yC hy
  ·exact absurd rfl (S.nofree _ (PySem.mem_of_lookup hy))
 ·exact kM (x.above y c (PySem.mem_of_lookup h))
 ·have hi:i<vs.length:=by
   unfold dM at h2
   by_cases hi:i<vs.length
   ·exact hi
   ·rw[gE (by simpa using hi)]at h2
    rw[lV]at h2
    split at h2<;>cases h2
  have ha:vs[i]?=some v:=by
   unfold dM at h2
   rw[jP (by simpa using hi),bX]at h2
   cases e:vs[i]? with
   |none=>rw[e]at h2;cases h2
   |some a=>rw[e]at h2;cases h2;rfl
  obtain⟨u,hu,rv⟩:=r.get ha
  have hp:ps[i]?=some y:=by
   rw[<-S.pre,Ez (by lia)];exact h1
  have ndP:ps.Nodup:=by rw[<-S.pre];exact S.nd.sublist (FA _ _)
  refine⟨u,rv,?_⟩
  rcases S.par y (iB hp)with k|k
  ·exact .inl ⟨k,yA ndP hp hu k⟩
  ·obtain⟨c,e⟩:=yC (n:=s.heap.objs.size+1) k
   refine .inr ⟨.inl k,c,e,?_⟩
   have q:=x.cell y c e
   rw[yB ndP hp hu (by show scope.names.lookup y≠_;rw[k];decide)]at q
   exact q
 ·exact e0.hok.fresh (kM (x.above y c (PySem.mem_of_lookup h)))
 ·unfold dM
  show _=N.length
  rw[bB,aI,eB]
  lia
theorem fn_of{CX:CXT}{P:Program}{w:World}{K:PySem.W.Frag}{mg:Str->Option Value}{base:Heap}{k:Nat}{f:Addr}{name qual:Str}{params:Arguments}{body:List Stmt}{scope:Scope}{dV kV doc pm cdv ct oc:Value}{an od:Option Addr}
 {osl:Array (Option Value)} {N ps:List Str} {sp:Sp} (lk:K.lookup f=some ⟨oc,od,.func (PySem.W.fnOf name qual params body scope dV kV doc pm an cdv ct),osl⟩) (hcd:PySem.W.codeIn K cdv qual=true) (S:FnScope N ps scope)
 (len:∀vs H Q E,sp vs H Q E->vs.length=ps.length)
 (hbody:∀(A:Around)(outer:List Env)(s:Shared)(H:Hp)(vs:List V)(Q:VK)(E:XK),Room k (A.deeper (envOfC qual scope s.heap.objs.size f cdv))->sp vs H Q E ->
  ∃t,PSs (fM CX P w K mg base N qual scope f cdv A outer s H E) body t/\t {nx:=λ_ H'=>Q .non H',rt:=Q} (dM N vs) H) :
 FnOk P w K mg base CX (k+1) f (PySem.W.fnOf name qual params body scope dV kV doc pm an cdv ct) ps sp:=by
 refine⟨len,λA outer s H args us vs Q E hr e0 hb r hsp=>?_⟩
 have hl:=len _ _ _ _ hsp
 have KX:K.In s.heap:=e0.mod.kin.keeps λb o e=>(e0.bs b o e).1
 have lim:s.heap.NoLimit:=e0.mod.nolimit.keeps λb o e=>(e0.bs b o e).1
 have hkind:∀y∈ps.zip us,scope.names.lookup y.1=some .local\/(scope.names.lookup y.1=some .cell/\((cellsFrom (s.heap.objs.size+1) scope.names []).lookup y.1).isSome=true):=λ⟨n,v⟩ hy=>by
  rcases S.par n (Ex hy).1 with q|q
  ·exact .inl q
  ·exact .inr ⟨q,PySem.W.cellsFrom_some _ _ _ (.inl q)⟩
 refine codeAny_call_function hr.depth (KX _ _ lk) rfl S.co S.gen rfl (PySem.W.codeRec_of KX hcd) (hb _ _ _ _ ?_)
 refine wpAny_newFunctionEnv_cells S.kind hkind λenv he s1 x=>?_
 subst he
 refine⟨lim.keeps x.toInCall.keep,codeAny_func ?_⟩
 obtain⟨t,ht,hq⟩:=hbody A outer s H vs Q E (hr.deeper _) hsp
 have I:Inv (fM CX P w K mg base N qual scope f cdv A outer s H E) [] (dM N vs) H s1:=G2 S hr.hd e0 hl r x
 refine wpAny_mono (ht [] s1 (dM N vs) H _ I hq) (λfl s' hs=>?_) λe s' hs=>hs
 have fin:∀{σ':St} {H':Hp} {v:V} {u:Value},Inv (fM CX P w K mg base N qual scope f cdv A outer s H E) [] σ' H' s'->RelV v u->Q v H'->CE outer P w H s Q u s':=
  λ{σ' H' v u} J rv q=>⟨v,H',J.os,J.bare,J.base,J.hok,rv,q⟩
 cases fl with
 |ret u=>
  obtain⟨v,σ',H',J,rv,q⟩:=hs
  exact fin J rv q
 |next=>
  obtain⟨σ',H',J,q⟩:=hs
  exact fin (v:=V.non) (u:=Value.none) J rfl q
 |brk=>
  obtain⟨_,_,_,q⟩:=hs
  exact False.elim q
 |cont=>
  obtain⟨_,_,_,q⟩:=hs
  exact False.elim q
end L2
namespace L2
open PySem PySem.Spec PyProof.Rows
section
variable{X:Cx}{x:Str}{p pos:Pos}{e:Expr}{es:List Expr}{t:TA}{id T:String}{r:List V->Hp->VK->Prop}
noncomputable def tCB(r:List V->Hp->VK->Prop)(t:TA):TE:=λσ H Q=>t σ H λvs H1=>r vs H1 Q
theorem mO (hc:cM X (.builtin id) r) (hg:Gl X x) (hm:X.mg x=none) (hv:bootBuiltins x=some (.builtin id)) (ha:PA X (e::es) t) (hn:x ≠ "__name__" := by decide) (hdb:(x==("__debug__" : Str))=false:=by decide)
 (he:starEach (e::es) X.env=(false,eval e X.env)::starEach es X.env:=by rfl) (hpl:(backTo pos (starEach es X.env)).any (·.1)=false:=by rfl):PE X (.Call (.Name x p) (e::es) [] pos) (tCB r t):=by
 intro pins s σ H Q I h
 refine wpAny_Call_Name_kw (iY I hg hm hv ?_ hn hdb)
 exact PyProof.Rows.callWith_builtin1 (thn (ha pos pins s σ H _ I h) λus s1 ⟨vs,H1,I1,r1,q1⟩=>hc pins s1 σ H1 vs us Q I1 r1 q1) he hpl
theorem jV (hc:cM X (.type T) r) (hg:Gl X x) (hm:X.mg x=none) (hv:bootBuiltins x=some (.type T)) (ha:PA X (e::es) t) (hn:x ≠ "__name__" := by decide) (hdb:(x==("__debug__" : Str))=false:=by decide)
 (he:starEach (e::es) X.env=(false,eval e X.env)::starEach es X.env:=by rfl) (hpl:(backTo pos (starEach es X.env)).any (·.1)=false:=by rfl):PE X (.Call (.Name x p) (e::es) [] pos) (tCB r t):=by
 intro pins s σ H Q I h
 refine wpAny_Call_Name_kw (iY I hg hm hv ?_ hn hdb)
 exact PyProof.Rows.callWith_type1 (thn (ha pos pins s σ H _ I h) λus s1 ⟨vs,H1,I1,r1,q1⟩=>hc pins s1 σ H1 vs us Q I1 r1 q1) he hpl
end
end L2
namespace HT
open PySem PyProof.Rows
section
open PySem.SeqAt
open PySem.AutoSeq1 (wpAny_loadPart')
open PySem.MeetsSeq PySem.MeetsSeq2 PySem.MeetsSeq3
end
section
variable{prog:Program}{w:World}{A:Around}{E:Value->Shared->Prop}{s:Shared}
theorem cat_tup{t b:Addr}{vs ws:List Value}{Q:Value->Shared->Prop}(ht:IsTup s.heap t vs.toArray)(hb:IsTup s.heap b ws.toArray)(hv:vs≠[])
 (h1:ws=[]->Q (.ref t) s) (h2:ws≠[]->Q (.ref s.heap.objs.size) {s with heap:=s.heap.push {cls:=.type "tuple", data:=.seq (vs++ws).toArray} })
 (hsz:vs.length+ws.length<=sizeLine):wpAny (model prog w) A (binaryOp .Add (.ref t) (.ref b)) Q E s:=by
 obtain⟨⟨cls,dd,data,sl⟩,ho,hc,n,hd⟩:=id ht
 obtain⟨⟨cls2,dd2,data2,sl2⟩,ho2,hc2,n2,hd2⟩:=id hb
 simp only at hc hd hc2 hd2
 subst hc hd hc2 hd2
 have e:vs.toArray++ws.toArray=(vs++ws).toArray:=by simp
 by_cases hw:ws=[]
 ·exact concat_meets ⟨_,ho,rfl⟩ ⟨_,ho2,rfl⟩ noFill_tuple_add seq_tuple_add PySem.F.slot_tuple_add PySem.F.entry_tuple_add (PySem.F.args_tuple_add_2 _ _)
   (tuple_addW1 t b vs.toArray ws.toArray n n2 dd dd2 sl sl2 (by simpa using hv) (by simp[hw])) ⟨ho,ho2,h1 hw⟩
 ·refine concat_meets ⟨_,ho,rfl⟩ ⟨_,ho2,rfl⟩ noFill_tuple_add seq_tuple_add PySem.F.slot_tuple_add PySem.F.entry_tuple_add (PySem.F.args_tuple_add_2 _ _)
   (tuple_addW2 t b vs.toArray ws.toArray n n2 dd dd2 sl sl2 (by simpa using hv) (by simpa using hw) (by rw[bI,bI];exact hsz)) ⟨ho,ho2,?_⟩
  rw[e]
  exact h2 hw
noncomputable def sIx(n d:Nat):Option Int->Nat
 |none=>d
 |some v=>if v<0 then(v+(n:Int)).toNat else min v.toNat n
theorem sIx_le(n d:Nat)(hd:d<=n)(o:Option Int):sIx n d o<=n:=by
 cases o with
 |none=>exact hd
 |some v=>
  show(if v<0 then(v+(n:Int)).toNat else min v.toNat n)<=n
  by_cases hv:v<0
  ·rw[if_pos hv];lia
  ·rw[if_neg hv];exact Nat.min_le_right _ _
theorem yD(v:Int)(n d:Nat):(if v<0 then max (v+(n:Int)) 0 else min v (n:Int))=((sIx n d (some v):Nat):Int):=by
 show(if v<0 then max (v+(n:Int)) 0 else min v (n:Int))=(((if v<0 then(v+(n:Int)).toNat else min v.toNat n):Nat):Int)
 by_cases hv:v<0
 ·simp only[if_pos hv];lia
 ·simp only[if_neg hv];lia
theorem G3(lo hi:Option Int)(n:Nat):Builtin.Slice.sliceAdjust lo hi 1 (n:Int)=(((sIx n 0 lo:Nat):Int),((sIx n n hi:Nat):Int)):=by
 have h1:¬((1:Int)<0):=by lia
 unfold Builtin.Slice.sliceAdjust
 simp only[h1,if_false]
 refine Prod.ext ?_ ?_
 ·cases lo with
  |none=>rfl
  |some v=>exact yD v n 0
 ·cases hi with
  |none=>rfl
  |some v=>exact yD v n n
theorem G4(i j:Nat):Builtin.Slice.slicePlaces (i:Int) (j:Int) 1=j-i:=by
 unfold Builtin.Slice.slicePlaces
 have h1:(1:Int)>0:=by lia
 simp only[h1,if_true,Int.ediv_one]
 split<;>lia
theorem yE{v:Value}{o:Option Int}{Q:Option Int->Shared->Prop}(p:IsPart v o)(h:Q o s):wpAny (model prog w) A (Builtin.Slice.slicePartIndex v) Q E s:=by
 cases p with
 |none=>exact slicePart_none h
 |int i t=>exact slicePart_int h
theorem sliceApplied_gen{sl:Addr}{vl vu:Value}{lo hi:Option Int}{n:Nat}{Q:Int×Int×Nat->Shared->Prop}(hs:s.heap.IsSliceOf sl vl vu .none)(pl:IsPart vl lo)(pu:IsPart vu hi)
 (h:Q (((sIx n 0 lo:Nat):Int),1,sIx n n hi-sIx n 0 lo) s):wpAny (model prog w) A (Builtin.Slice.sliceApplied (.ref sl) (pure (n:Int))) Q E s:=by
 obtain⟨os,hos,hcs,hds⟩:=id hs
 unfold Builtin.Slice.sliceApplied Builtin.Slice.sliceFields
 refine wpAny_bind (wpAny_bind (wpAny_field hos hds (x:=vl) rfl (wpAny_bind (wpAny_field hos hds (x:=vu) rfl (wpAny_bind (wpAny_field hos hds (x:=.none) rfl (wpAny_pure ?_)))))))
 refine wpAny_bind (slicePart_none ?_)
 show wpAny _ _ (if((1:Int)==0)=true then _ else _) _ _ s
 rw[if_neg (by decide)]
 refine wpAny_bind (yE pl (wpAny_bind (yE pu (wpAny_bind (wpAny_pure ?_)))))
 show wpAny _ _ (match Builtin.Slice.sliceAdjust lo hi 1 (n:Int)with|(lo,hi)=>pure (lo,(1:Int),Builtin.Slice.slicePlaces lo hi 1)) _ _ s
 rw[G3 lo hi n]
 show wpAny _ _ (pure (((sIx n 0 lo:Nat):Int),(1:Int),Builtin.Slice.slicePlaces ((sIx n 0 lo:Nat):Int) ((sIx n n hi:Nat):Int) 1)) _ _ s
 rw[G4]
 exact wpAny_pure h
theorem G5(xs:Array Value)(i k:Nat):((aC k).filterMap λ(m:Nat)=>xs[((i:Int)+(m:Int)*1).toNat]?).toArray=((xs.toList.drop i).take k).toArray:=by
 have e:(λ(m:Nat)=>xs[((i:Int)+(m:Int)*1).toNat]?)=λm=>xs[i+m]?:=by
  funext m
  have:((i:Int)+(m:Int)*1).toNat=i+m:=by lia
  rw[this]
 rw[e]
 have:=pick_run xs i k
 rw[Nk]at this
 have e2:((λx=>xs[x]?)∘λx=>i+x)=λm=>xs[i+m]?:=rfl
 rw[e2]at this
 rw[this]
theorem getItem_tuple_cut{t sl:Addr}{items:Array Value}{vl vu:Value}{lo hi:Option Int}{Q:Value->Shared->Prop}(ht:IsTup s.heap t items)(hs:s.heap.IsSliceOf sl vl vu .none)(pl:IsPart vl lo)(pu:IsPart vu hi)
 (hw:¬(sIx items.size 0 lo=0/\sIx items.size items.size hi=items.size))
 (h:Q (.ref s.heap.objs.size) {s with heap:=s.heap.push {cls:=.type "tuple", data:=.seq ((items.toList.drop (sIx items.size 0 lo)).take (sIx items.size items.size hi-sIx items.size 0 lo)).toArray} })
 (hsz:items.size<=sizeLine):wpAny (model prog w) A (getItem (.ref t) (.ref sl)) Q E s:=by
 have htake:sizeOk (.seq ((items.toList.drop (sIx items.size 0 lo)).take (sIx items.size items.size hi-sIx items.size 0 lo)).toArray):=by
  show((items.toList.drop (sIx items.size 0 lo)).take (sIx items.size items.size hi-sIx items.size 0 lo)).toArray.size<=sizeLine
  rw[bI,rJ,oJ,oG]
  lia
 have hj:sIx items.size items.size hi<=items.size:=sIx_le _ _ (aK _) hi
 obtain⟨os,hos,hcs,hds⟩:=id hs
 have hTs:s.TypeIs (.ref sl) "slice" := ⟨os,hos,hcs⟩
 unfold getItem
 try with_reducible refine wpAny_holding ?_
 first|refine wpAny_bind (wpAny_pure ?_)|skip
 refine wpAny_bind (wpAny_sequenceKey ht.typeIs (by decide) ?_)
 refine wpAny_bind (wpAny_callSpecial?_slot (name:=Str.ofString "__getitem__") ht.typeIs PyProof.Rows.slot_tuple_getitem
  (wpAny_call_entry PyProof.Rows.slot_tuple_getitem ht.typeIs entry_tuple_getitem ?_ (args_tuple_getitem _ _)))
 show wpAny _ _ (Builtin.Tuple.tupleItemsOf (.ref t)>>=_) _ _ s
 refine wpAny_bind (tupleItemsOf_ ht ?_)
 refine wpAny_bind (wpAny_typeOf hTs ?_)
 rw[if_pos (by decide)]
 refine wpAny_bind (sliceApplied_gen hs pl pu ?_)
 have hno:¬((((sIx items.size 0 lo:Nat):Int)==0&&(1:Int)==1&&(sIx items.size items.size hi-sIx items.size 0 lo)==items.size)=true):=by
  intro q
  rw[aD,aD]at q
  have q1:((sIx items.size 0 lo:Nat):Int)=0:=eq_of_beq q.1.1
  have q2:sIx items.size items.size hi-sIx items.size 0 lo=items.size:=eq_of_beq q.2
  exact hw ⟨by lia,by lia⟩
 show wpAny _ _ (if(((sIx items.size 0 lo:Nat):Int)==0&&(1:Int)==1&&(sIx items.size items.size hi-sIx items.size 0 lo)==items.size)=true then _ else _) _ _ s
 rw[if_neg hno,G5]
 first
  |exact wpAny_bind (m:=Builtin.Tuple.tupleExact _) (wpAny_newObj_type (wpAny_pure ⟨_,rfl,wpAny_pure h⟩) htake)
  |exact wpAny_bind (m:=Builtin.Tuple.tupleExact _) (wpAny_newObj_type (wpAny_bind (wpAny_pure (wpAny_pure ⟨_,rfl,wpAny_pure h⟩))) htake)
  |exact wpAny_bind (wpAny_bind (m:=Builtin.Tuple.tupleExact _) (wpAny_newObj_type (wpAny_pure (wpAny_pure ⟨_,rfl,wpAny_pure h⟩)) htake))
  |exact wpAny_bind (wpAny_bind (m:=Builtin.Tuple.tupleExact _) (wpAny_newObj_type (wpAny_pure ⟨_,rfl,wpAny_pure h⟩) htake))
end
end HT
namespace L2
open PySem PySem.Spec PyProof.Rows
noncomputable abbrev TO:=St->Hp->(Option Int->Hp->Prop)->Prop
noncomputable def PO(X:Cx)(e:Option Expr)(t:TO):Prop:=
 ∀(pins:List (Addr×Obj))(s:Shared)(σ:St)(H:Hp)(Q:Option Int->Hp->Prop),Inv X pins σ H s->t σ H Q ->
  wpAny (model X.prog X.w) X.A (evalPart e X.env) (λu s'=>∃o H',Inv X pins σ H' s'/\IsPart u o/\Q o H') X.xe s
noncomputable def G6:TO:=λ_ H Q=>Q none H
theorem G7{ns:List Int}:∀{us:List Value},Vals (ns.map V.int) us->IntsAre us ns:=by
 induction ns with
 |nil=>intro us r;rw[iT]at r;cases r;exact .nil
 |cons n ns ih=>
  intro us r
  rw[aL]at r
  cases r with
  |cons r1 r2=>
   obtain⟨t,e⟩:=r1
   subst e
   exact .cons n t (ih r2)
section
variable{X:Cx}{e:Expr}{te:TE}{lo hi:Option Expr}{tl th:TO}{pos p2:Pos}
theorem G8:PO X none G6:=by
 intro pins s σ H Q I h
 rw[evalPart_none]
 exact wpAny_pure ⟨none,H,I,.none,h⟩
noncomputable def SlR(X:Cx)(r:V->Option Int->Option Int->Hp->VK->Prop):Prop:=
 ∀(pins:List (Addr×Obj))(s:Shared)(σ:St)(H:Hp)(x:V)(v vl vu:Value)(lo hi:Option Int)(sl:Addr)(Q:VK),Inv X pins σ H s->RelV x v->s.heap.IsSliceOf sl vl vu .none->IsPart vl lo->IsPart vu hi->r x lo hi H Q ->
  ∃T id,typeLookup (.type T) "__getitem__" = pure (some (.builtin id))/\s.TypeIs v T/\wpAny (model X.prog X.w) X.A (getItem v (.ref sl)) (EP X pins σ Q) X.xe s
noncomputable def tSl(r:V->Option Int->Option Int->Hp->VK->Prop)(te:TE)(tl th:TO):TE:=λσ H Q=>te σ H λx H1=>tl σ H1 λl H2=>th σ H2 λu H3=>r x l u H3 Q
theorem G9{r:V->Option Int->Option Int->Hp->VK->Prop}(hr:SlR X r)(he:PE X e te)(hl:PO X lo tl)(hu:PO X hi th):PE X (.Subscript e (.Slice lo hi none p2) pos) (tSl r te tl th):=by
 intro pins s σ H Q I h
 refine Subscript_ (thn (he pins s σ H _ I h) λv s1 ⟨x,H1,I1,r1,q1⟩=>?_)
 refine wpAny_Slice (thn (hl pins s1 σ H1 _ I1 q1) λvl s2 ⟨l,H2,I2,pl,q2⟩=>thn (hu pins s2 σ H2 _ I2 q2) λvu s3 ⟨u,H3,I3,pu,q3⟩=>?_)
 rw[evalPart_none]
 refine wpAny_pure ?_
 have I4:Inv X pins σ H3 {s3 with heap:=s3.heap.push {cls:=.type "slice", data:=.fields #[vl,vu,.none] } }:=I3.kept (t':=s3.toks) λb ob q=>Heap.get?_push_of_some _ q
 obtain⟨T,id,hT,ht,hg⟩:=hr pins {s3 with heap:=s3.heap.push {cls:=.type "slice", data:=.fields #[vl,vu,.none] } } σ H3 x v vl vu l u s3.heap.objs.size Q I4 r1 (Heap.IsSliceOf.new ..) pl pu q3
 show wpAny (model X.prog X.w) X.A (subscriptTail e (.Slice lo hi none p2) v (.ref s3.heap.objs.size)) (EP X pins σ Q) X.xe {s3 with heap:=s3.heap.push {cls:=.type "slice", data:=.fields #[vl,vu,.none] } }
 exact tail_any (ops:=[.ref s3.heap.objs.size,v]) ht hT hg (by with_unfolding_all rfl)
noncomputable def iZ(xs:List V)(lo hi:Option Int):List V:=(xs.drop (HT.sIx xs.length 0 lo)).take (HT.sIx xs.length xs.length hi-HT.sIx xs.length 0 lo)
theorem yF(xs:List V)(lo hi:Option Int):(iZ xs lo hi).length<=xs.length:=by
 unfold iZ
 rw[rJ,oJ]
 lia
noncomputable def rSlT(K:PySem.W.Frag):V->Option Int->Option Int->Hp->VK->Prop:=λx lo hi H Q=>∃a xs,x=.ref a/\SqT K H a xs /\
 ¬(HT.sIx xs.length 0 lo=0/\HT.sIx xs.length xs.length hi=xs.length)/\∀p,H p=none->Q (.ref p) (upd H p (.tup (iZ xs lo hi)))
theorem sl_tup:SlR X (rSlT X.K):=by
 intro pins s σ H x v vl vu lo hi sl Q I rx hs pl pu h
 obtain⟨a,xs,rfl,hx,hw,q⟩:=h
 cases rx
 obtain⟨its,r,ht,hz⟩:=I.tuple hx
 have hlen:its.toArray.size=xs.length:=by rw[bI];exact r.length.symm
 refine⟨"tuple", _,PyProof.Rows.slot_tuple_getitem.lookup,ht.typeIs,?_⟩
 refine HT.getItem_tuple_cut ht hs pl pu (by rw[hlen];exact hw) ?_ (by rw[hlen];exact hz)
 rw[hlen]
 refine⟨.ref s.heap.objs.size,_,I.laid (t':=s.toks) (o:=.tup (iZ xs lo hi)) (λb ob q=>Heap.get?_push_of_some _ q) (aK _) ?_,rfl,q _ (I.hok.fresh (aK _))⟩
 exact⟨cG (yF xs lo hi) hz,_,(r.drop (HT.sIx xs.length 0 lo)).take (HT.sIx xs.length xs.length hi-HT.sIx xs.length 0 lo),IsTup.new _ _⟩
noncomputable def rCatT(K:PySem.W.Frag):R2:=λx y H Q=>∃a b xs ys,x=.ref a/\y=.ref b/\SqT K H a xs/\SqT K H b ys/\xs≠[]/\xs.length+ys.length<=sizeLine /\
 (ys=[]->Q (.ref a) H)/\(ys≠[]->∀p,H p=none->Q (.ref p) (upd H p (.tup (xs++ys))))
theorem Vals.nil_iff{xs:List V}{us:List Value}(r:Vals xs us):us=[]↔xs=[]:=by
 cases r with
 |nil=>simp
 |cons _ _=>simp
theorem G_:OpR X (binaryOp .Add) (rCatT X.K):=by
 intro pins s σ H x y v u Q I rx ry h
 obtain⟨a,b,xs,ys,rfl,rfl,ha,hb,hx,hz,q1,q2⟩:=h
 cases rx
 cases ry
 obtain⟨its,r1,p1,_⟩:=I.tuple ha
 obtain⟨its2,r2,p2,_⟩:=I.tuple hb
 refine HT.cat_tup p1 p2 (λz=>hx (r1.nil_iff.mp z)) (λz=>⟨.ref a,H,I,rfl,q1 (r2.nil_iff.mp z)⟩) (λz=>?_) (by rw[<-r1.length,<-r2.length];exact hz)
 refine⟨.ref s.heap.objs.size,_,I.laid (t':=s.toks) (o:=.tup (xs++ys)) (λb ob q=>Heap.get?_push_of_some _ q) (aK _) ?_,rfl,q2 (λw=>z (r2.nil_iff.mpr w)) _ (I.hok.fresh (aK _))⟩
 exact⟨by rw[bB];exact hz,_,r1.append r2,IsTup.new _ _⟩
end
variable{i:Int}
noncomputable def ixN(n:Nat)(i:Int):Option Nat:=if 0<=i then(if i<n then some i.toNat else none)else if -(n:Int)<=i then some (i+n).toNat else none
noncomputable def atI{α:Type}(xs:List α)(i:Int):Option α:=(ixN xs.length i).bind λj=>xs[j]?
theorem Ga{n:Nat}{j:Nat}(h:ixN n i=some j):seqIndex? i n=some j/\j<n /\ -(n:Int)<=i/\i<n:=by
 unfold ixN at h
 by_cases h0:0<=i
 ·rw[if_pos h0]at h
  by_cases h1:i<n
  ·rw[if_pos h1]at h
   have e:i.toNat=j:=dJ.inj h
   exact⟨by rw[seqIndex_of h0 h1,e],by lia,by lia,h1⟩
  ·rw[if_neg h1]at h;cases h
 ·rw[if_neg h0]at h
  by_cases h1:-(n:Int)<=i
  ·rw[if_pos h1]at h
   have e:(i+n).toNat=j:=dJ.inj h
   exact⟨by rw[seqIndex_neg (by lia) h1,e],by lia,h1,by lia⟩
  ·rw[if_neg h1]at h;cases h
theorem sE{α:Type}{xs:List α}{v:α}(h:atI xs i=some v):∃j,seqIndex? i xs.length=some j/\xs[j]?=some v/\j<xs.length /\ -(xs.length:Int)<=i/\i<xs.length:=by
 unfold atI at h
 cases e:ixN xs.length i with
 |none=>rw[e]at h;cases h
 |some j=>
  rw[e]at h
  obtain⟨h1,h2,h3,h4⟩:=Ga e
  exact⟨j,h1,h,h2,h3,h4⟩
noncomputable def yG(b:Expr):Prop:=∀o i,subscripted b false o i=operate [o,i] (getItem o i)
noncomputable def IxR(X:Cx)(r:R2):Prop:=
 ∀(value slice:Expr)(pins:List (Addr×Obj))(s:Shared)(σ:St)(H:Hp)(x y:V)(v u:Value)(Q:VK),Inv X pins σ H s->RelV x v->RelV y u->r x y H Q ->
  subscripted slice false v u=operate [v,u] (getItem v u)->wpAny (model X.prog X.w) X.A (subscriptTail value slice v u) (EP X pins σ Q) X.xe s
noncomputable def MtR(X:Cx)(id:String)(r:V->List V->Hp->VK->Prop):Prop:=
 ∀(pins:List (Addr×Obj))(s:Shared)(σ:St)(H:Hp)(x:V)(xs:List V)(v:Value)(us:List Value)(Q:VK),Inv X pins σ H s->RelV x v->Vals xs us->r x xs H Q ->
  wpAny (model X.prog X.w) X.A (call (.builtin id) (v::us)) (EP X pins σ Q) X.xe s
section
variable{X:Cx}{a b:Expr}{ta tb:TE}{pos:Pos}
theorem pe_ix{r:R2}(hr:IxR X r)(ha:PE X a ta)(hb:PE X b tb)(hs:yG b):PE X (.Subscript a b pos) (tOp r ta tb):=by
 intro pins s σ H Q I h
 exact Subscript_ (binT ha hb I h λv u s2 x y H2 I2 rx ry q=>hr a b pins s2 σ H2 x y v u Q I2 rx ry q (hs _ _))
noncomputable def rIxL(K:PySem.W.Frag):R2:=λx y H Q=>∃p xs i v,x=.ref p/\y=.int i/\SqL K H p xs/\atI xs i=some v/\Q v H
noncomputable def rIxT(K:PySem.W.Frag):R2:=λx y H Q=>∃p xs i v,x=.ref p/\y=.int i/\SqT K H p xs/\atI xs i=some v/\Q v H
noncomputable def rIxS:R2:=λx y H Q=>∃z i c,x=.str z/\y=.int i/\z.length<=sizeLine/\atI z.cps.toList i=some c/\Q (.str ⟨#[c]⟩) H
theorem Gb:IxR X (rIxL X.K):=by
 intro value slice pins s σ H x y v u Q I rx ry h hs
 obtain⟨p,xs,i,z,rfl,rfl,hq,he,q⟩:=h
 cases rx
 obtain⟨t,rfl⟩:=ry
 obtain⟨its,r,pl,hz⟩:=I.list hq
 obtain⟨j,h1,h2,h3,h4,h5⟩:=sE he
 obtain⟨w,ew,rw'⟩:=r.get h2
 have hl:=r.length
 have hn:=kW
 have fin:EP X pins σ Q w s:=⟨z,H,I,rw',q⟩
 by_cases h0:0<=i
 ·have hj:i.toNat=j:=by
   rw[seqIndex_of h0 h5]at h1
   exact dJ.inj h1
  exact item_listR pl.isList h0 (by lia) (by rw[hj];simpa using ew) fin hs
 ·have hj:(i+(its.toArray.size:Int)).toNat=j:=by
   rw[seqIndex_neg (by lia) h4]at h1
   rw[bI,<-hl]
   exact dJ.inj h1
  exact subscriptTail_builtinR (x:=w) pl.isList.typeIs slot_list_getitem.lookup
   (wpAny_getItem_list_neg (Q:=λr s'=>r=w/\EP X pins σ Q r s') pl.isList (by lia) (by rw[bI]<;>lia) (by lia) (by rw[hj];simpa using ew) ⟨rfl,fin⟩) hs
theorem ix_tup:IxR X (rIxT X.K):=by
 intro value slice pins s σ H x y v u Q I rx ry h hs
 obtain⟨p,xs,i,z,rfl,rfl,hq,he,q⟩:=h
 cases rx
 obtain⟨t,rfl⟩:=ry
 obtain⟨its,r,pl,hz⟩:=I.tuple hq
 obtain⟨j,h1,h2,h3,h4,h5⟩:=sE he
 obtain⟨w,ew,rw'⟩:=r.get h2
 have hl:=r.length
 have hn:=kW
 have fin:EP X pins σ Q w s:=⟨z,H,I,rw',q⟩
 exact subscriptTail_builtinR (x:=w) pl.typeIs slot_tuple_getitem.lookup
  (getItem_tuple (j:=j) (Q:=λr s'=>r=w/\EP X pins σ Q r s') pl (by lia) (by lia) (by rw[bI,<-hl];exact h1) (by simpa using ew) ⟨rfl,fin⟩) hs
theorem ix_str:IxR X rIxS:=by
 intro value slice pins s σ H x y v u Q I rx ry h hs
 obtain⟨z,i,c,rfl,rfl,hz,he,q⟩:=h
 obtain⟨t,rfl⟩:=rx
 obtain⟨t',rfl⟩:=ry
 obtain⟨j,h1,h2,h3,h4,h5⟩:=sE he
 have hl:z.cps.toList.length=z.length:=by simp[Str.length]
 rw[hl]at h1 h4 h5
 have hn:=kW
 exact tail_any (typeIs_str s z t) slot_str_getitem.lookup (getItem_str (c:=c) (by
  have e1:decide (i < -(2^63:Int))=false:=decide_eq_false (by lia)
  have e2:decide (i≥2^63)=false:=decide_eq_false (by lia)
  rw[e1,e2,wY]) (by rw[h1];simpa using h2) ⟨.str ⟨#[c]⟩,H,I.tok _,⟨_,rfl⟩,q⟩) hs
theorem Gc(lo hi:Option Int)(n:Nat):(sliceBounds lo hi none n).1=((HT.sIx n 0 lo:Nat):Int)/\(sliceBounds lo hi none n).2.1=((HT.sIx n n hi:Nat):Int)/\(sliceBounds lo hi none n).2.2=1:=by
 refine⟨?_,?_,rfl⟩
 ·cases lo with
  |none=>simp[sliceBounds,HT.sIx]
  |some i=>
   simp only[sliceBounds,HT.sIx,Nl,show(1:Int)>0 by decide,if_true]
   by_cases h:i<0
   ·simp only[h,if_true]<;>lia
   ·simp only[h,if_false]<;>lia
 ·cases hi with
  |none=>simp[sliceBounds,HT.sIx]
  |some i=>
   simp only[sliceBounds,HT.sIx,Nl,show(1:Int)>0 by decide,if_true]
   by_cases h:i<0
   ·simp only[h,if_true]<;>lia
   ·simp only[h,if_false]<;>lia
theorem Gd(its:List Value)(lo hi:Option Int):slicePick its.toArray lo hi none=((its.drop (HT.sIx its.length 0 lo)).take (HT.sIx its.length its.length hi-HT.sIx its.length 0 lo)).toArray:=by
 obtain⟨h1,h2,h3⟩:=Gc lo hi its.toArray.size
 unfold slicePick
 rw[h1,h2,h3]
 simp only[sliceRange_one,pick_run,bI]<;>rfl
noncomputable def rSlL(K:PySem.W.Frag):V->Option Int->Option Int->Hp->VK->Prop:=λx lo hi H Q=>∃a xs,x=.ref a/\SqL K H a xs/\∀p,H p=none->Q (.ref p) (upd H p (.lst (iZ xs lo hi)))
theorem Ge:SlR X (rSlL X.K):=by
 intro pins s σ H x v vl vu lo hi sl Q I rx hs pl pu h
 obtain⟨a,xs,rfl,hx,q⟩:=h
 cases rx
 obtain⟨its,r,ht,hz⟩:=I.list hx
 have hlen:=r.length
 refine⟨"list", _,slot_list_getitem.lookup,ht.isList.typeIs,?_⟩
 refine wpAny_getItem_list_slice ht.isList hs pl pu .none (by simp) ?_ (by rw[bI]<;>lia)
 rw[Gd,<-hlen]
 refine⟨.ref s.heap.objs.size,_,I.laid (t':=s.toks) (o:=.lst (iZ xs lo hi)) (λb ob q=>Heap.get?_push_of_some _ q) (aK _) ?_,rfl,q _ (I.hok.fresh (aK _))⟩
 exact⟨cG (yF xs lo hi) hz,_,0,(r.drop (HT.sIx xs.length 0 lo)).take (HT.sIx xs.length xs.length hi-HT.sIx xs.length 0 lo),Heap.get?_push_size _ rfl⟩
theorem yH:cM X (.builtin "len") (λxs H Q=>∃p ys,xs=[.ref p]/\(SqL X.K H p ys\/SqT X.K H p ys)/\Q (.int ys.length) H):=by
 intro pins s σ H xs us Q I r h
 obtain⟨p,ys,rfl,hq,q⟩:=h
 obtain⟨u,rfl,rx⟩:=fL r
 cases rx
 have hn:=kW
 rcases hq with hq|hq
 ·obtain⟨its,r',pl,hz⟩:=I.list hq
  have hlen:=r'.length
  exact Calls.call_len_list pl.isList (by simp only[bI]<;>lia) ⟨.int ys.length,H,I.tok _,⟨s.toks+1,by rw[bI,hlen]⟩,q⟩
 ·obtain⟨its,r',pl,hz⟩:=I.tuple hq
  have hlen:=r'.length
  exact len_tuple pl (by simp only[bI]<;>lia) ⟨.int ys.length,H,I.tok _,⟨s.toks+1,by rw[bI,hlen]⟩,q⟩
theorem Gf:cM X (.builtin "len") (λxs H Q=>∃z,xs=[.str z]/\z.length<=sizeLine/\Q (.int z.length) H):=by
 intro pins s σ H xs us Q I r h
 obtain⟨z,rfl,hz,q⟩:=h
 obtain⟨u,rfl,t,rfl⟩:=fL r
 have hn:=kW
 exact len_str (by lia) ⟨.int z.length,H,I.tok _,⟨_,rfl⟩,q⟩
theorem yI:cM X (.type "list") (λxs H Q=>∃p ys,xs=[.ref p]/\(SqL X.K H p ys\/SqT X.K H p ys)/\∀l,H l=none->Q (.ref l) (upd H l (.lst ys))):=by
 intro pins s σ H xs us Q I r h
 obtain⟨p,ys,rfl,hq,q⟩:=h
 obtain⟨u,rfl,rx⟩:=fL r
 cases rx
 have fin:∀(its:List Value),Vals ys its->ys.length<=sizeLine->∀(h':Heap)(c':Nat),(∀b o',s.heap.get? b=some o'->h'.get? b=some o') ->
  h'.get? s.heap.objs.size=some {cls:=.type "list", dict:=none,data:=.seq its.toArray c',slots:=#[] }->EP X pins σ Q (.ref s.heap.objs.size) {s with heap:=h' }:=λits r' hz h' c' kp e=>
  ⟨.ref s.heap.objs.size,_,I.laid (t':=s.toks) kp (aK _) (show ObjOk X.prog X.w _ h' _ (.lst ys)from⟨hz,its,c',r',e⟩),rfl,q _ (I.hok.fresh (aK _))⟩
 rcases hq with hq|hq
 ·obtain⟨its,r',pl,hz⟩:=I.list hq
  have hlen:=r'.length
  obtain⟨o,ho,hc,n,hd⟩:=pl.isList
  exact call_list_seq p (.inl rfl) ho hc hd (λh' c' kp e=>fin its r' hz h' c' kp e) (by simp only[bI]<;>lia)
 ·obtain⟨its,r',pl,hz⟩:=I.tuple hq
  have hlen:=r'.length
  obtain⟨o,ho,hc,n,hd⟩:=pl
  exact call_list_seq p (.inr rfl) ho hc hd (λh' c' kp e=>fin its r' hz h' c' kp e) (by simp only[bI]<;>lia)
theorem yJ:cM X (.type "tuple") (λxs H Q=>∃p ys,xs=[.ref p]/\((SqL X.K H p ys/\∀l,H l=none->Q (.ref l) (upd H l (.tup ys)))\/(SqT X.K H p ys/\Q (.ref p) H))):=by
 intro pins s σ H xs us Q I r h
 obtain⟨p,ys,rfl,h⟩:=h
 obtain⟨u,rfl,rx⟩:=fL r
 cases rx
 rcases h with⟨hq,q⟩|⟨hq,q⟩
 ·obtain⟨its,r',pl,hz⟩:=I.list hq
  have hlen:=r'.length
  refine call_tuple_list pl.isList (λh' kp=>?_) (by simp only[bI]<;>lia)
  have I1:Inv X pins σ H {s with heap:=h' }:=I.kept (t':=s.toks) kp
  have I2:Inv X pins σ (upd H h'.objs.size (.tup ys)) {s with heap:=h'.push {cls:=.type "tuple", data:=.seq its.toArray} }:=
   I1.laid (t':=s.toks) (λb o e=>Heap.get?_push_of_some _ e) (aK _) (show ObjOk X.prog X.w _ _ _ (.tup ys)from⟨hz,its,r',IsTup.new _ _⟩)
  exact⟨.ref h'.objs.size,_,I2,rfl,q _ (I1.hok.fresh (aK _))⟩
 ·obtain⟨its,r',pl,hz⟩:=I.tuple hq
  exact call_tuple_same pl ⟨.ref p,H,I,rfl,q⟩
noncomputable def tyV(K:PySem.W.Frag)(T:String)(x:V)(H:Hp):Prop:=match x with
 |.str _=>T = "str"
 |.int _=>T = "int"
 |.ref p=>(T = "list" /\ ∃xs,SqL K H p xs)\/(T = "tuple" /\ ∃o,K.lookup p=some o/\o.cls=.type "tuple" /\ o.dict=none) \/
  (T = "dict" /\ ((∃kvs,H p=some (.dK kvs))\/∃kvs,H p=some (.dT kvs)))\/(T = "set" /\ ∃S n,H p=some (.set S n))
 |_=>False
theorem yK{pins:List (Addr×Obj)}{σ:St}{H:Hp}{s:Shared}{T:String}{x:V}{v:Value}(I:Inv X pins σ H s)(r:RelV x v)(ty:tyV X.K T x H) :
 s.TypeIs v T/\∀a,v=.ref a->∃ob,s.heap.get? a=some ob/\ob.dict=none:=by
 cases x with
 |str z=>
  obtain⟨t,rfl⟩:=r
  cases (show T = "str" from ty)
  exact⟨typeIs_str s z t,λ_ e=>nomatch e⟩
 |int i=>
  obtain⟨t,rfl⟩:=r
  cases (show T = "int" from ty)
  exact⟨typeIs_int s i t,λ_ e=>nomatch e⟩
 |ref p=>
  cases r
  rcases ty with⟨rfl,xs,hq⟩|⟨rfl,o,hk,hc,hd⟩|⟨rfl,hk⟩|⟨rfl,S,n,hk⟩
  ·obtain⟨its,_,pl,_⟩:=I.list hq
   refine⟨pl.isList.typeIs,λa e=>?_⟩
   cases e
   obtain⟨o,n,e,c,hd,_⟩:=pl
   exact⟨o,e,hd⟩
  ·refine⟨⟨o,I.kIn p o hk,hc⟩,λa e=>?_⟩
   cases e
   exact⟨o,I.kIn _ o hk,hd⟩
  ·have z:∃o,s.heap.get? p=some o/\o.ExactDict:=by
    rcases hk with⟨kvs,hk⟩|⟨kvs,hk⟩
    ·obtain⟨_,_,_,_,o,_,_,e,ex,_⟩:=I.hok p _ hk
     exact⟨o,e,ex⟩
    ·obtain⟨_,_,_,_,o,_,_,e,ex,_⟩:=I.hok p _ hk
     exact⟨o,e,ex⟩
   obtain⟨o,e,ex⟩:=z
   refine⟨⟨o,e,ex.1⟩,λa e2=>?_⟩
   cases e2
   exact⟨o,e,ex.2.1⟩
  ·obtain⟨o,_,_,_,e,ex,_⟩:=I.hok p _ hk
   refine⟨⟨o,e,ex.1⟩,λa e2=>?_⟩
   cases e2
   exact⟨o,e,ex.2.1⟩
 |_=>exact False.elim ty
noncomputable def tBM0(K:PySem.W.Frag)(T:String)(r:V->List V->Hp->VK->Prop)(to:TE):TE:=λσ H Q=>to σ H λx H1=>tyV K T x H1/\r x [] H1 Q
noncomputable def tBM(K:PySem.W.Frag)(T:String)(r:V->List V->Hp->VK->Prop)(to:TE)(t:TA):TE:=λσ H Q=>to σ H λx H1=>tyV K T x H1/\t σ H1 λxs H2=>r x xs H2 Q
variable{o e:Expr}{es:List Expr}{to:TE}{t:TA}{name:Str}{apos cpos:Pos}{T id:String}{r:V->List V->Hp->VK->Prop}
theorem pe_bm0 (pa:PlainAttrs T) (slot:Slot T name id) (hty:typeOf (.builtin id)=pure (.type "method_descriptor")) (hm:MtR X id r) (ho:PE X o to)
 (hbase:attributeBase o name X.env (eval o X.env)=eval o X.env:=by rfl) (hline:(apos.endLine==cpos.line)=true:=by rfl):PE X (.Call (.Attribute o name apos) [] [] cpos) (tBM0 X.K T r to):=by
 intro pins s σ H Q I h
 refine wpAny_Call_method0_late hbase hline (thn (ho pins s σ H _ I h) λv s1 ⟨x,H1,I1,r1,ty,q1⟩=>?_)
 obtain⟨h1,h2⟩:=yK I1 r1 ty
 exact⟨T,id,pa,slot,hty,h1,h2,Calls.callWith_builtin rfl (PySem.evalArgs_none (hm pins s1 σ H1 x [] v [] Q I1 r1 .nil q1))⟩
theorem yL (pa:PlainAttrs T) (slot:Slot T name id) (hty:typeOf (.builtin id)=pure (.type "method_descriptor")) (hm:MtR X id r) (ho:PE X o to) (ha:PA X (e::es) t)
 (hbase:attributeBase o name X.env (eval o X.env)=eval o X.env:=by rfl)
 (hfew:((backTo cpos (starEach (e::es) X.env)).all (λx=>!x.1)&&(backToKw cpos (keywordEach [] X.env)).all (λx=>x.1.isSome)
  && decide ((e::es).length+([]:List Keyword).length+(if([]:List Keyword).isEmpty then 0 else 1)<30))=true:=by rfl)
 (hline:(apos.endLine==cpos.line)=true:=by rfl) (hs:starEach (e::es) X.env=(false,eval e X.env)::starEach es X.env:=by rfl) (hplain:(backTo cpos (starEach es X.env)).any (·.1)=false:=by rfl) :
 PE X (.Call (.Attribute o name apos) (e::es) [] cpos) (tBM X.K T r to t):=by
 intro pins s σ H Q I h
 refine wpAny_Call_method_late hbase hfew hline rfl (thn (ho pins s σ H _ I h) λv s1 ⟨x,H1,I1,r1,ty,q1⟩=>?_)
 obtain⟨h1,h2⟩:=yK I1 r1 ty
 refine⟨T,id,pa,slot,hty,h1,h2,?_⟩
 have hA:=ha cpos pins s1 σ H1 _ I1 q1
 rw[hs]at hA⊢
 refine Calls.callWith_builtin (by show(false||(backTo cpos (starEach es X.env)).any (·.1))=false;rw[hplain]<;>rfl) (Calls.evalArgs_plain ?_)
 exact thn hA λus s2 ⟨vs,H2,I2,r2,q2⟩=>hm pins s2 σ H2 x vs v us Q I2 r1 r2 q2
end
end L2
namespace L2
open PySem PySem.Spec PyProof.Rows
variable{xs:List V}{us:List Value}
noncomputable def MtM(X:Cx)(id:String)(r:V->List V->Hp->VK->Prop):Prop:=
 ∀(pins:List (Addr×Obj))(s:Shared)(σ:St)(H:Hp)(x:V)(xs:List V)(v:Value)(us:List Value)(Q:VK),Inv X pins σ H s->RelV x v->Vals xs us->r x xs H Q ->
  wpAny (model X.prog X.w) X.A (call (.builtin id) (v::us)) (EP X pins σ Q) X.xe s
theorem Vals.one:∀{x:V} {us:List Value},Vals [x] us->∃u,us=[u]/\RelV x u
 |_,_,.cons r .nil=>⟨_,rfl,r⟩
theorem Vals.zero:∀{us:List Value},Vals [] us->us=[]
 |_,.nil=>rfl
theorem Vals.reverse(h:Vals xs us):Vals xs.reverse us.reverse:=by
 induction h with
 |nil=>exact .nil
 |cons r t ih=>rw[wZ,wZ];exact Vals.append ih (.cons r .nil)
theorem Vals.rep(h:Vals xs us):∀k:Nat,Vals (aQ k xs).flatten (aQ k us).flatten
 |0=>.nil
 |k+1=>by
  rw[kO,kO,oK,oK]
  exact Vals.append h (Vals.rep h k)
theorem yM(its:List Value):∀(k:Nat)(acc:List Value),
 List.foldl (λx1 x2=>x1++x2) acc.toArray (aQ k its.toArray)=(acc++(aQ k its).flatten).toArray
 |0,acc=>by simp
 |k+1,acc=>by
  have e:acc.toArray++its.toArray=(acc++its).toArray:=by simp
  have e2:(acc++its)++(aQ k its).flatten=acc++(aQ (k+1) its).flatten:=by
   rw[kO,oK,xA]
  rw[<-e2,<-yM its k (acc++its),<-e,kO,List.foldl_cons]
section
variable{X:Cx}{pins:List (Addr×Obj)}{σ:St}{H:Hp}{s:Shared}{l b:Addr}{xs ys zs:List V}
theorem Inv.lset{its its':List Value}{n:Nat}{f:Array Value->Array Value}{t':Nat}(I:Inv X pins σ H s)(hH:H l=some (.lst xs))
 (e:s.heap.get? l=some {cls:=.type "list", data:=.seq its.toArray n}) (hf:f its.toArray=its'.toArray) (hv:Vals ys its') (hz:ys.length<=sizeLine) :
 Inv X pins σ (upd H l (.lst ys)) {s with heap:=s.heap.update l (Obj.mapSeq f),toks:=t' }:=by
 have q:=PySem.IsL.update e f
 rw[hf]at q
 refine I.write (x:=l) (e:=l) (by rw[hH];exact trivial) (.inl rfl) (λb' u hb hu=>(Heap.get?_update_other s.heap (Obj.mapSeq f) (Ne.symm hb)).trans hu) ⟨_,q⟩ ?_
 exact⟨hz,its',_,hv,q⟩
theorem Inv.lnew{its:List Value}{t':Nat}(I:Inv X pins σ H s)(hv:Vals ys its)(hz:ys.length<=sizeLine) :
 Inv X pins σ (upd H s.heap.objs.size (.lst ys)) {s with heap:=s.heap.push {cls:=.type "list", data:=.seq its.toArray},toks:=t' }:=
 I.laid (λ_ _ q=>Heap.get?_push_of_some _ q) (aK _) ⟨hz,its,0,hv,Heap.get?_push_size _ rfl⟩
theorem Inv.fresh(I:Inv X pins σ H s):H s.heap.objs.size=none:=I.hok.fresh (aK _)
theorem Inv.lstM (I:Inv X pins σ H s) (hH:H l=some (.lst xs)):xs.length<=sizeLine/\∃(its:List Value) (n:Nat),Vals xs its/\xs.length=its.length/\s.heap.get? l=some {cls:=.type "list", data:=.seq its.toArray n}:=by
 obtain⟨z,its,n,r,e⟩:=I.hok l _ hH
 exact⟨z,its,n,r,r.length,e⟩
theorem Gg{n:Nat}(h:n<=sizeLine):Builtin.List.listTooLong n=false:=by
 unfold Builtin.List.listTooLong
 exact decide_eq_false (by lia)
end
section
variable{X:Cx}
noncomputable def Gh:V->List V->Hp->VK->Prop:=λx vs H Q=>∃l xs y,x=.ref l/\vs=[y]/\H l=some (.lst xs)/\xs.length<sizeLine/\Q .non (upd H l (.lst (xs++[y])))
theorem yN:MtM X "list.append" Gh:=by
 intro pins s σ H x vs v us Q I rx rv h
 obtain⟨l,xs,y,rfl,rfl,hH,hz,q⟩:=h
 cases rx
 obtain⟨u,rfl,ru⟩:=rv.one
 obtain⟨z,its,n,r,hl,e⟩:=I.lstM hH
 refine call_meets F.slot_list_append ⟨_,e,rfl⟩ F.entry_list_append (F.args_list_append_2 _ _) (PySem.list_append l its.toArray n u (by rw[bI];lia)) ⟨e,?_⟩
 refine⟨.non,_,I.lset (its':=its++[u]) hH e (by simp) (r.append (.cons ru .nil)) ?_,rfl,q⟩
 rw[bB,gO]
 lia
noncomputable def Gi:V->List V->Hp->VK->Prop:=λx vs H Q=>∃l b xs zs,x=.ref l/\vs=[.ref b]/\H l=some (.lst xs)/\H b=some (.lst zs)/\xs.length+zs.length<=sizeLine/\Q .non (upd H l (.lst (xs++zs)))
theorem Gj:MtM X "list.extend" Gi:=by
 intro pins s σ H x vs v us Q I rx rv h
 obtain⟨l,b,xs,zs,rfl,rfl,hH,hB,hz,q⟩:=h
 cases rx
 obtain⟨u,rfl,ru⟩:=rv.one
 cases ru
 obtain⟨z,its,n,r,hl,e⟩:=I.lstM hH
 obtain⟨z2,its2,n2,r2,hl2,e2⟩:=I.lstM hB
 have hsz:its.toArray.size+its2.toArray.size<=sizeLine:=by rw[bI,bI];lia
 have hlong:¬(!its.toArray.isEmpty&&Builtin.List.listTooLong (its.toArray.size+its2.toArray.size))=true:=by
  rw[Gg hsz,FB]
  exact aJ
 refine call_meets F.slot_list_extend ⟨_,e,rfl⟩ F.entry_list_extend (F.args_list_extend_2 _ _)
  (AutoSeq1.list_extend_list_list_0 l its.toArray n b its2.toArray n2 hlong (by rw[bI];lia) (by lia)) ⟨e,e2,?_⟩
 refine⟨.non,_,I.lset (its':=its++its2) hH e (by simp) (r.append r2) ?_,rfl,q⟩
 rw[bB]
 lia
noncomputable def Gk:V->List V->Hp->VK->Prop:=λx vs H Q=>∃l xs,x=.ref l/\vs=[]/\H l=some (.lst xs)/\Q .non (upd H l (.lst xs.reverse))
theorem Gm:MtM X "list.reverse" Gk:=by
 intro pins s σ H x vs v us Q I rx rv h
 obtain⟨l,xs,rfl,rfl,hH,q⟩:=h
 cases rx
 have hus:=rv.zero
 subst hus
 obtain⟨z,its,n,r,hl,e⟩:=I.lstM hH
 refine call_meets F.slot_list_reverse ⟨_,e,rfl⟩ F.entry_list_reverse (F.args_list_reverse_1 _) (AutoSeq1.list_reverse_list_0 l its.toArray n (by rw[bI];lia)) ⟨e,?_⟩
 refine⟨.non,_,I.lset (its':=its.reverse) hH e (by simp) r.reverse ?_,rfl,q⟩
 rw[List.length_reverse]
 lia
theorem Gn{α:Type}(xs:List α)(k:Nat):(aQ k xs).flatten.length=k*xs.length:=by
 induction k with
 |zero=>simp
 |succ k ih=>rw[kO,oK,bB,ih,Nat.succ_mul,Nat.add_comm]
end
end L2
namespace Att
open PySem PySem.W PySem.Calls PyProof.Rows
theorem Gp{P:Params}{h:Heap}:∀(ns:List Int)(vs:List Value),WellAll P h vs (ns.map WData.int)->IntsAre vs ns:=by
 intro ns
 induction ns with
 |nil=>
  intro vs w
  rw[iT]at w
  cases w
  exact .nil
 |cons n ns ih=>
  intro vs w
  rw[aL]at w
  cases w with
  |cons a b=>
   cases a
   exact .cons _ _ (ih _ b)
theorem Gq{l:OpenLaw}{n:Nat}(hn:l.most=some n){P:Params}{h:Heap}{args:List WData}{vals:List Value}
 (hpre:l.row.toRowW.claim.pre args=true) (hwl:WellAll P h vals args) :
 ∃a vs ns,vals=[Value.ref a]/\args=[WData.list (ns.map WData.int)]/\h.get? a=some {cls:=.type "list", data:=.seq vs.toArray}/\IntsAre vs ns/\ns.length<=n:=by
 have hsh:WShape.hasAll [] args [.list .int]=true:=(pre_splitW hpre).1
 have hc:l.pre.holds [] {args:=args}=true:=(pre_splitW hpre).2
 obtain⟨d,r,rfl,h1,h2⟩:=hasAllW_cons hsh
 obtain rfl:=hasAllW_nil h2
 obtain⟨xs,rfl,h3⟩:=hasW_list h1
 obtain⟨ns,rfl⟩:=items_int h3
 have hlen:ns.length<=n:=by
  unfold OpenLaw.pre at hc
  have h4:(WTm.not (.lt (.lit (.int (n:Int))) (.len (.arg 0)))).holds [] {args:=[.list (ns.map .int)] }=true:=by
   have h4:=(holds_andW hc).1
   rw[hn]at h4
   exact h4
  have h5:=condW_of h4 (w_not (w_lt w_lit (w_len_list (w_arg rfl))))
  rw[aI]at h5
  refine Nm λq=>?_
  have q':(n:Int)<((ns.length:Nat):Int):=by lia
  first
   |(rw[decide_eq_true q']at h5;exact absurd h5 (by decide))
   |(simp at h5;lia)
 cases hwl with
 |cons w1 w2=>
  cases w2
  cases w1 with
  |list ho hall=>exact⟨_,_,ns,rfl,rfl,ho,Gp ns _ hall,hlen⟩
theorem Gr(l:OpenLaw)(args:List WData):l.row.toRowW.claim.post args (.bool true) args=true:=
 postW_of (r:=l.row.toRowW) (X:=(true==true))
  (show WShape.has [] (.bool true) .bool=true by first|rfl|decide|simp[WShape.has,WShape.arms,WShape.armsAll])
  (show(WTm.eq .res (.lit (.bool true))).value [] {args:=args,res:=some (.bool true),after:=args}=some (.bool (true==true))from w_eq_bool (w_res rfl) w_lit) rfl
theorem attach_call{l:OpenLaw}{n:Nat}{q:Program}{loose:List Str}{XP:(Str->Option Value)->Heap->Prop}{YP:World->Heap->Prop}{d:DefRec}
 (hn:l.most=some n) (hdf:d.params.defaults=[])
 (call:∀(w:World)(sh sv:Shared)(mg mb:Str->Option Value)(fa:Addr)(o:Obj)(pm cd doc:Value)(a:Addr)(vs:List Value)(ns:List Int),
  Ground q loose [] XP w sh mg mb sv.heap->YP w sv.heap ->
  sv.heap.get? fa=some o->o.data=.func (docDef d.name d.params d.body d.scope pm cd doc)->sv.heap.CodeRec cd d.name->mg d.name=some (.ref fa) ->
  sv.heap.get? a=some {cls:=.type "list", data:=.seq vs.toArray}->IntsAre vs ns->ns.length<=n->sv.gens=#[] ->
  codeAny (model l.prog w) callerA (.call (.ref fa) ⟨[.ref a],[]⟩) (λr s'=>r=.ok (.ret (.bool true))/\OldK sv.heap s'.heap/\s'.os=sv.os/\AllBare s'.gens) sv) :
 WalkO q loose XP YP l.row.toRowW d [] (λf vs=>PySem.call f vs):=by
 intro w sh sv mg mb G Y fa o pm cd doc dV kV ho hd hcd hD hmg hg args vals as hpre hlay hrd hwl hlo
 obtain rfl:dV=.none:=Dflts.none hD hdf
 obtain rfl:kV=.none:=Dflts.noKw hD
 obtain⟨a,vs,ns,rfl,rfl,hobj,hints,hlen⟩:=Gq hn hpre hwl
 refine enter_call (codeAny_mono (call w sh sv mg mb fa o pm cd doc a vs ns G Y ho (fd_plain hd) hcd hmg hobj hints hlen hg) λr s' hq=>?_)
 obtain⟨rfl,h2,h3,h4⟩:=hq
 exact⟨.inl ⟨.bool true,.bool true,[],rfl,λ_=>rfl,.bool true,Gr l _,λ_=>⟨FC.nil,λ_ hm=>(nomatch hm)⟩⟩,h2,h3,h4⟩
end Att
namespace L2
open PySem PySem.Spec PyProof.Rows
theorem vals_ints:∀{vs:List Value} {ns:List Int},IntsAre vs ns->Vals (ns.map V.int) vs
 |_,_,.nil=>.nil
 |_,_,.cons n t h=>.cons ⟨t,rfl⟩ (vals_ints h)
noncomputable def Only(H:Hp):Prop:=∀b,H b=none\/∃o xs,H b=some (.frz o (.lst xs))
theorem Gs{P:Program}{w:World}{K:PySem.W.Frag}{mg mb:Str->Option Value}{CX:CXT}{k:Nat}{fa a:Addr}{fd:FuncData}{x:Str}{sp:Sp}{sv:Shared}{vs:List Value}{ns:List Int}
 (KX:K.In sv.heap) (hns:sv.heap.Ns mainGlobals mg) (hb:sv.heap.Ns builtinsNs mb) (hbb:∀x:Str,x ≠ "__name__" -> mb x=bootBuiltins x) (hlim:sv.heap.NoLimit) (hg:sv.gens=#[])
 (ha:sv.heap.get? a=some {cls:=.type "list", data:=.seq vs.toArray}) (hi:IntsAre vs ns) (hl:ns.length<=sizeLine) (hr:Room k callerA)
 (F:∀base:Heap,K.In base->base.Ns mainGlobals mg->FnOk P w K mg base CX k fa fd [x] sp) (hbind:∀(s:Shared)(u:Value),BindsTo s fd ⟨[u],[]⟩ [(x,u)])
 (hsp:∀H:Hp,Only H->SqL K H a (ns.map V.int)->sp [.ref a] H (λv _=>v=.bl true) λ_ _ _=>False)
 (hCX:∀H e s',CX [] H sv (λ_ _ _=>False) e s'->False) :
 codeAny (model P w) callerA (.call (.ref fa) ⟨[.ref a],[]⟩) (λr s'=>r=.ok (.ret (.bool true))/\OldK sv.heap s'.heap/\s'.os=sv.os/\AllBare s'.gens) sv:=by
 have rv:=vals_ints hi
 have lenV:=hi.length
 have core:∀H:Hp,Only H->SqL K H a (ns.map V.int)->HOk P w H sv.heap->(∀b,H b≠none->b=a)->(H a≠none->K.lookup a=none) ->
  codeAny (model P w) callerA (.call (.ref fa) ⟨[.ref a],[]⟩) (λr s'=>r=.ok (.ret (.bool true))/\OldK sv.heap s'.heap/\s'.os=sv.os/\AllBare s'.gens) sv:=by
  intro H hO hS hok hA hK
  have base_of:∀{b:Addr} {o:Obj},sv.heap.get? b=some o->H b=none->(iF sv.heap H).get? b=some o:=λe n=>F9 e n
  have noA:∀{b:Addr} {o:Obj} {es:Array DictEntry} {ep:Nat},sv.heap.get? b=some o->o.data=.dict es ep->H b=none:=λ{b o es ep} e d=>by
   cases q:H b with
   |none=>rfl
   |some u=>
    have e':b=a:=hA b (by rw[q];simp)
    subst e'
    rw[ha]at e;cases e
    have d':Data.seq vs.toArray _=Data.dict es ep:=d
    cases d'
  have nsK:∀{b:Addr} {m:Str->Option Value},sv.heap.Ns b m->(iF sv.heap H).Ns b m:=λ{b m} ⟨o,es,ep,e,d,r⟩=>⟨o,es,ep,base_of e (noA e d),d,r⟩
  have hKb:K.In (iF sv.heap H):=λb o e=>base_of (KX b o e) (by
   cases q:H b with
   |none=>rfl
   |some u=>
    have e':b=a:=hA b (by rw[q];simp)
    subst e'
    rw[hK (by rw[q];simp)]at e;cases e)
  have hM:Mod K mg (iF sv.heap H):=⟨hKb,nsK hns,⟨mb,nsK hb,hbb⟩,let ⟨mc,h1,h2⟩:=hlim;⟨mc,nsK h1,h2⟩⟩
  have e0:Env0 P w K mg (iF sv.heap H) callerA [] sv H:=⟨rfl,hM,λb o e=>F_ e,Ew (F4 _ _),trivial,λb hb=>absurd (show b∈([]:List Addr)from hb) (by simp),hok,.of_eq hg⟩
  refine codeAny_mono ((F _ hKb (nsK hns)).run callerA [] sv H ⟨[.ref a],[]⟩ [.ref a] [.ref a] _ _ hr e0 (hbind sv (.ref a)) (.cons rfl .nil) (hsp H hO hS)) λr s' h=>?_
  cases r with
  |error e=>exact(hCX H e s' h).elim
  |ok fl=>
   cases fl with
   |next=>exact False.elim h
   |brk=>exact False.elim h
   |cont=>exact False.elim h
   |ret u=>
    obtain⟨v,H',os,bare,un,hok',r',q⟩:=h
    have q':v=.bl true:=q
    subst q'
    obtain rfl:u=Value.bool true:=r'
    refine⟨rfl,OldK.of_keep λb o e=>?_,os,bare⟩
    cases q:H b with
    |none=>exact un.keep b o e q (by intro z;exact absurd (show b∈([]:List Addr)from z) (by simp)) (by simp)
    |some u=>
     rcases hO b with z|⟨ob,xs,z⟩
     ·rw[q]at z;cases z
     ·have z2:=un.frzs b ob _ z
      obtain⟨e1,_⟩:=hok b _ z
      obtain⟨e2,_⟩:=hok' b _ z2
      rw[e]at e1;cases e1
      exact e2
 cases hk:K.lookup a with
 |some o=>
  have e:=KX a o hk
  rw[ha]at e
  cases e
  refine core (λ_=>none) (λ_=>.inl rfl) (.inr ⟨_,vs.toArray,_,hk,rfl,rfl,rfl,by rw[bI,lenV];exact hl,by simpa using rv⟩) (λb u z=>by have z':(none:Option HO)=some u:=z;cases z') (λb z=>absurd rfl z) λz=>absurd rfl z
 |none=>
  refine core (λb=>if b=a then some (.frz {cls:=.type "list", data:=.seq vs.toArray} (.lst (ns.map V.int)))else none) (λb=>?_) (.inl (.inr ⟨{cls:=.type "list", data:=.seq vs.toArray},if_pos rfl⟩)) (λb u z=>?_) (λb z=>?_) λ_=>hk
  ·by_cases hb:b=a
   ·exact .inr ⟨_,_,if_pos hb⟩
   ·exact .inl (if_neg hb)
  ·by_cases hb:b=a
   ·have z':=(if_pos hb).symm.trans z
    cases z'
    subst hb
    exact⟨ha,by rw[aI];exact hl,vs,_,rv,ha⟩
   ·have z':=(if_neg hb).symm.trans z
    cases z'
  ·by_cases hb:b=a
   ·exact hb
   ·exact absurd (if_neg hb) z
theorem Gu{l:PySem.W.OpenLaw}{n k:Nat}{q:Program}{loose:List Str}{XP:(Str->Option Value)->Heap->Prop}{YP:World->Heap->Prop}{d:DefRec}{K:Params->PySem.W.Frag}{CX:World->CXT}{sp:World->Sp}{x:Str}
 (hn:l.most=some n) (hn2:n<=sizeLine) (hdf:d.params.defaults=[]) (hr:Room k callerA)
 (hY:∀(w:World)(h:Heap),YP w h->(K w.params).In h)
 (F:∀(w:World)(mg:Str->Option Value)(fa:Addr)(h:Heap),(K w.params).In h->h.Ns mainGlobals mg->mg d.name=some (.ref fa) ->
  ∃fd:FuncData,(∀(s:Shared)(u:Value),BindsTo s fd ⟨[u],[]⟩ [(x,u)]) /\
   ∀base:Heap,(K w.params).In base->base.Ns mainGlobals mg->FnOk l.prog w (K w.params) mg base (CX w) k fa fd [x] (sp w))
 (hsp:∀(w:World)(H:Hp)(a:Addr)(ns:List Int),ns.length<=n->Only H->SqL (K w.params) H a (ns.map V.int)->sp w [.ref a] H (λv _=>v=.bl true) λ_ _ _=>False)
 (hCX:∀(w:World)(H:Hp)(s:Shared)(e:Value)(s':Shared),CX w [] H s (λ_ _ _=>False) e s'->False) :
 PySem.W.WalkO q loose XP YP l.row.toRowW d [] (λf vs=>PySem.call f vs):=by
 refine Att.attach_call hn hdf λw sh sv mg mb fa o pm cd doc a vs ns G Y ho hd hcd hmg hobj hints hlen hg=>?_
 have KX:=hY w _ Y
 obtain⟨fd,hb,hF⟩:=F w mg fa _ KX G.T.g hmg
 exact Gs KX G.T.g G.T.b G.T.builtins G.T.nolimit hg hobj hints (cG hlen hn2) hr hF hb (λH hO hS=>hsp w H a ns hlen hO hS) λH e s'=>hCX w H sv e s'
variable{H:Hp}
noncomputable def fN(s:Stmt):Arguments:=match s with
 |.FunctionDef _ a _ _ _ _ _ _ _ _=>a
 |_=>{posonlyargs:=[],args:=[],vararg:=none,kwonlyargs:=[],kw_defaults:=[],kwarg:=none,defaults:=[] }
noncomputable def cN(s:Stmt):List Stmt:=match s with
 |.FunctionDef _ _ b _ _ _ _ _ _ _=>b
 |_=>[]
noncomputable def bC(s:Stmt):Scope:=match s with
 |.FunctionDef _ _ _ _ _ _ sc _ _ _=>sc
 |_=>{kind:=.function,names:=[],isGenerator:=false,isCoroutine:=false}
noncomputable abbrev E0:XK:=λ_ _ _=>False
set_option genInjectivity false in
structure Fun(K:PySem.W.Frag)(x qual:Str)(st:Stmt)(f:Addr)(fd:FuncData):Prop where
 ex:∃(oc:Value)(od:Option Addr)(kV doc pm:Value)(an:Option Addr)(cdv ct:Value)(osl:Array (Option Value)),
  fd=PySem.W.fnOf x qual (fN st) (cN st) (bC st) .none kV doc pm an cdv ct/\K.lookup f=some ⟨oc,od,.func fd,osl⟩/\PySem.W.codeIn K cdv qual=true
 kp:PySem.W.keepIn K (.ref f)=true
section
variable{P:Program}{w:World}{K:PySem.W.Frag}{mg:Str->Option Value}{base:Heap}
theorem Fun.binds{x qual:Str}{st:Stmt}{f:Addr}{fd:FuncData}{ps:List Str}(F:Fun K x qual st f fd)
 (h:∀(kV doc pm:Value)(an:Option Addr)(cdv ct:Value)(us:List Value),us.length=ps.length->bindArgs (PySem.W.fnOf x qual (fN st) (cN st) (bC st) .none kV doc pm an cdv ct) ⟨us,[]⟩=pure (ps.zip us)):Binds K fd ps []:=by
 obtain⟨oc,od,kV,doc,pm,an,cdv,ct,osl,rfl,lk,hcd⟩:=F.ex
 exact .all (h kV doc pm an cdv ct)
theorem jA{x qual:Str}{st:Stmt}{f:Addr}{oc:Value}{od an:Option Addr}{osl:Array (Option Value)}{kV doc pm cdv ct:Value}(l:K.lookup f=some ⟨oc,od,.func (PySem.W.fnOf x qual (fN st) (cN st) (bC st) .none kV doc pm an cdv ct),osl⟩)
 (c:PySem.W.codeIn K cdv qual=true) (k:PySem.W.keepIn K (.ref f)=true):Fun K x qual st f (PySem.W.fnOf x qual (fN st) (cN st) (bC st) .none kV doc pm an cdv ct):=⟨⟨oc,od,kV,doc,pm,an,cdv,ct,osl,rfl,l,c⟩,k⟩
end
theorem Gv{n:Nat}(h:n<=1000):n<sizeLine:=FD h (by decide)
noncomputable def Same(H H':Hp):Prop:=∀b o,H b=some o->H' b=some o
theorem Same.refl(H:Hp):Same H H:=λ_ _ h=>h
theorem Same.trans{H1 H2:Hp}(a:Same H H1)(b:Same H1 H2):Same H H2:=λc o h=>b c o (a c o h)
theorem Same.free{H':Hp}(e:Same H H'){l:Addr}(h:H' l=Option.none):H l=Option.none:=by
 cases q:H l with
 |none=>rfl
 |some o=>
  rw[e l o q]at h
  cases h
end L2
set_option maxRecDepth 100000
namespace L2
open PySem PySem.Spec PyProof.Rows
variable{a b:Addr}{X:Cx}{h':Heap}{H H':Hp}{pins:List (Addr×Obj)}{xs:List (List Key×Addr×Value)}{kvs:List (List Key×V)}{o:Option V}{pos:Pos}{P:Program}{s:Shared}{σ:St}{v y:V}{u:Value}{Q:Value->Shared->Prop}{w:World}
section
variable{κ:Type}[DecidableEq κ]
noncomputable def dW(kvs:List (κ×V))(k:κ):Option V:=(kvs.find? λkv=>decide (kv.1=k)).map (·.2)
noncomputable def eD(kvs:List (κ×V))(k:κ)(v:V):List (κ×V):=
 if(kvs.any λkv=>decide (kv.1=k))=true then kvs.map (λkv=>if kv.1=k then(kv.1,v)else kv)else kvs++[(k,v)]
theorem mP{p:κ×V}{r:List (κ×V)}{k:κ}(e:p.1=k):dW (p::r) k=some p.2:=by simp[dW,cY,e]
theorem mQ{p:κ×V}{r:List (κ×V)}{k:κ}(e:¬p.1=k):dW (p::r) k=dW r k:=by simp[dW,cY,e]
theorem yO(k:κ):∀kvs:List (κ×V),(kvs.any λkv=>decide (kv.1=k))=(dW kvs k).isSome
 |[]=>rfl
 |p::r=>by
  rw[iC]
  by_cases e:p.1=k
  ·simp only[mP e,decide_eq_true e,lW,FE]
  ·rw[mQ e,decide_eq_false e,lX];exact yO k r
theorem yP(kvs:List (κ×V))(k:κ)(v:V):(eD kvs k v).length<=kvs.length+1:=by
 unfold eD
 split
 ·rw[aI];lia
 ·rw[bB,aN,oM];lia
theorem RelO.isSome_eq{u:Option Value}(r:RelO o u):o.isSome=u.isSome:=by
 cases o with
 |none=>cases u with
  |none=>rfl
  |some _=>exact(show False from r).elim
 |some _=>cases u with
  |none=>exact(show False from r).elim
  |some _=>rfl
theorem RelO.getD{u:Option Value}{d:V}{d':Value}(r:RelO o u)(rd:RelV d d'):RelV (o.getD d) (u.getD d'):=by
 cases o with
 |none=>cases u with
  |none=>exact rd
  |some _=>exact(show False from r).elim
 |some _=>cases u with
  |none=>exact(show False from r).elim
  |some _=>exact r
theorem KV.val{kvs:List (κ×V)}{vs:List (κ×Value)}(r:KV kvs vs)(k:κ):RelO (dW kvs k) (valueAt vs k):=by
 unfold KV at r
 induction r with
 |nil=>exact True.intro
 | @cons p q ps qs h t ih=>
  obtain⟨h1,h2⟩:=h
  by_cases e:p.1=k
  ·have e':q.1=k:=h1.symm.trans e
   have b:valueAt (q::qs) k=some q.2:=by simp[valueAt,cY,e']
   rw[mP e,b];exact h2
  ·have e':¬q.1=k:=λz=>e (h1.trans z)
   have b:valueAt (q::qs) k=valueAt qs k:=by simp[valueAt,cY,e']
   rw[mQ e,b];exact ih
theorem KV.any{kvs:List (κ×V)}{vs:List (κ×Value)}(r:KV kvs vs)(k:κ):(kvs.any λkv=>decide (kv.1=k))=vs.any λkv=>decide (kv.1=k):=by
 unfold KV at r
 induction r with
 |nil=>rfl
 |cons h t ih=>rw[iC,iC,ih,h.1]
theorem KV.repl{kvs:List (κ×V)}{vs:List (κ×Value)}(r:KV kvs vs)(k:κ)(ry:RelV y u) :
 KV (kvs.map λkv=>if kv.1=k then(kv.1,y)else kv) (vs.map λkv=>if kv.1=k then(kv.1,u)else kv):=by
 unfold KV at r⊢
 induction r with
 |nil=>exact .nil
 | @cons p q ps qs h t ih=>
  rw[aL,aL]
  refine .cons ?_ ih
  obtain⟨h1,h2⟩:=h
  by_cases e:p.1=k
  ·rw[if_pos e,if_pos (h1.symm.trans e)];exact⟨h1,ry⟩
  ·rw[if_neg e,if_neg (λz=>e (h1.trans z))];exact⟨h1,h2⟩
theorem KV.put{kvs:List (κ×V)}{vs:List (κ×Value)}(r:KV kvs vs)(k:κ)(ry:RelV y u):KV (eD kvs k y) (stored vs k u):=by
 unfold eD stored
 rw[r.any k]
 by_cases e:(vs.any λkv=>decide (kv.1=k))=true
 ·rw[if_pos e,if_pos e];exact r.repl k ry
 ·rw[if_neg e,if_neg e];exact Paired.snoc r ⟨rfl,ry⟩
theorem KV.keys{kvs:List (κ×V)}{vs:List (κ×Value)}(r:KV kvs vs):kvs.map (·.1)=vs.map (·.1):=by
 unfold KV at r
 induction r with
 |nil=>rfl
 |cons h t ih=>rw[aL,aL,ih,h.1]
theorem KV.length{kvs:List (κ×V)}{vs:List (κ×Value)}(r:KV kvs vs):kvs.length=vs.length:=Paired.length r
end
theorem kY{k:Key}(r:RelV (kV k) u):(dF P w).is k u=true:=by
 cases k with
 |inl i=>obtain⟨t,e⟩:=(show ∃t,u=Value.int i t from r);subst e;exact FY P w i t
 |inr x=>obtain⟨t,e⟩:=(show ∃t,u=Value.str x t from r);subst e;exact FZ P w x t
theorem yQ:∀{ks:List Key} {us:List Value},Vals (ks.map kV) us->ItemsAre (dF P w) ks us
 |[],_,r=>by rw[iT]at r;cases r;exact .nil
 |k::ks,_,r=>by
  rw[aL]at r
  cases r with
  |cons h t=>exact .cons (kY h) (yQ t)
noncomputable abbrev KT(H:Hp):List (List Key×V)->List (List Key×Addr×Value)->Prop:=Paired λp q=>p.1=q.1/\H q.2.1=some (.tup (p.1.map kV))/\RelV p.2 q.2.2
theorem KT.val(r:KT H kvs xs)(k:List Key):RelO (dW kvs k) ((atKey xs k).map (·.2)):=by
 induction r with
 |nil=>exact True.intro
 | @cons p q ps qs h t ih=>
  obtain⟨h1,_,h2⟩:=h
  by_cases e:p.1=k
  ·have e':q.1=k:=h1.symm.trans e
   have b:atKey (q::qs) k=some q.2:=by simp[atKey,cY,e']
   rw[mP e,b];exact h2
  ·have e':¬q.1=k:=λz=>e (h1.trans z)
   have b:atKey (q::qs) k=atKey qs k:=by simp[atKey,cY,e']
   rw[mQ e,b];exact ih
theorem KT.repl(r:KT H kvs xs)(k:List Key)(ry:RelV y u) :
 KT H (kvs.map λkv=>if kv.1=k then(kv.1,y)else kv) (xs.map (putAt k u)):=by
 induction r with
 |nil=>exact .nil
 | @cons p q ps qs h t ih=>
  rw[aL,aL]
  refine .cons ?_ ih
  obtain⟨h1,h2,h3⟩:=h
  unfold putAt
  by_cases e:p.1=k
  ·rw[if_pos e,if_pos (h1.symm.trans e)];exact⟨h1,h2,ry⟩
  ·rw[if_neg e,if_neg (λz=>e (h1.trans z))];exact⟨h1,h2,h3⟩
theorem KT.put(r:KT H kvs xs)(k:List Key)(hb:H b=some (.tup (k.map kV)))(ry:RelV y u) :
 KT H (eD kvs k y) (storedH xs k b u):=by
 have e:(kvs.any λkv=>decide (kv.1=k))=(atKey xs k).isSome:=by
  rw[yO,(r.val k).isSome_eq,FF]
 unfold eD storedH
 rw[e]
 by_cases q:(atKey xs k).isSome=true
 ·rw[if_pos q,if_pos q];exact r.repl k ry
 ·rw[if_neg q,if_neg q];exact Paired.snoc r ⟨rfl,hb,ry⟩
theorem KT.keeps(r:KT H kvs xs)(ht:∀b ys,H b=some (.tup ys)->H' b=some (.tup ys)):KT H' kvs xs:=
 Paired.mapP r λ_ _ z=>⟨z.1,ht _ _ z.2.1,z.2.2⟩
section
variable{P:Program}{w:World}{H:Hp}{h:Heap}{a:Addr}
theorem oY{u:HO}(ok:HOk P w H h)(e:Rd H a u):ObjOk P w H h a u:=e.ok ok
theorem jB{kvs:List (Key×V)}(ok:HOk P w H h)(e:Rd H a (.dK kvs)):kvs.length<=sizeLine/\(a==sysModules)=false/\∃vs,KV kvs vs/\h.DictOf (dF P w) a vs:=
 show ObjOk P w H h a (.dK kvs)from oY ok e
theorem dk_of{kvs:List (Key×V)}(ok:HOk P w H h)(e:H a=some (.dK kvs)):kvs.length<=sizeLine/\(a==sysModules)=false/\∃vs,KV kvs vs/\h.DictOf (dF P w) a vs:=jB ok (.inl e)
theorem jW{ks:List Key}(ok:HOk P w H h)(e:H a=some (.tup (ks.map kV))):(tupleKind (dF P w)).is h ks a:=by
 obtain⟨_,its,r,o,h1,h2,n,h3⟩:=(show ObjOk P w H h a (.tup (ks.map kV))from ok a _ e)
 exact⟨o,its.toArray,n,h1,h2,h3,by simpa using yQ r⟩
theorem jX(ok:HOk P w H h)(e:Rd H a (.dT kvs)):kvs.length<=sizeLine/\(a==sysModules)=false /\
 ∃xs,KT H kvs xs/\h.DictOfH (tupleKind (dF P w)) a xs:=by
 obtain⟨z,y,xs,r,o,es,ep,h1,h2,h3,h4,h5⟩:=(show ObjOk P w H h a (.dT kvs)from oY ok e)
 refine⟨z,y,xs,r,o,es,ep,h1,h2,h3,h4,λx hx=>?_,h5⟩
 have all:∀{l:List (List Key×V)} {m:List (List Key×Addr×Value)},KT H l m->∀x∈m,(tupleKind (dF P w)).is h x.1 x.2.1:=by
  intro l m q
  induction q with
  |nil=>intro x hx;exact nomatch hx
  | @cons p q ps qs hq t ih=>
   intro x hx
   rcases bU.mp hx with e|hx
   ·subst e
    exact jW ok (by rw[<-hq.1];exact hq.2.1)
   ·exact ih x hx
 exact all r x hx
theorem yR(ok:HOk P w H h)(e:H a=some (.dT kvs)):kvs.length<=sizeLine/\(a==sysModules)=false /\
 ∃xs,KT H kvs xs/\h.DictOfH (tupleKind (dF P w)) a xs:=jX ok (.inl e)
end
noncomputable def iG(H:Hp)(a:Addr)(y:V)(r:Option V):Prop:=
 (∃kvs k,Rd H a (.dK kvs)/\y=kV k/\r=dW kvs k)\/∃kvs k b,Rd H a (.dT kvs)/\y=.ref b/\H b=some (.tup (k.map kV))/\r=dW kvs k
noncomputable def DPut(H:Hp)(a:Addr)(y v:V)(H':Hp):Prop:=
 (∃kvs k,H a=some (.dK kvs)/\y=kV k/\kvs.length<sizeLine/\H'=upd H a (.dK (eD kvs k v))) \/
 ∃kvs k b,H a=some (.dT kvs)/\y=.ref b/\H b=some (.tup (k.map kV))/\kvs.length<sizeLine/\H'=upd H a (.dT (eD kvs k v))
theorem DPut.k{kvs:List (Key×V)}{k:Key}(e:H a=some (.dK kvs))(hl:kvs.length<sizeLine):DPut H a (kV k) v (upd H a (.dK (eD kvs k v))):=.inl ⟨kvs,k,e,rfl,hl,rfl⟩
theorem DPut.t{k:List Key}(e:H a=some (.dT kvs))(eb:H b=some (.tup (k.map kV)))(hl:kvs.length<sizeLine) :
 DPut H a (.ref b) v (upd H a (.dT (eD kvs k v))):=.inr ⟨kvs,k,b,e,rfl,eb,hl,rfl⟩
section
variable{X:Cx}{pins:List (Addr×Obj)}{σ:St}{H:Hp}{s:Shared}{a:Addr}{y v:V}{u r:Value}{o:Option V}{A:Around}{E:Value->Shared->Prop}
theorem Inv.big(I:Inv X pins σ H s):sysModules<s.heap.objs.size:=by
 have h:mainGlobals<s.heap.objs.size:=(I.mod.glob.keeps I.bk).lt
 exact rK (by decide) h
theorem Gw(hu:A.units+1<cLine)(I:Inv X pins σ H s)(g:iG H a y (some v))(ry:RelV y u)(h:∀w' s',Inv X pins σ H s'->RelV v w'->Q w' s') :
 wpAny (model X.prog X.w) A (getItem (.ref a) u) Q E s:=by
 rcases g with⟨kvs,k,e,ey,l⟩|⟨kvs,k,b,e,ey,eb,l⟩
 ·subst ey
  obtain⟨z,hd,vs,rel,dd⟩:=jB I.hok e
  obtain⟨w',hw,rw'⟩:=RelO.some_of (v:=v) (o:=valueAt vs k) (by rw[l];exact rel.val k)
  exact wpAny_getItem_of (kY ry) dd.mapOf hw (h w' _ (I.tok _) rw')
 ·subst ey
  cases (show u=Value.ref b from ry)
  obtain⟨z,hd,xs,rel,dd⟩:=jX I.hok e
  obtain⟨w',hw,rw'⟩:=RelO.some_of (v:=v) (o:=(atKey xs k).map (·.2)) (by rw[l];exact rel.val k)
  obtain⟨p,hp,hp2⟩:=FG.mp hw
  refine wpAny_getItem_heap (tupleKind_room_in1 hu) (jW I.hok eb) dd hp ?_
  rw[hp2]
  exact h w' _ (I.tok _) rw'
theorem d_in(hu:A.units+1<cLine)(I:Inv X pins σ H s)(g:iG H a y o)(ry:RelV y u)(h:∀s',Inv X pins σ H s'->Q (.bool o.isSome) s') :
 wpAny (model X.prog X.w) A (compareOp .In u (.ref a)) Q E s:=by
 rcases g with⟨kvs,k,e,ey,l⟩|⟨kvs,k,b,e,ey,eb,l⟩
 ·subst ey
  obtain⟨z,hd,vs,rel,dd⟩:=jB I.hok e
  refine wpAny_in_of (kY ry) hd dd.mapOf ?_
  rw[<-(rel.val k).isSome_eq,<-l]
  exact h _ (I.tok _)
 ·subst ey
  cases (show u=Value.ref b from ry)
  obtain⟨z,hd,xs,rel,dd⟩:=jX I.hok e
  refine wpAny_in_heap (tupleKind_room_in1 hu) (jW I.hok eb) hd dd ?_
  have q:=(rel.val k).isSome_eq
  rw[FF]at q
  rw[<-q,<-l]
  exact h _ (I.tok _)
theorem yS(hu:A.units+1<cLine)(I:Inv X pins σ H s)(g:iG H a y o)(ry:RelV y u)(h:∀s',Inv X pins σ H s'->Q (.bool (!o.isSome)) s') :
 wpAny (model X.prog X.w) A (compareOp .NotIn u (.ref a)) Q E s:=by
 rcases g with⟨kvs,k,e,ey,l⟩|⟨kvs,k,b,e,ey,eb,l⟩
 ·subst ey
  obtain⟨z,hd,vs,rel,dd⟩:=jB I.hok e
  refine wpAny_notIn_of (kY ry) hd dd.mapOf ?_
  rw[<-(rel.val k).isSome_eq,<-l]
  exact h _ (I.tok _)
 ·subst ey
  cases (show u=Value.ref b from ry)
  obtain⟨z,hd,xs,rel,dd⟩:=jX I.hok e
  refine wpAny_notIn_heap (tupleKind_room_in1 hu) (jW I.hok eb) hd dd ?_
  have q:=(rel.val k).isSome_eq
  rw[FF]at q
  rw[<-q,<-l]
  exact h _ (I.tok _)
theorem sF{t':Nat}{ob:HO}(I:Inv X pins σ H s)(mu:Mut (H a))(hs:Heap.SameBut a s.heap h')(he:∃q,h'.get? a=some q)(new:ObjOk X.prog X.w (upd H a ob) h' a ob) :
 Inv X pins σ (upd H a ob) {s with heap:=h',toks:=t' }:=
 I.write (x:=a) (e:=a) mu (.inl rfl) (λb q hb z=>(hs.2 b hb).trans z) he new
theorem dk_new{kvs:List (Key×V)}{vs:List (Key×Value)}(z:kvs.length<=sizeLine)(hd:(a==sysModules)=false)(rel:KV kvs vs)(dd:h'.DictOf (dF P w) a vs) :
 ObjOk P w H' h' a (.dK kvs):=⟨z,hd,vs,rel,dd⟩
theorem Gx{Q:Unit->Shared->Prop}(hu:A.units+1<cLine)(I:Inv X pins σ H s)(g:DPut H a y v H')(ry:RelV y u)(rv:RelV v r)(h:∀s',Inv X pins σ H' s'->Q () s') :
 wpAny (model X.prog X.w) A (setItem (.ref a) u r) Q E s:=by
 rcases g with⟨kvs,k,e,ey,l,eH⟩|⟨kvs,k,b,e,ey,eb,l,eH⟩
 ·subst ey eH
  obtain⟨z,hd,vs,rel,dd⟩:=dk_of I.hok e
  have hz:vs.length<=sizeLine:=by rw[<-rel.length];exact z
  have hl:(eD kvs k v).length<=sizeLine:=by have:=yP kvs k v;lia
  refine wpAny_setItem_pairs (hsz:=hz) (kY ry) dd λh' dd' hs=>h _ ?_
  have he:∃q,h'.get? a=some q:=let ⟨q,_,_,hq,_⟩:=dd';⟨q,hq⟩
  exact sF I (by rw[e];exact True.intro) hs he (dk_new hl hd (rel.put k rv) dd')
 ·subst ey eH
  cases (show u=Value.ref b from ry)
  obtain⟨z,hd,xs,rel,dd⟩:=yR I.hok e
  have hz:xs.length<=sizeLine:=by rw[<-Paired.length rel];exact z
  have hl:(eD kvs k v).length<=sizeLine:=by have:=yP kvs k v;lia
  refine wpAny_setItem_heap (hsz:=hz) (tupleKind_room_in1 hu) (jW I.hok eb) dd λh' dd' hs=>h _ ?_
  obtain⟨q,es,ep,hq,h2,h3,h4,_,h5⟩:=dd'
  refine sF I (by rw[e];exact True.intro) hs ⟨q,hq⟩ ⟨hl,hd,_,(rel.put k eb rv).keeps λc ys ec=>?_,q,es,ep,hq,h2,h3,h4,h5⟩
  rw[aG (fK ec e (λz=>nomatch z))]
  exact ec
end
section
variable{X:Cx}{pins:List (Addr×Obj)}{σ:St}{H:Hp}{s:Shared}{a:Addr}{kvs:List (Key×V)}{k:Key}{u:Value}{A:Around}{E:Value->Shared->Prop}
theorem d_len (I:Inv X pins σ H s) (e:Rd H a (.dK kvs)) (h:∀t s',Inv X pins σ H s'->Q (.int kvs.length t) s'):wpAny (model X.prog X.w) A (call (.builtin "len") [.ref a]) Q E s:=by
 obtain⟨z,hd,vs,rel,dd⟩:=jB I.hok e
 refine call_len_dict hd dd (by rw[<-rel.length];rw[sizeLine_eq]at z;lia) ?_
 rw[<-rel.length]
 exact h _ _ (I.tok _)
end
noncomputable def NoSl(i:Expr):Prop:=∀ov iv,subscripted i false ov iv=operate [ov,iv] (getItem ov iv)
theorem Gy{prog:Program}{w:World}{A:Around}{E:Value->Shared->Prop}{s:Shared}{env:Env}{value slice:Expr}{pos:Pos}{T id:String}{Q:Value->Shared->Prop}
 (hl:typeLookup (.type T) "__getitem__" = pure (some (.builtin id))) (hs:NoSl slice)
 (h:wpAny (model prog w) A (eval value env) (λo sv=>wpAny (model prog w) A (eval slice env) (λi sy=>sy.TypeIs o T/\wpAny (model prog w) A (getItem o i) Q E sy) E sv) E s) :
 wpAny (model prog w) A (eval (.Subscript value slice pos) env) Q E s:=by
 refine Subscript_ (wpAny_mono h (λo sv h_h=>wpAny_mono h_h (λi sy hhh=>?_) λ_ _ x=>x) λ_ _ x=>x)
 obtain⟨hT,hhh⟩:=hhh
 unfold subscriptTail
 refine wpAny_bind ?_
 rw[getitemInPython_of_ne hT.not_modules]
 refine wpAny_bind (wpAny_specialOf hT hl ?_)
 have fin:wpAny (model prog w) A (subscripted slice false o i) (λr su=>wpAny (model prog w) A (letTemporaryGo value o r>>=λ_=>pure r) Q E su) E sy:=by
  rw[hs o i]
  exact wpAny_operating (wpAny_mono hhh (λr su hxx=>wpAny_bind (wpAny_letTemporaryGo (wpAny_pure hxx))) λ_ _ x=>x)
 first
  |exact wpAny_pure (wpAny_bind fin)
  |exact wpAny_bind (wpAny_pure (wpAny_bind fin))
  |exact wpAny_bind fin
theorem Gz (I:Inv X pins σ H s) (g:iG H a y o):s.TypeIs (.ref a) "dict" := by
 rcases g with⟨kvs,k,e,_,_⟩|⟨kvs,k,b,e,_,_,_⟩
 ·obtain⟨_,_,vs,_,dd⟩:=jB I.hok e
  exact dd.typeIs
 ·obtain⟨_,_,xs,_,dd⟩:=jX I.hok e
  exact dd.typeIs
noncomputable def sDPut(td ty tv:TE):TS:=λD σ H=>tv σ H λv H1=>td σ H1 λx H2=>ty σ H2 λy H3=>∃a H4,x=.ref a/\DPut H3 a y v H4/\D.nx σ H4
section
variable{X:Cx}{o i e value:Expr}{pos pos' tpos:Pos}{td ty tv:TE}
theorem yT(hu:X.A.units+1<cLine)(ho:PE X o td)(hi:PE X i ty)(hv:PE X value tv)(hs:swapsWith value (some (.Subscript o i pos')) pos.line X.env=pure false) :
 PS X (.Assign [.Subscript o i pos'] value pos) (sDPut td ty tv):=by
 intro pins s σ H D I h
 refine wpAny_Assign_Subscript (thn (hv pins s σ H _ I h) λr s1 ⟨v,H1,I1,rv,q1⟩=>thn (ho pins s1 σ H1 _ I1 q1) λu s2 ⟨x,H2,I2,rx,q2⟩=>thn (hi pins s2 σ H2 _ I2 q2) λiv s3 ⟨y,H3,I3,ry,a,H4,ex,g,q3⟩=>?_) hs
 subst ex
 obtain rfl:u=Value.ref a:=rx
 exact Gx hu I3 g ry rv λs4 I4=>⟨σ,H4,I4,q3⟩
end
theorem HA (h:Heap) (hb:sysModules<h.objs.size):ObjOk P w H (h.push {cls:=.type "dict", data:=.dict #[] }) h.objs.size (.dK []):=
 ⟨fU _,beq_eq_false_iff_ne.mpr (Ne.symm (cE hb)),[],.nil,Heap.DictOf.new h⟩
theorem yU (h:Heap) (hb:sysModules<h.objs.size):ObjOk P w H (h.push {cls:=.type "dict", data:=.dict #[] }) h.objs.size (.dT []):=
 ⟨fU _,beq_eq_false_iff_ne.mpr (Ne.symm (cE hb)),[],.nil,_,#[],0,Heap.get?_push_size _ rfl,⟨rfl,rfl,rfl⟩,rfl,rfl,FH⟩
noncomputable def tDNewK:TE:=λ_ H Q=>∀p,H p=none->Q (.ref p) (upd H p (.dK []))
noncomputable def tDNewT:TE:=λ_ H Q=>∀p,H p=none->Q (.ref p) (upd H p (.dT []))
section
variable{X:Cx}{pos:Pos}
theorem HB:PE X (.Dict [] [] pos) tDNewK:=λpins s σ H Q I h=>
 wpAny_Dict_empty ⟨.ref s.heap.objs.size,_,I.laid (a:=s.heap.objs.size) (o:=.dK []) (t':=s.toks) (λ_ _ q=>Heap.get?_push_of_some _ q) (aK _) (HA s.heap I.big),rfl,h _ (I.hok.fresh (aK _))⟩
theorem yV:PE X (.Dict [] [] pos) tDNewT:=λpins s σ H Q I h=>
 wpAny_Dict_empty ⟨.ref s.heap.objs.size,_,I.laid (a:=s.heap.objs.size) (o:=.dT []) (t':=s.toks) (λ_ _ q=>Heap.get?_push_of_some _ q) (aK _) (yU s.heap I.big),rfl,h _ (I.hok.fresh (aK _))⟩
end
noncomputable def yW:List (TE×TE)->St->Hp->(List (V×V)->Hp->Prop)->Prop
 |[],_,H,Q=>Q [] H
 |(tk,tv)::r,σ,H,Q=>tk σ H λx H1=>tv σ H1 λy H2=>yW r σ H2 λps H3=>Q ((x,y)::ps) H3
noncomputable abbrev VV:List (V×V)->List (Value×Value)->Prop:=Paired λp q=>RelV p.1 q.1/\RelV p.2 q.2
noncomputable def PPs(X:Cx)(pos:Pos)(keys:List (Option Expr))(values:List Expr)(trs:List (TE×TE)):Prop:=
 ∀(pins:List (Addr×Obj))(s:Shared)(σ:St)(H:Hp)(Q:List (V×V)->Hp->Prop),Inv X pins σ H s->yW trs σ H Q ->
  wpAny (model X.prog X.w) X.A (evalPairs (pairTrees keys values X.env pos)) (λvs s'=>∃ps H',Inv X pins σ H' s'/\VV ps vs/\Q ps H') X.xe s
theorem HC:PPs X pos [] [] []:=λpins s σ H Q I h=>pairTrees_nil_walk ⟨[],H,I,.nil,h⟩
theorem HD{k v:Expr}{ks:List (Option Expr)}{vs:List Expr}{tk tv:TE}{trs:List (TE×TE)}(hk:PE X k tk)(hv:PE X v tv)(hr:PPs X pos ks vs trs) :
 PPs X pos (some k::ks) (v::vs) ((tk,tv)::trs):=λpins s σ H Q I h=>
 pairTrees_cons_walk (thn (hk pins s σ H _ I h) λu s1 ⟨x,H1,I1,rx,q1⟩=>thn (hv pins s1 σ H1 _ I1 q1) λw2 s2 ⟨y,H2,I2,ry,q2⟩=>
  thn (hr pins s2 σ H2 _ I2 q2) λws s3 ⟨ps,H3,I3,rel,q3⟩=>⟨(x,y)::ps,H3,I3,.cons ⟨rx,ry⟩ rel,q3⟩)
structure M1(X:Cx)(o:Expr)(m:Str)(apos:Pos)(e:Expr)(cpos:Pos):Prop where
 base:attributeBase o m X.env (eval o X.env)=eval o X.env
 few:((backTo cpos (starEach [e] X.env)).all (λx=>!x.1)&&(backToKw cpos (keywordEach [] X.env)).all (λx=>x.1.isSome)
  && decide (([e]:List Expr).length+([]:List Keyword).length+(if([]:List Keyword).isEmpty then 0 else 1)<30))=true
 line:(apos.endLine==cpos.line)=true
 trees:backTo cpos (starEach [e] X.env)=[(false,eval e X.env)]
noncomputable def IsD(H:Hp)(a:Addr):Prop:=(∃kvs,Rd H a (.dK kvs))\/∃kvs,Rd H a (.dT kvs)
theorem isD_at(I:Inv X pins σ H s)(d:IsD H a) :
 s.TypeIs (.ref a) "dict" /\ (∀b,Value.ref a=.ref b->∃ob,s.heap.get? b=some ob/\ob.dict=none)/\(a==sysModules)=false:=by
 rcases d with⟨kvs,e⟩|⟨kvs,e⟩
 ·obtain⟨_,hd,vs,_,dd⟩:=jB I.hok e
  refine⟨dd.typeIs,λb q=>?_,hd⟩
  cases q
  obtain⟨ob,_,_,h1,h2,_⟩:=dd
  exact⟨ob,h1,h2.2.1⟩
 ·obtain⟨_,hd,xs,_,dd⟩:=jX I.hok e
  refine⟨dd.typeIs,λb q=>?_,hd⟩
  cases q
  obtain⟨ob,_,_,h1,h2,_⟩:=dd
  exact⟨ob,h1,h2.2.1⟩
section
variable{X:Cx}{pins:List (Addr×Obj)}{σ:St}{H:Hp}{s:Shared}{a:Addr}{y d:V}{u r:Value}{o:Option V}{A:Around}{E:Value->Shared->Prop}
theorem d_get1(hu:A.units+1<cLine)(I:Inv X pins σ H s)(g:iG H a y o)(ry:RelV y u)(h:∀w' s',Inv X pins σ H s'->RelV (o.getD .non) w'->Q w' s') :
 wpAny (model X.prog X.w) A (call (.builtin "dict.get") [.ref a,u]) Q E s:=by
 rcases g with⟨kvs,k,e,ey,l⟩|⟨kvs,k,b,e,ey,eb,l⟩
 ·subst ey
  obtain⟨z,hd,vs,rel,dd⟩:=jB I.hok e
  refine call_meetsIn PySem.F.slot_dict_get dd.typeIs PySem.F.entry_dict_get (PySem.F.args_dict_get_2 _ _) (meets_dict_get (dF X.prog X.w) a (kY ry) hd) ⟨_,dd.mapOf,h _ _ (I.tok _) ?_⟩
  rw[l]
  exact(rel.val k).getD rfl
 ·subst ey
  cases (show u=Value.ref b from ry)
  obtain⟨z,hd,xs,rel,dd⟩:=jX I.hok e
  refine call_meetsIn PySem.F.slot_dict_get dd.typeIs PySem.F.entry_dict_get (PySem.F.args_dict_get_2 _ _) (meetsH_dict_get (tupleKind (dF X.prog X.w)) a b hd) ⟨tupleKind_room_in1 hu,k,xs,jW I.hok eb,dd,h _ _ (I.tok _) ?_⟩
  rw[l]
  exact(rel.val k).getD rfl
end
noncomputable def tDGet1(td ty:TE):TE:=λσ H Q=>td σ H λx H1=>∃a,x=.ref a/\IsD H1 a/\ty σ H1 λy H2=>∃o,iG H2 a y o/\Q (o.getD .non) H2
section
variable{X:Cx}{o e f:Expr}{apos cpos:Pos}{td ty tx:TE}
theorem HE (hu:X.A.units+1<cLine) (ho:PE X o td) (he:PE X e ty) (m:M1 X o "get" apos e cpos):PE X (.Call (.Attribute o "get" apos) [e] [] cpos) (tDGet1 td ty):=by
 intro pins s σ H Q I h
 refine wpAny_Call_method m.base m.few m.line PySem.F.plainAttrs_dict PySem.F.slot_dict_get PySem.F.type_dict_get (thn (ho pins s σ H _ I h) λu s1 ⟨x,H1,I1,rx,a,ex,d,q1⟩=>?_)
 subst ex
 obtain rfl:u=Value.ref a:=rx
 obtain⟨t1,t2,_⟩:=isD_at I1 d
 refine⟨t1,t2,?_⟩
 rw[m.trees]
 refine Calls.callWith_builtin rfl (Calls.evalArgs_plain (Calls.spliced_cons (thn (he pins s1 σ H1 _ I1 q1) λiv s2 ⟨y,H2,I2,ry,ov,g,q2⟩=>Calls.spliced_nil ?_)))
 exact d_get1 hu I2 g ry λw' s3 I3 rw'=>⟨_,H2,I3,rw',q2⟩
end
end L2
namespace Tr
open PySem
set_option genSizeOf true in
set_option genSizeOfSpec true in
inductive D where
 |non|bl (b:Bool)|int (i:Int)|str (x:Str)|tup (ds:List D)|lst (ds:List D)|dct (kvs:List (Sum Int Str×D))|tdc (kvs:List (List (Sum Int Str)×D))|cnt (n:Int) (cl:List (Int×Int))
 deriving Inhabited
inductive Res(α:Type) where
 |ok (a:α)|err (c:Str) (d:D)|no
 deriving Inhabited
namespace Res
@[reducible] noncomputable def bind{α β:Type}(x:Res α)(f:α->Res β):Res β:=match x with | .ok a=>f a | .err c d=>.err c d | .no=>.no
noncomputable instance:Monad Res where
 pure:=.ok
 bind:=bind
@[simp] theorem ok_bind{α β:Type}(a:α)(f:α->Res β):(Res.ok a>>=f)=f a:=id rfl
theorem bind_ok{α β:Type}{x:Res α}{f:α->Res β}{b:β}(h:(x>>=f)=.ok b):∃a,x=.ok a/\f a=.ok b:=by
 cases x with
 |ok a=>exact⟨a,rfl,h⟩
 |err c d=>cases h
 |no=>cases h
end Res
noncomputable def aE{α:Type}(c:Bool)(r:Res α):Res α:=if c then r else .no
theorem aS{α:Type}{c:Bool}{r:Res α}{a:α}(h:aE c r=.ok a):c=true/\r=.ok a:=by
 unfold aE at h
 split at h
 ·exact⟨by assumption,h⟩
 ·cases h
theorem bV{α:Type}{c:Bool}(h:c=true)(r:Res α):aE c r=r:=by subst h;rfl
noncomputable def b2z(b:Bool):Int:=if b then 1 else 0
mutual
noncomputable def D.eqb:D->D->Bool
 |.non,.non=>true
 |.bl a,.bl b=>a==b
 |.bl a,.int j=>b2z a==j
 |.int i,.bl b=>i==b2z b
 |.int i,.int j=>i==j
 |.str x,.str y=>x==y
 |.tup a,.tup b=>D.eqs a b
 |.lst a,.lst b=>D.eqs a b
 |_,_=>false
noncomputable def D.eqs:List D->List D->Bool
 |[],[]=>true
 |a::r,b::q=>D.eqb a b&&D.eqs r q
 |_,_=>false
end
mutual
noncomputable def D.pl:Nat->D->Bool
 |_,.dct _=>false
 |_,.tdc _=>false
 |_,.cnt _ _=>false
 |n,.tup a=>D.pls n a
 |n,.lst a=>D.pls n a
 |_,_=>true
noncomputable def D.pls:Nat->List D->Bool
 |_,[]=>true
 |0,_::_=>false
 |n+1,a::r=>D.pl n a&&D.pls (n+1) r
end
mutual
noncomputable def D.flat:D->Bool
 |.dct _=>false
 |.tdc _=>false
 |.cnt _ _=>false
 |.lst _=>false
 |.tup a=>D.flats a
 |_=>true
noncomputable def D.flats:List D->Bool
 |[]=>true
 |a::r=>D.flat a&&D.flats r
end
theorem oZ{a b:List D}:D.eqb (.tup a) (.tup b)=D.eqs a b:=rfl
theorem pA{a b:List D}:D.eqb (.lst a) (.lst b)=D.eqs a b:=rfl
theorem sG{a b:D}{r q:List D}:D.eqs (a::r) (b::q)=(D.eqb a b&&D.eqs r q):=rfl
theorem sH{n:Nat}{a:D}{r:List D}:D.pls (n+1) (a::r)=(D.pl n a&&D.pls (n+1) r):=rfl
mutual
theorem D.eqb_refl:∀(n:Nat)(d:D),D.pl n d=true->D.eqb d d=true
 |_,.non,_=>rfl
 |_,.bl a,_=>by show(a==a)=true;simp
 |_,.int i,_=>by show(i==i)=true;simp
 |_,.str x,_=>by show(x==x)=true;simp
 |n,.tup a,h=>by rw[oZ];exact D.eqs_refl n a h
 |n,.lst a,h=>by rw[pA];exact D.eqs_refl n a h
 |_,.dct a,h=>by cases h
 |_,.tdc a,h=>by cases h
theorem D.eqs_refl:∀(n:Nat)(a:List D),D.pls n a=true->D.eqs a a=true
 |_,[],_=>rfl
 |0,a::r,h=>by cases h
 |n+1,a::r,h=>by
  rw[sH,aD]at h
  rw[sG,D.eqb_refl n a h.1,D.eqs_refl (n+1) r h.2];rfl
end
noncomputable def big:Nat:=16777216
noncomputable def sIx(n d:Nat):Option Int->Nat
 |none=>d
 |some v=>if v<0 then(v+(n:Int)).toNat else min v.toNat n
noncomputable def cut{α:Type}(xs:List α)(lo hi:Option Int):List α:=(xs.drop (sIx xs.length 0 lo)).take (sIx xs.length xs.length hi-sIx xs.length 0 lo)
noncomputable def ixN(n:Nat)(i:Int):Option Nat:=if 0<=i then(if i<n then some i.toNat else none)else if -(n:Int)<=i then some (i+n).toNat else none
noncomputable def atI{α:Type}(xs:List α)(i:Int):Option α:=(ixN xs.length i).bind λj=>xs[j]?
noncomputable def iH(i:Int):Bool:=decide (-(2^64)<i)&&decide (i<2^64)
noncomputable def D.bin:Operator->D->D->Res D
 |.Add,.int i,.int j=>.ok (.int (i+j))
 |.Add,.str x,.str y=>aE (decide (x.length+y.length<=big)) (.ok (.str (x++y)))
 |.Add,.lst a,.lst b=>aE (decide (a.length+b.length<=big)) (.ok (.lst (a++b)))
 |.Add,.tup a,.tup b=>aE (decide (a.length+b.length<=big)) (.ok (.tup (a++b)))
 |.Sub,.int i,.int j=>.ok (.int (i-j))
 |.Mult,.int i,.int j=>aE (iH i||iH j) (.ok (.int (i*j)))
 |.Mult,.lst a,.int j=>aE (decide (a.length=1)&&decide (0<=j)&&decide (j<=1000)) (.ok (.lst (aQ j.toNat a).flatten))
 |.FloorDiv,.int i,.int j=>aE (decide (0<j)&&decide (j<1073741824)) (.ok (.int (i/j)))
 |.Mod,.int i,.int j=>aE (decide (0<j)) (.ok (.int (i%j)))
 |.Pow,.int i,.int j=>aE (decide (0<=j)&&decide (j<=1000000)&&decide (i.natAbs<2^64)) (.ok (.int (i^j.toNat)))
 |_,_,_=>.no
noncomputable def chr1(c:Nat):Str:=⟨#[c]⟩
noncomputable def sI(x:Str)(lo hi:Option Int):Str:=⟨(cut x.cps.toList lo hi).toArray⟩
noncomputable def sJ(cs:List Nat):Nat:=cs.foldl (λacc c=>acc*10+(c-48)) 0
noncomputable def sL(cs:List Nat):Bool:=!cs.isEmpty&&cs.all λc=>decide (48<=c)&&decide (c<=57)
noncomputable def gT:List D->Res (List Bool)
 |[]=>.ok []
 |.bl x::r=>do let q<-gT r;.ok (x::q)
 |_::_=>.no
noncomputable def sM(x y:Str):Res Bool:=match x.cps.toList with
 |[c]=>.ok (decide (c∈y.cps.toList))
 |_=>.no
noncomputable def eR:D->Option (Sum Int Str)
 |.int i=>some (.inl i)
 |.str x=>some (.inr x)
 |_=>none
noncomputable def bE(kvs:List (Sum Int Str×D))(k:Sum Int Str):Option D:=(kvs.find? λkv=>decide (kv.1=k)).map (·.2)
noncomputable def dX(kvs:List (Sum Int Str×D))(k:Sum Int Str)(v:D):List (Sum Int Str×D):=
 if(kvs.any λkv=>decide (kv.1=k))=true then kvs.map (λkv=>if kv.1=k then(kv.1,v)else kv)else kvs++[(k,v)]
noncomputable def kZ:List D->Option (List (Sum Int Str))
 |[]=>some []
 |d::r=>(eR d).bind λk=>(kZ r).map λq=>k::q
noncomputable def dG:List D->Option (List (Sum Int Str))
 |[]=>some []
 |.int i::r=>(dG r).map λq=>.inl i::q
 |_::_=>none
noncomputable def iI:Sum Int Str->D
 |.inl i=>.int i
 |.inr x=>.str x
noncomputable def cH(kvs:List (List (Sum Int Str)×D))(k:List (Sum Int Str)):Option D:=(kvs.find? λkv=>decide (kv.1=k)).map (·.2)
noncomputable def iJ(kvs:List (List (Sum Int Str)×D))(k:List (Sum Int Str))(v:D):List (List (Sum Int Str)×D):=
 if(kvs.any λkv=>decide (kv.1=k))=true then kvs.map (λkv=>if kv.1=k then(kv.1,v)else kv)else kvs++[(k,v)]
noncomputable def Res.of{α:Type}:Option α->Res α
 |some a=>.ok a
 |none=>.no
noncomputable def D.isNon:D->Bool
 |.non=>true
 |_=>false
noncomputable def D.eqOk(a b:D):Bool:=D.pl 30 a&&D.pl 30 b
noncomputable def D.mem(x:D):List D->Bool
 |[]=>false
 |y::r=>D.eqb y x||D.mem x r
noncomputable def D.inn(x:D):D->Res Bool
 |.lst ds=>aE (D.pls 30 ds&&D.pl 29 x) (.ok (D.mem x ds))
 |.tup ds=>aE (D.pls 30 ds&&D.pl 29 x) (.ok (D.mem x ds))
 |.dct kvs=>do let k<-Res.of (eR x);.ok (bE kvs k).isSome
 |.tdc kvs=>match x with
  |.tup ks=>do let k<-Res.of (dG ks);.ok (cH kvs k).isSome
  |_=>.no
 |.str y=>match x with
  |.str z=>sM z y
  |_=>.no
 |_=>.no
noncomputable def cO:List D->Res (List Int)
 |[]=>.ok []
 |.int i::r=>do let q<-cO r;.ok (i::q)
 |_::_=>.no
noncomputable def ltL:List Int->List Int->Bool
 |[],[]=>false
 |[],_::_=>true
 |_::_,[]=>false
 |a::x,b::y=>if a=b then ltL x y else decide (a<b)
noncomputable def D.cmp:CmpOp->D->D->Res D
 |.Eq,a,b=>aE (D.eqOk a b) (.ok (.bl (D.eqb a b)))
 |.NotEq,a,b=>aE (D.eqOk a b) (.ok (.bl (!D.eqb a b)))
 |.Lt,.int i,.int j=>.ok (.bl (decide (i<j)))
 |.Lt,.lst a,.lst b=>do let x<-cO a;let y<-cO b;.ok (.bl (ltL x y))
 |.LtE,.int i,.int j=>.ok (.bl (decide (i<=j)))
 |.Gt,.int i,.int j=>.ok (.bl (decide (j<i)))
 |.GtE,.int i,.int j=>.ok (.bl (decide (j<=i)))
 |.Is,a,.non=>.ok (.bl a.isNon)
 |.IsNot,a,.non=>.ok (.bl (!a.isNon))
 |.Is,.bl a,.bl b=>.ok (.bl (a==b))
 |.IsNot,.bl a,.bl b=>.ok (.bl (a != b))
 |.In,a,b=>do let k<-D.inn a b;.ok (.bl k)
 |.NotIn,a,b=>do let k<-D.inn a b;.ok (.bl (!k))
 |_,_,_=>.no
noncomputable def D.truth:D->Res Bool
 |.non=>.ok false
 |.bl b=>.ok b
 |.int i=>.ok (i != 0)
 |.str x=>aE (decide (x.length<=big)) (.ok ((x.length:Int) != 0))
 |.tup a=>.ok (!a.isEmpty)
 |.lst a=>.ok (!a.isEmpty)
 |.dct _=>.no
 |.tdc _=>.no
 |.cnt _ _=>.no
noncomputable def D.ix:D->D->Res D
 |.lst a,.int i=>Res.of (atI a i)
 |.tup a,.int i=>Res.of (atI a i)
 |.str x,.int i=>aE (decide (x.length<=big)) (Res.of ((atI x.cps.toList i).map λc=>.str ⟨#[c]⟩))
 |.dct kvs,y=>do let k<-Res.of (eR y);Res.of (bE kvs k)
 |.tdc kvs,.tup ks=>do let k<-Res.of (dG ks);Res.of (cH kvs k)
 |_,_=>.no
noncomputable def D.part:D->Res (Option Int)
 |.non=>.ok none
 |.int i=>.ok (some i)
 |_=>.no
noncomputable def D.sl:D->Option Int->Option Int->Res D
 |.lst a,lo,hi=>.ok (.lst (cut a lo hi))
 |.tup a,lo,hi=>.ok (.tup (cut a lo hi))
 |.str x,lo,hi=>aE (decide (x.length<=big)) (.ok (.str (sI x lo hi)))
 |_,_,_=>.no
noncomputable def D.items:D->Res (List D)
 |.lst a=>.ok a
 |.tup a=>.ok a
 |_=>.no
noncomputable def bQ(lo:Int):Nat->List D
 |0=>[]
 |n+1=>.int lo::bQ (lo+1) n
noncomputable def bJ(k:Int):List D->List D
 |[]=>[]
 |d::r=>.tup [.int k,d]::bJ (k+1) r
noncomputable def bN(i:Int):Bool:=decide (-(2^62)<=i)&&decide (i<2^62)
inductive Ty where
 |int|bool|str|tuple|list
 deriving DecidableEq,Inhabited
noncomputable def D.isDct:D->Bool
 |.dct _=>true
 |.tdc _=>true
 |.cnt _ _=>true
 |_=>false
noncomputable def D.isTy:D->Ty->Bool
 |.int _,.int=>true
 |.bl _,.int=>true
 |.bl _,.bool=>true
 |.str _,.str=>true
 |.tup _,.tuple=>true
 |.lst _,.list=>true
 |_,_=>false
inductive Bt where
 |len|sum|tuple|list|int|max|all
 deriving DecidableEq,Inhabited
noncomputable def D.len:D->Res D
 |.lst a=>.ok (.int a.length)
 |.tup a=>.ok (.int a.length)
 |.str x=>aE (decide (x.length<=big)) (.ok (.int x.length))
 |.dct a=>.ok (.int a.length)
 |_=>.no
noncomputable def D.sum:D->Res D
 |.lst a=>do let ns<-cO a;.ok (.int ns.sum)
 |_=>.no
noncomputable def D.tuple:D->Res D
 |.lst a=>.ok (.tup a)
 |.tup a=>.ok (.tup a)
 |_=>.no
noncomputable def D.list:D->Res D
 |.lst a=>.ok (.lst a)
 |.tup a=>.ok (.lst a)
 |_=>.no
noncomputable def D.toInt:D->Res D
 |.int i=>.ok (.int i)
 |.bl b=>.ok (.int (b2z b))
 |.str x=>aE (sL x.cps.toList&&decide (x.length<=640)) (.ok (.int (sJ x.cps.toList)))
 |_=>.no
noncomputable def D.abs:D->Res D
 |.int i=>.ok (.int (if i<0 then -i else i))
 |_=>.no
noncomputable def D.all:D->Res D
 |.lst a=>do let q<-gT a;.ok (.bl (q.all id))
 |_=>.no
noncomputable def D.any:D->Res D
 |.lst a=>do let q<-gT a;.ok (.bl (q.any id))
 |_=>.no
noncomputable def D.max2:D->D->Res D
 |.int i,.int j=>.ok (.int (if j>i then j else i))
 |_,_=>.no
noncomputable def Bt.one:Bt->D->Res D
 |.len=>D.len
 |.sum=>D.sum
 |.tuple=>D.tuple
 |.list=>D.list
 |.int=>D.toInt
 |.all=>D.all
 |.max=>λ_=>.no
noncomputable def Bt.two:Bt->D->D->Res D
 |.max=>D.max2
 |_=>λ_ _=>.no
noncomputable def Bt.run(b:Bt):List D->Res D
 |[d]=>b.one d
 |[d,d']=>b.two d d'
 |_=>.no
noncomputable def D.aug:Operator->D->D->Res D
 |.Add,.int i,.int j=>.ok (.int (i+j))
 |.Sub,.int i,.int j=>.ok (.int (i-j))
 |_,_,_=>.no
noncomputable def mR:D->Res D
 |.int n=>aE (bN n&&decide (n<=(big:Nat))) (.ok (.lst (bQ 0 n.toNat)))
 |_=>.no
noncomputable def mT:D->Res D
 |.int n=>aE (bN n&&decide (n<=1000)) (.ok (.tup (bQ 0 n.toNat)))
 |_=>.no
noncomputable def mU:D->D->Res D
 |.tdc kvs,.tup ks=>do let k<-Res.of (dG ks);.ok ((cH kvs k).getD .non)
 |_,_=>.no
noncomputable def lA:D->Res (List (Sum Int Str))
 |.tup ks=>Res.of (dG ks)
 |_=>.no
noncomputable def mV:D->D->Res D
 |.tup ks,v=>do let k<-Res.of (dG ks);.ok (.tdc [(k,v)])
 |_,_=>.no
noncomputable def mW:D->Res (List D)
 |.tdc kvs=>.ok (kvs.map λkv=>.tup (kv.1.map iI))
 |_=>.no
noncomputable def sN:List D->Res (List (Sum Int Str))
 |[]=>.ok []
 |d::r=>do let k<-Res.of (eR d);let q<-sN r;.ok (k::q)
noncomputable def D.keys:D->Res (List (Sum Int Str))
 |.lst ds=>sN ds
 |.tup ds=>sN ds
 |.str x=>.ok (x.cps.toList.map λc=>.inr ⟨#[c]⟩)
 |_=>.no
noncomputable def metD(ks:List (Sum Int Str)):List (Sum Int Str):=ks.foldl (λacc k=>if acc.any (λx=>decide (x=k))then acc else acc++[k]) []
noncomputable def D.setN(x:D):Res D:=match x.keys with
 |.ok ks=>aE (decide (ks.length+1<4096)) (.ok (.int (metD ks).length))
 |_=>.no
inductive CK where
 |parts|clashes|meth (f:Nat) (m:Str)|make (f:Nat)
 deriving Inhabited
noncomputable def prD(p:Int×Int):D:=.tup [.int p.1,.int p.2]
noncomputable def jY(cf:Nat->List D->Res D):CK->D->List D->Res D
 |.parts,.cnt n _,[]=>.ok (.int n)
 |.clashes,.cnt _ cl,[]=>.ok (.lst (cl.map prD))
 |.meth f _,.cnt n cl,r=>cf f (.cnt n cl::r)
 |.make f,d,[]=>do
  match<-cf f [.non,d]with
  |.cnt n cl=>.ok (.cnt n cl)
  |_=>.no
 |_,_,_=>.no
noncomputable def mX:D->D->Res (List D)
 |.tup ds,.int k=>aE (bN k&&decide (0<=k)) (.ok (bJ k ds))
 |_,_=>.no
noncomputable def gU:List D->Res (List (List Int))
 |[]=>.ok []
 |.tup ks::r=>do let q<-cO ks;let qs<-gU r;.ok (q::qs)
 |_=>.no
noncomputable def jC:List D->Res (List (Int×Int))
 |[]=>.ok []
 |.tup [.int i,.int j]::r=>do let q<-jC r;.ok ((i,j)::q)
 |_=>.no
set_option genInjectivity false in
inductive G where
 |one (i:Nat)|many (is:List Nat)
 deriving Inhabited
set_option genInjectivity false in
inductive E where
 |var (i:Nat)|rd (i:Nat)|con (d:D)|glob (g:Nat)
 |bin (o:Operator) (a b:E)|cmp (o:CmpOp) (a b:E)|chain (o p:CmpOp) (a b c:E)
 |and (a b:E)|or (a b:E)|not (a:E)|neg (a:E)|ife (c a b:E)
 |ix (a b:E)|sl (a lo hi:E)|omit
 |tup (a:E)|lst (a:E)|anil|acons (a r:E)
 |call (f:Nat) (a:E)|bt (b:Bt) (a:E)|isi (a:E) (t:Ty)
 |comp (own:Nat) (caps:List Nat) (g:G) (elt src cond:E)
 |seq (a:E)|rng (a:E)|rng2 (a b:E)|enum (a:E)
 |dlit (a b:E)|trng (a:E)|getV (a b:E)|seqD (a:E)|lrng (a:E)|cnt (k:CK) (r a:E)|enumS (a b:E)
 deriving Inhabited
set_option genInjectivity false in
inductive S where
 |nil|cons (a r:S)
 |ret (e:E)|retO (i:Nat)
 |asg (g:G) (e:E)|asgO (i:Nat) (e:E)|sealed (i:Nat)
 |ite (c:E) (a b:S)|forS (g:G) (src:E) (b:S)|whl (n:Nat) (c:E) (b:S)
 |app (i:Nat) (e:E)|rev (i:Nat)|brk|cnt
 |dput (i:Nat) (k v:E)|ext (i:Nat) (e:E)
 |never
 |aug (i:Nat) (o:Operator) (e:E)
 |exp (e:E)
 |newD (i:Nat)|newT (i:Nat)|dputV (i:Nat) (k v:E)
 deriving Inhabited
inductive Sl where
 |no|v (d:D)|o (d:D)|t (ds:List D)|n (d:D)|r (a:Nat) (d:D)
 deriving Inhabited
noncomputable abbrev Nv:=List Sl
noncomputable def Nv.at(e:Nv)(i:Nat):Sl:=(e[i]?).getD .no
noncomputable def Sl.val:Sl->Res D
 |.v d=>.ok d
 |.n d=>.ok d
 |_=>.no
noncomputable def Sl.any:Sl->Res D
 |.v d=>.ok d
 |.n d=>.ok d
 |.o d=>.ok d
 |.r _ d=>.ok d
 |_=>.no
noncomputable def Sl.own:Sl->Res (List D)
 |.o (.lst a)=>.ok a
 |_=>.no
noncomputable def Sl.ownD:Sl->Res (List (Sum Int Str×D))
 |.o (.dct a)=>.ok a
 |_=>.no
noncomputable def Sl.ownT:Sl->Res (List (List (Sum Int Str)×D))
 |.o (.tdc a)=>.ok a
 |_=>.no
noncomputable def Sl.ownA:Sl->Res D
 |.o d=>.ok d
 |_=>.no
noncomputable def dY:List Nat->List D->Nv->Res Nv
 |[],[],e=>.ok e
 |i::r,d::q,e=>dY r q (e.set i (.v d))
 |_,_,_=>.no
noncomputable def G.put:G->D->Nv->Res Nv
 |.one i,d,e=>.ok (e.set i (.v d))
 |.many is,.tup ds,e=>dY is ds e
 |_,_,_=>.no
noncomputable def fA(own:Nat)(caps:List Nat)(e:Nv):Nv:=aQ own Sl.no++caps.map λi=>e.at i
set_option genInjectivity false in
structure Tab where
 glob:Nat->D
 fresh:Nat->Bool
 mv:Nat->Option Nat:=λ_=>none
section
variable(T:Tab)(cf:Nat->List D->Res D)
noncomputable def mY:List D->Bool
 |.lst _::_=>true
 |.int _::r=>mY r
 |.str _::r=>mY r
 |_=>false
noncomputable def mZ:D->Bool
 |.tup ds=>mY ds
 |_=>false
noncomputable def cP:E->Bool
 |.lst _=>true
 |.sl _ _ _=>true
 |.bin .Add _ _=>true
 |.comp _ _ _ _ _ _=>true
 |.bt .list _=>true
 |.lrng _=>true
 |.call f _=>T.fresh f
 |_=>false
noncomputable def yX:E->Nat->E
 |.acons a _,0=>a
 |.acons _ r,n+1=>yX r n
 |_,_=>.omit
noncomputable def bR(f:D->Res (Option D)):List D->Res (List D)
 |[]=>.ok []
 |d::r=>do
  let x<-f d
  let q<-bR f r
  match x with
  |some y=>.ok (y::q)
  |none=>.ok q
mutual
noncomputable def evE:E->Nv->Res D
 |.var i,e=>(e.at i).val
 |.rd i,e=>(e.at i).any
 |.con d,_=>.ok d
 |.glob g,_=>.ok (T.glob g)
 |.bin o a b,e=>do let x<-evE a e;let y<-evE b e;D.bin o x y
 |.cmp o a b,e=>do let x<-evE a e;let y<-evE b e;D.cmp o x y
 |.chain o p a b c,e=>do
  let x<-evE a e
  let y<-evE b e
  match<-D.cmp o x y with
  |.bl true=>do let z<-evE c e;D.cmp p y z
  |.bl false=>.ok (.bl false)
  |_=>.no
 |.and a b,e=>do let x<-evE a e;let k<-x.truth;if k then evE b e else .ok x
 |.or a b,e=>do let x<-evE a e;let k<-x.truth;if k then .ok x else evE b e
 |.not a,e=>do let x<-evE a e;let k<-x.truth;.ok (.bl (!k))
 |.neg a,e=>do
  match<-evE a e with
  |.int i=>.ok (.int (-i))
  |_=>.no
 |.ife c a b,e=>do let x<-evE c e;let k<-x.truth;if k then evE a e else evE b e
 |.ix a b,e=>do let x<-evE a e;let y<-evE b e;D.ix x y
 |.sl a lo hi,e=>do let x<-evE a e;let l<-evE lo e;let l<-l.part;let h<-evE hi e;let h<-h.part;D.sl x l h
 |.omit,_=>.ok .non
 |.tup a,e=>do let xs<-evA a e;.ok (.tup xs)
 |.lst a,e=>do let xs<-evA a e;.ok (.lst xs)
 |.call f a,e=>do let xs<-evA a e;cf f xs
 |.dlit a b,e=>do let x<-evE a e;let y<-evE b e;mV x y
 |.trng a,e=>do let x<-evE a e;mT x
 |.getV a b,e=>do let x<-evE a e;let y<-evE b e;mU x y
 |.bt b a,e=>do let xs<-evA a e;b.run xs
 |.isi a t,e=>do let x<-evE a e;aE (!x.isDct) (.ok (.bl (x.isTy t)))
 |.lrng a,e=>do let x<-evE a e;mR x
 |.cnt k r a,e=>do let x<-evE r e;let xs<-evA a e;jY cf k x xs
 |.comp own caps g elt src cond,e=>do
  let ds<-evI src e
  let ys<-bR (λd=>do
   let e1<-g.put d (fA own caps e)
   let c<-evE cond e1
   let k<-c.truth
   if k then do let y<-evE elt e1;.ok (some y)else .ok none) ds
  aE (decide (ds.length<=big)) (.ok (.lst ys))
 |_,_=>.no
noncomputable def evA:E->Nv->Res (List D)
 |.anil,_=>.ok []
 |.acons a r,e=>do let x<-evE a e;let q<-evA r e;aE (decide (q.length<1000)) (.ok (x::q))
 |_,_=>.no
noncomputable def evI:E->Nv->Res (List D)
 |.seq a,e=>do let x<-evE a e;x.items
 |.rng a,e=>do
  match<-evE a e with
  |.int n=>aE (bN n) (.ok (bQ 0 n.toNat))
  |_=>.no
 |.rng2 a b,e=>do
  match<-evE a e with
  |.int n=>do
   match<-evE b e with
   |.int m=>aE (bN n&&bN m) (.ok (bQ n (m-n).toNat))
   |_=>.no
  |_=>.no
 |.enum a,e=>do
  match<-evE a e with
  |.lst ds=>.ok (bJ 0 ds)
  |_=>.no
 |.seqD a,e=>do let x<-evE a e;mW x
 |.enumS a b,e=>do let x<-evE a e;let y<-evE b e;mX x y
 |_,_=>.no
end
noncomputable def D.isInt:D->Bool
 |.int _=>true
 |_=>false
inductive Out where
 |nx (e:Nv)|rt (d:D) (fresh:Bool)|bk (e:Nv)|ct (e:Nv)|rr (d:D) (a:Nat) (j:List (Sum Int Str×D)) (b:Nat) (k:List (Sum Int Str×D))
 deriving Inhabited
noncomputable def aO(f:D->Nv->Res Out):List D->Nv->Res Out
 |[],e=>.ok (.nx e)
 |d::r,e=>do
  match<-f d e with
  |.nx e1=>aO f r e1
  |.ct e1=>aO f r e1
  |.bk e1=>.ok (.nx e1)
  |.rt x k=>.ok (.rt x k)
  |.rr x a j b k=>.ok (.rr x a j b k)
noncomputable def eE(c:Nv->Res Bool)(f:Nv->Res Out):Nat->Nv->Res Out
 |0,_=>.no
 |n+1,e=>do
  if<-c e then
   match<-f e with
   |.nx e1=>eE c f n e1
   |.ct e1=>eE c f n e1
   |.bk e1=>.ok (.nx e1)
   |.rt x k=>.ok (.rt x k)
   |.rr x a j b k=>.ok (.rr x a j b k)
  else .ok (.nx e)
noncomputable def exS:S->Nv->Res Out
 |.nil,e=>.ok (.nx e)
 |.cons a r,e=>do
  match<-exS a e with
  |.nx e1=>exS r e1
  |o=>.ok o
 |.ret x,e=>do let d<-evE T cf x e;.ok (.rt d (cP T x&&!mZ d))
 |.retO i,e=>do let a<-(e.at i).ownA;.ok (.rt a (!a.isDct))
 |.asg g x,e=>do let d<-evE T cf x e;let e1<-g.put d e;.ok (.nx e1)
 |.asgO i x,e=>do
  match<-evE T cf x e with
  |.lst a=>aE (cP T x) (.ok (.nx (e.set i (.o (.lst a)))))
  |.dct a=>aE (cP T x) (.ok (.nx (e.set i (.o (.dct a)))))
  |.tdc a=>aE (cP T x) (.ok (.nx (e.set i (.o (.tdc a)))))
  |_=>.no
 |.sealed i,e=>do let a<-(e.at i).ownA;.ok (.nx (e.set i (.v a)))
 |.ite c a b,e=>do let x<-evE T cf c e;let k<-x.truth;if k then exS a e else exS b e
 |.forS g src b,e=>do
  let ds<-evI T cf src e
  aO (λd e0=>do let e1<-g.put d e0;exS b e1) ds e
 |.whl n c b,e=>eE (λe0=>do let x<-evE T cf c e0;x.truth) (λe0=>exS b e0) n e
 |.app i x,e=>do
  let d<-evE T cf x e
  let a<-(e.at i).own
  aE (decide (a.length<big)) (.ok (.nx (e.set i (.o (.lst (a++[d]))))))
 |.rev i,e=>do
  let a<-(e.at i).own
  .ok (.nx (e.set i (.o (.lst a.reverse))))
 |.dput i k x,e=>do
  let d<-evE T cf x e
  let a<-(e.at i).ownD
  let y<-evE T cf k e
  let key<-Res.of (eR y)
  aE (decide (a.length<big)) (.ok (.nx (e.set i (.o (.dct (dX a key d))))))
 |.newD i,e=>.ok (.nx (e.set i (.o (.dct []))))
 |.newT i,e=>.ok (.nx (e.set i (.o (.tdc []))))
 |.dputV i k x,e=>do
  let d<-evE T cf x e
  let a<-(e.at i).ownT
  let y<-evE T cf k e
  let key<-lA y
  aE (decide (a.length<big)) (.ok (.nx (e.set i (.o (.tdc (iJ a key d))))))
 |.ext i x,e=>do
  match<-evE T cf x e with
  |.lst b=>do
   let a<-(e.at i).own
   aE (cP T x&&decide (a.length+b.length<=big)) (.ok (.nx (e.set i (.o (.lst (a++b))))))
  |_=>.no
 |.never,_=>.no
 |.aug i o x,e=>do
  let d<-(e.at i).val
  let y<-evE T cf x e
  let z<-D.aug o d y
  .ok (.nx (e.set i (.v z)))
 |.exp x,e=>do let _<-evE T cf x e;.ok (.nx e)
 |.brk,e=>.ok (.bk e)
 |.cnt,e=>.ok (.ct e)
end
structure Told where
 b:S
 c:Str
 yes:D
 thr:D
 ini:D:=.non
 num:Bool:=false
 mem:Option E:=none
 ini2:Option (E×E):=none
 deriving Inhabited
set_option genInjectivity false in
structure Df where
 names:Nat
 pars:Nat
 body:S
 told:Option Told:=none
 deriving Inhabited
noncomputable def jD(T:Tab)(cf:Nat->List D->Res D)(x:E)(m:Nat):List D->Res D
 |[.cnt n cl,.tup []]=>.ok (.int 1)
 |[.cnt n cl,.tup ks]=>match gU ks with
  |.ok kss=>match evE T cf x ([.v (.cnt n cl),.v (.tup ks)]++aQ m Sl.no)with
   |.ok (.int v)=>aE (L2.fJ kss&&v==L2.dS n cl kss) (.ok (.int v))
   |_=>.no
  |_=>.no
 |_=>.no
noncomputable def mkR(T:Tab)(cf:Nat->List D->Res D)(x y:E)(m:Nat):List D->Res D
 |[.non,d]=>do
  match<-evE T cf x ([.no,.v d]++aQ m Sl.no)with
  |.int n=>do
   match<-evE T cf y ([.no,.v d]++aQ m Sl.no)with
   |.lst ds=>do let cl<-jC ds;aE (cP T y) (.ok (.cnt n cl))
   |_=>.no
  |_=>.no
 |_=>.no
noncomputable def aA(T:Tab)(defs:List Df):Nat->Nat->List D->Res D
 |0,_,_=>.no
 |n+1,f,ds=>
  match defs[f]? with
  |none=>.no
  |some d=>
   aE (ds.length==d.pars) (match d.told with
    |none=>match exS T (aA T defs n) d.body (ds.map Sl.v++aQ (d.names-d.pars) Sl.no)with
     |.ok (.rt x k)=>aE (k||!T.fresh f) (.ok x)
     |.ok (.nx _)=>aE (!T.fresh f) (.ok .non)
     |_=>.no
    |some t=>match t.mem with
     |some x=>aE (!T.fresh f) (jD T (aA T defs n) x (d.names-d.pars) ds)
     |none=>match t.ini2 with
     |some z=>mkR T (aA T defs n) z.1 z.2 (d.names-d.pars) ds
     |none=>.no)
theorem lB{T:Tab}{defs:List Df}{n f:Nat}{ds:List D}:aA T defs (n+1) f ds=(
 match defs[f]? with
 |none=>.no
 |some d=>
  aE (ds.length==d.pars) (match d.told with
   |none=>match exS T (aA T defs n) d.body (ds.map Sl.v++aQ (d.names-d.pars) Sl.no)with
    |.ok (.rt x k)=>aE (k||!T.fresh f) (.ok x)
    |.ok (.nx _)=>aE (!T.fresh f) (.ok .non)
    |_=>.no
   |some t=>match t.mem with
    |some x=>aE (!T.fresh f) (jD T (aA T defs n) x (d.names-d.pars) ds)
    |none=>match t.ini2 with
    |some z=>mkR T (aA T defs n) z.1 z.2 (d.names-d.pars) ds
    |none=>.no)):=rfl
variable{o:CmpOp}{a b c r src x:E}{g:G}{i:Nat}
section
variable{T:Tab}{cf:Nat->List D->Res D}{e:Nv}
theorem yY:evE T cf (.var i) e=((e.at i).val):=rfl
theorem yZ:evE T cf (.rd i) e=((e.at i).any):=rfl
theorem sO{d:D}:evE T cf (.con d) e=(.ok d):=rfl
theorem HF{g:Nat}:evE T cf (.glob g) e=(.ok (T.glob g)):=rfl
theorem sP:evE T cf (.cmp o a b) e=(do let x<-evE T cf a e;let y<-evE T cf b e;D.cmp o x y):=rfl
theorem sQ{p:CmpOp}:evE T cf (.chain o p a b c) e=(do
 let x<-evE T cf a e
 let y<-evE T cf b e
 match<-D.cmp o x y with
 |.bl true=>do let z<-evE T cf c e;D.cmp p y z
 |.bl false=>.ok (.bl false)
 |_=>.no):=rfl
theorem zA:evE T cf (.and a b) e=(do let x<-evE T cf a e;let k<-x.truth;if k then evE T cf b e else .ok x):=rfl
theorem zB:evE T cf (.or a b) e=(do let x<-evE T cf a e;let k<-x.truth;if k then .ok x else evE T cf b e):=rfl
theorem zC:evE T cf (.not a) e=(do let x<-evE T cf a e;let k<-x.truth;.ok (.bl (!k))):=rfl
theorem zD:evE T cf (.neg a) e=(do
 match<-evE T cf a e with
 |.int i=>.ok (.int (-i))
 |_=>.no):=rfl
theorem zE:evE T cf (.ife c a b) e=(do let x<-evE T cf c e;let k<-x.truth;if k then evE T cf a e else evE T cf b e):=rfl
theorem xE_sl{lo:E}{hi:E}:evE T cf (.sl a lo hi) e=(do let x<-evE T cf a e;let l<-evE T cf lo e;let l<-l.part;let h<-evE T cf hi e;let h<-h.part;D.sl x l h):=rfl
theorem HG  : evE T cf (.«omit») e=(.ok .non):=rfl
theorem nA:evE T cf (.tup a) e=(do let xs<-evA T cf a e;.ok (.tup xs)):=rfl
theorem nB:evE T cf (.lst a) e=(do let xs<-evA T cf a e;.ok (.lst xs)):=rfl
theorem zF{f:Nat}:evE T cf (.call f a) e=(do let xs<-evA T cf a e;cf f xs):=rfl
theorem HH:evE T cf (.dlit a b) e=(do let x<-evE T cf a e;let y<-evE T cf b e;mV x y):=rfl
theorem HI:evE T cf (.trng a) e=(do let x<-evE T cf a e;mT x):=rfl
theorem HJ:evE T cf (.getV a b) e=(do let x<-evE T cf a e;let y<-evE T cf b e;mU x y):=rfl
theorem HK:evI T cf (.seqD a) e=(do let x<-evE T cf a e;mW x):=rfl
theorem xE_bt{b:Bt}:evE T cf (.bt b a) e=(do let xs<-evA T cf a e;b.run xs):=rfl
theorem xE_isi{t:Ty}:evE T cf (.isi a t) e=(do let x<-evE T cf a e;aE (!x.isDct) (.ok (.bl (x.isTy t)))):=rfl
theorem HL:evE T cf (.lrng a) e=(do let x<-evE T cf a e;mR x):=rfl
theorem nC{k:CK}:evE T cf (.cnt k r a) e=(do let x<-evE T cf r e;let xs<-evA T cf a e;jY cf k x xs):=rfl
theorem HM:evI T cf (.enumS a b) e=(do let x<-evE T cf a e;let y<-evE T cf b e;mX x y):=rfl
theorem zG{own:Nat}{caps:List Nat}{elt:E}{cond:E}:evE T cf (.comp own caps g elt src cond) e=(do
 let ds<-evI T cf src e
 let ys<-bR (λd=>do
  let e1<-g.put d (fA own caps e)
  let c<-evE T cf cond e1
  let k<-c.truth
  if k then do let y<-evE T cf elt e1;.ok (some y)else .ok none) ds
 aE (decide (ds.length<=big)) (.ok (.lst ys))):=rfl
theorem jZ  : evA T cf (.anil) e=(.ok []):=rfl
theorem pB:evA T cf (.acons a r) e=(do let x<-evE T cf a e;let q<-evA T cf r e;aE (decide (q.length<1000)) (.ok (x::q))):=rfl
theorem xI_seq:evI T cf (.seq a) e=(do let x<-evE T cf a e;x.items):=rfl
theorem zH:evI T cf (.rng a) e=(do
 match<-evE T cf a e with
 |.int n=>aE (bN n) (.ok (bQ 0 n.toNat))
 |_=>.no):=rfl
theorem zI:evI T cf (.rng2 a b) e=(do
 match<-evE T cf a e with
 |.int n=>do
  match<-evE T cf b e with
  |.int m=>aE (bN n&&bN m) (.ok (bQ n (m-n).toNat))
  |_=>.no
 |_=>.no):=rfl
theorem zJ:evI T cf (.enum a) e=(do
 match<-evE T cf a e with
 |.lst ds=>.ok (bJ 0 ds)
 |_=>.no):=rfl
theorem xS_nil  : exS T cf (.nil) e=(.ok (.nx e)):=rfl
theorem pC{a:S}{r:S}:exS T cf (.cons a r) e=(do
 match<-exS T cf a e with
 |.nx e1=>exS T cf r e1
 |o=>.ok o):=rfl
theorem xS_ret:exS T cf (.ret x) e=(do let d<-evE T cf x e;.ok (.rt d (cP T x&&!mZ d))):=rfl
theorem HN:exS T cf (.retO i) e=(do let a<-(e.at i).ownA;.ok (.rt a (!a.isDct))):=rfl
theorem pD:exS T cf (.asg g x) e=(do let d<-evE T cf x e;let e1<-g.put d e;.ok (.nx e1)):=rfl
theorem pE:exS T cf (.asgO i x) e=(do
 match<-evE T cf x e with
 |.lst a=>aE (cP T x) (.ok (.nx (e.set i (.o (.lst a)))))
 |.dct a=>aE (cP T x) (.ok (.nx (e.set i (.o (.dct a)))))
 |.tdc a=>aE (cP T x) (.ok (.nx (e.set i (.o (.tdc a)))))
 |_=>.no):=rfl
theorem zK:exS T cf (.«sealed» i) e=(do let a<-(e.at i).ownA;.ok (.nx (e.set i (.v a)))):=rfl
theorem sR{a:S}{b:S}:exS T cf (.ite c a b) e=(do let x<-evE T cf c e;let k<-x.truth;if k then exS T cf a e else exS T cf b e):=rfl
theorem HQ{b:S}:exS T cf (.forS g src b) e=(do
 let ds<-evI T cf src e
 aO (λd e0=>do let e1<-g.put d e0;exS T cf b e1) ds e):=rfl
theorem xS_whl{n:Nat}{b:S}:exS T cf (.whl n c b) e=(eE (λe0=>do let x<-evE T cf c e0;x.truth) (λe0=>exS T cf b e0) n e):=rfl
theorem xS_app:exS T cf (.app i x) e=(do
 let d<-evE T cf x e
 let a<-(e.at i).own
 aE (decide (a.length<big)) (.ok (.nx (e.set i (.o (.lst (a++[d]))))))):=rfl
theorem xS_rev:exS T cf (.rev i) e=(do
 let a<-(e.at i).own
 .ok (.nx (e.set i (.o (.lst a.reverse))))):=rfl
theorem HR{k:E}:exS T cf (.dput i k x) e=(do
 let d<-evE T cf x e
 let a<-(e.at i).ownD
 let y<-evE T cf k e
 let key<-Res.of (eR y)
 aE (decide (a.length<big)) (.ok (.nx (e.set i (.o (.dct (dX a key d))))))):=rfl
theorem HS:exS T cf (.newD i) e=.ok (.nx (e.set i (.o (.dct [])))):=rfl
theorem HU:exS T cf (.newT i) e=.ok (.nx (e.set i (.o (.tdc [])))):=rfl
theorem HV{k:E}:exS T cf (.dputV i k x) e=(do
 let d<-evE T cf x e
 let a<-(e.at i).ownT
 let y<-evE T cf k e
 let key<-lA y
 aE (decide (a.length<big)) (.ok (.nx (e.set i (.o (.tdc (iJ a key d))))))):=rfl
theorem zL:exS T cf (.ext i x) e=(do
 match<-evE T cf x e with
 |.lst b=>do
  let a<-(e.at i).own
  aE (cP T x&&decide (a.length+b.length<=big)) (.ok (.nx (e.set i (.o (.lst (a++b))))))
 |_=>.no):=rfl
theorem HW  : exS T cf (.never) e=(.no):=rfl
theorem xS_aug{o:Operator}:exS T cf (.aug i o x) e=(do
 let d<-(e.at i).val
 let y<-evE T cf x e
 let z<-D.aug o d y
 .ok (.nx (e.set i (.v z)))):=rfl
theorem xS_exp:exS T cf (.exp x) e=(do let _<-evE T cf x e;.ok (.nx e)):=rfl
theorem xS_brk  : exS T cf (.brk) e=(.ok (.bk e)):=rfl
theorem xS_cnt  : exS T cf (.cnt) e=(.ok (.ct e)):=rfl
end
section
variable{T:Tab}{cf:Nat->List D->Res D}{e:Nv}
end
section
variable{T:Tab}{cf:Nat->List D->Res D}
end
end Tr
namespace Tr
open PySem PySem.Spec PyProof.Rows L2 Builtin.Str
variable{x y:Str}
theorem zM(h:x.cps.toList=y.cps.toList):x=y:=by
 cases x;cases y
 simp only[Str.mk.injEq]
 exact Nn.mp h
theorem HX{α:Type}(xs:List α)(a b:Nat)(hb:b<=xs.length):((aC (b-a)).map λk=>a+k).filterMap (xs[·]?)=(xs.drop a).take (b-a):=by
 generalize hn:b-a=n
 induction n generalizing a with
 |zero=>simp
 |succ n ih=>
  have ha:a<xs.length:=by lia
  rw[lY,aL,jO,dQ,xB ha,List.take_succ_cons]
  simp only[Nat.add_zero,aP ha]
  congr 1
  rw[<-ih (a+1) (by lia)]
  congr 1
  apply iU
  intro k _
  simp only[Function.comp]
  lia
theorem HY{a b:Int}{p q:Nat}(ha:a=p)(hb:b=q):sliceRange a b 1=(aC (q-p)).map λk=>p+k:=by
 subst ha hb
 unfold sliceRange
 simp only[show(1:Int)>0 by decide,if_true]
 have hc:(if(p:Int)<(q:Int)then((q:Int)-(p:Int)+1-1)/1 else 0).toNat=q-p:=by
  rw[Int.ediv_one]
  split<;>lia
 rw[hc]
 apply iU
 intro k _
 lia
theorem HZ(n:Nat)(lo hi:Option Int):strSliceIndices lo hi 1 n=(aC (sIx n n hi-sIx n 0 lo)).map λk=>sIx n 0 lo+k:=by
 unfold strSliceIndices
 refine HY ?_ ?_
 ·cases lo with
  |none=>rfl
  |some v=>
   simp only[show(1:Int)>0 by decide,if_true,sIx]
   split<;>lia
 ·cases hi with
  |none=>rfl
  |some v=>
   simp only[show(1:Int)>0 by decide,if_true,sIx]
   split<;>lia
theorem zN(n d:Nat)(hd:d<=n)(o:Option Int):sIx n d o<=n:=by
 cases o with
 |none=>exact hd
 |some v=>
  simp only[sIx]
  split<;>lia
theorem H0(x:Str)(lo hi:Option Int):Txt.slice x lo hi=sI x lo hi:=by
 have hl:x.cps.toList.length=x.length:=by simp[Str.length]
 unfold Txt.slice
 rw[HZ]
 have e:(List.filterMap (x.cps[·]?) ((aC (sIx x.length x.length hi-sIx x.length 0 lo)).map λk=>sIx x.length 0 lo+k))=cut x.cps.toList lo hi:=by
  have:=HX x.cps.toList (sIx x.length 0 lo) (sIx x.length x.length hi) (by rw[hl];exact zN _ _ (aK _) _)
  unfold cut
  rw[hl,<-this]
  congr 1
  funext k
  simp
 split
 ·rename_i c
  simp only[beq_self_eq_true,iV,aI,dR,beq_iff_eq]at c
  refine zM ?_
  show _=(cut x.cps.toList lo hi).toArray.toList
  have h1:=zN x.length x.length (aK _) hi
  unfold cut
  by_cases hz:x.length=0
  ·have:x.cps.toList=[]:=FI (by lia)
   rw[this];simp
  ·have h0:sIx x.length 0 lo=0:=by lia
   have h2:sIx x.length x.length hi=x.length:=by lia
   rw[hl,h0,h2,rL,xC,<-hl,lZ (aK _)]
 ·rw[e];rfl
theorem zO{b:Bool}(h:sM x y=.ok b):(!(occurrences y x 0 y.length 1).isEmpty)=b:=by
 unfold sM at h
 split at h
 ·rename_i c hc
  cases h
  have ex:x=⟨#[c]⟩:=zM (by rw[hc])
  rw[ex]
  exact StrLaws.found_one y c
 ·cases h
end Tr
namespace Tr
open PySem PySem.Spec PyProof.Rows L2 Builtin.Str
section
variable{X:Cx}
theorem zP{v:Value}{o:Option Int}(h:IsPart v o):∃p:Option (Int×Tok),v=partValue p/\p.map (·.1)=o:=by
 cases h with
 |none=>exact⟨none,rfl,rfl⟩
 |int i t=>exact⟨some (i,t),rfl,rfl⟩
theorem sl_str:SlR X (λx lo hi H Q=>∃z,x=.str z/\z.length<=sizeLine/\Q (.str (sI z lo hi)) H):=by
 intro pins s σ H x v vl vu lo hi sl Q I rx hs pl pu h
 obtain⟨z,rfl,hz,q⟩:=h
 obtain⟨t,rfl⟩:=rx
 obtain⟨p,rfl,rfl⟩:=zP pl
 obtain⟨p',rfl,rfl⟩:=zP pu
 refine⟨"str", _,PySem.F.slot_str_getitem.lookup,typeIs_str _ _ _,wpAny_getItem_str_slice (l:=p) (u:=p') (st:=none) hs rfl ?_⟩
 refine post_val_or_str ⟨cG (Txt.slice_le z _ _) hz,λt' k=>?_⟩
 refine⟨.str _,H,I.tok k,⟨t',?_⟩,q⟩
 rw[<-H0]
 rfl
theorem H_:cM X (.type "int") (λxs H Q=>∃z,xs=[.str z]/\sL z.cps.toList=true/\z.length<=640/\Q (.int (sJ z.cps.toList)) H):=by
 intro pins s σ H xs us Q I r h
 obtain⟨z,rfl,hd,hl,q⟩:=h
 obtain⟨u,rfl,rx⟩:=fL r
 obtain⟨t,rfl⟩:=rx
 unfold sL at hd
 rw[aD,eP]at hd
 have had:PySem.NumText.AllDigits z.cps.toList:=λc hc=>by
  have:=hd.2 c hc
  simpa using this
 have hne:z.cps.toList≠[]:=by
  have:=hd.1
  intro e
  rw[e]at this
  cases this
 have hn:=PySem.intText_digits had hne (by lia)
 exact PySem.W.KIN.call_text (n:=((sJ z.cps.toList:Nat):Int)) hn hl ⟨.int _,H,I.tok _,⟨_,rfl⟩,q⟩
theorem Ha{pins:List (Addr×Obj)}{s:Shared}{σ:L2.St}{H:Hp}{a:Addr}{bs:List Bool}{its:List Value}(I:Inv X pins σ H s)(r':Vals (bs.map V.bl) its)(pl:PlainL s.heap a its.toArray) :
 (s.heap.push {cls:=.type "list_iterator", data:=.fields #[.ref a,.int 0 0] }).IsList a its.toArray/\TruthOf X.prog X.w X.A.in1 (λi v=>its.toArray[i]?=some v) (λi=>(bs[i]?).getD true):=by
 refine⟨pl.isList.at λo e=>Heap.get?_push_of_some _ e,?_⟩
 intro i v s' Q' E' hv hQ'
 have hv':its[i]?=some v:=by simpa using hv
 obtain⟨hi,_⟩:=cT.mp hv'
 have hib:i<bs.length:=by have:=r'.length;rw[aI]at this;lia
 obtain⟨w,hw,rw'⟩:=r'.get (i:=i) (by rw[bX,aP hib];rfl)
 rw[hv']at hw
 cases hw
 have:v=.bool bs[i]:=rw'
 subst this
 have e:(bs[i]?).getD true=bs[i]:=by rw[aP hib];rfl
 dsimp only at hQ'
 rw[e]at hQ'
 exact wpAny_truthy_bool hQ'
theorem Hc(bs:List Bool):(aC bs.length).all (λi=>(bs[i]?).getD true)=bs.all id:=by
 induction bs with
 |nil=>rfl
 |cons b r ih=>
  rw[aN,lY,gP,FJ,gP,<-ih]
  rfl
theorem Hd:cM X (.builtin "all") (λxs H Q=>∃(a:Addr) (bs:List Bool),xs=[.ref a]/\SqL X.K H a (bs.map V.bl)/\X.calm=true/\Q (.bl (bs.all id)) H):=by
 intro pins s σ H xs us Q I r h
 obtain⟨a,bs,rfl,hq,hc,q⟩:=h
 obtain⟨u,rfl,rx⟩:=fL r
 cases rx
 obtain⟨its,r',pl,hz⟩:=I.list hq
 refine call_all_walk (wpAny_pyIter_list pl.isList ?_)
 have hlt:a<s.heap.objs.size:=by obtain⟨o,e,_⟩:=pl.isList;exact Heap.lt_size e
 obtain⟨w1,w2⟩:=Ha I r' pl
 refine⟨s.heap.objs.size,[s.heap.objs.size,a],[s.heap.objs.size],its.toArray.size,(λi v=>its.toArray[i]?=some v),(λi h=>h.IsListIter s.heap.objs.size a i/\h.IsList a its.toArray),λi=>(bs[i]?).getD true,rfl,Walks.list (A:=X.A.in1) (I.ok.hd hc) s.heap.objs.size a (cE hlt) its.toArray,⟨⟨_,Heap.get?_push_size _ rfl,rfl,rfl⟩,w1⟩,w2,λh' tk hk=>?_⟩
 refine⟨.bl (bs.all id),H,I.kept (h':=h') (t':=tk) λb o e=>hk b o (by simp;exact λz=>absurd (z▸Heap.lt_size e) (jN _)) (Heap.get?_push_of_some _ e),?_,q⟩
 have hl:=r'.length
 rw[aI]at hl
 show Value.bool _=Value.bool _
 rw[bI,<-hl,Hc]
end
end Tr
namespace Tr
open PySem PySem.Spec PyProof.Rows L2
section
variable{prog:Program}{w:World}{A:Around}{E:Value->Shared->Prop}{s:Shared}
theorem He{it t:Addr}{i:Nat}{items:Array Value}{x:Value}{Q:Value->Shared->Prop}(hit:s.heap.IsTupleIter it t i)(ht:s.heap.IsTuple t items)(hx:items[i]?=some x)
 (hQ:∀h',h'.IsTupleIter it t (i+1)->Heap.SameBut it s.heap h'->Q x {s with heap:=h' }):wpAny (model prog w) A (Builtin.SmallTypes.nextOf (.ref it)) Q E s:=by
 obtain⟨o,ho,hc,hd⟩:=id hit
 obtain⟨ol,hol,_,nl,hdl⟩:=ht
 unfold Builtin.SmallTypes.nextOf
 refine wpAny_bind (wpAny_callSpecial?_slot (name:=Str.ofString "__next__") hit.typeIs F.slot_tuple_iterator_next
  (wpAny_call_entry F.slot_tuple_iterator_next hit.typeIs F.entry_tuple_iterator_next ?_ (F.args_tuple_iterator_next_1 _)))
 show wpAny _ _ (field (.ref it) 0>>=_) _ _ s
 refine wpAny_bind (wpAny_field ho hd (x:=.ref t) rfl ?_)
 show wpAny _ _ (if(Value.ref t==Value.none)=true then _ else _) _ _ s
 rw[if_neg (show ¬((Value.ref t==Value.none)=true)from aJ)]
 show wpAny _ _ (field (.ref it) 1>>=_) _ _ s
 refine wpAny_bind (wpAny_field ho hd (x:=.int i 0) rfl ?_)
 show wpAny _ _ (seqItems? (.ref t)>>=_) _ _ s
 refine wpAny_bind (wpAny_seqItems hol hdl ?_)
 simp only[eY,hx]
 refine wpAny_bind (wpAny_setField ho hd (by simp) (wpAny_pure ⟨x,rfl,wpAny_pure (hQ _ ?_ (Heap.SameBut.update ..))⟩))
 exact⟨_,Heap.get?_update_self _ ho (Obj.isFreed_of_fields (Obj.data_mapFields hd _)),(Obj.cls_mapFields ..).trans hc,by
  rw[Obj.data_mapFields hd];simp[rawInt]⟩
theorem zQ{it t:Addr}{i:Nat}{items:Array Value}{Q:Value->Shared->Prop}(hh:A.handled=none)(hit:s.heap.IsTupleIter it t i)(ht:s.heap.IsTuple t items)(hx:items[i]?=none)
 (hE:∀h' e,Heap.ExtBut it s.heap h'->(∃o,h'.get? e=some o/\o.cls=.type "StopIteration")->E (.ref e) {s with heap:=h' }):wpAny (model prog w) A (Builtin.SmallTypes.nextOf (.ref it)) Q E s:=by
 obtain⟨o,ho,hc,hd⟩:=id hit
 obtain⟨ol,hol,_,nl,hdl⟩:=ht
 unfold Builtin.SmallTypes.nextOf
 refine wpAny_bind (wpAny_callSpecial?_slot (name:=Str.ofString "__next__") hit.typeIs F.slot_tuple_iterator_next
  (wpAny_call_entry F.slot_tuple_iterator_next hit.typeIs F.entry_tuple_iterator_next ?_ (F.args_tuple_iterator_next_1 _)))
 show wpAny _ _ (field (.ref it) 0>>=_) _ _ s
 refine wpAny_bind (wpAny_field ho hd (x:=.ref t) rfl ?_)
 show wpAny _ _ (if(Value.ref t==Value.none)=true then _ else _) _ _ s
 rw[if_neg (show ¬((Value.ref t==Value.none)=true)from aJ)]
 show wpAny _ _ (field (.ref it) 1>>=_) _ _ s
 refine wpAny_bind (wpAny_field ho hd (x:=.int i 0) rfl ?_)
 show wpAny _ _ (seqItems? (.ref t)>>=_) _ _ s
 refine wpAny_bind (wpAny_seqItems hol hdl ?_)
 simp only[eY,hx]
 refine wpAny_bind (wpAny_rule (wpAny_bind (wpAny_setField ho hd (by simp) ?_)))
 show wpAny _ _ (newExc (.type "StopIteration") []>>=_) _ _ _
 refine wpAny_bind ?_
 simp only[newExc,newTuple]
 refine wpAny_bind (wpAny_newObj_type ?_ (by size_fits))
 refine wpAny_bind (m:=firstArgMember _ _) (wpAny_of_eq (a:=Value.none) (by first|rfl|(simp only[firstArgMember];rfl)) ?_)
 refine wpAny_newObj_type ?_ (by size_fits)
 simp only[raiseNew]
 refine wpAny_bind (wpAny_handled ?_)
 first|rw[show A.in1.handled=none from hh]|rw[hh]
 refine wpAny_bind (wpAny_pure (wpAny_throw ?_))
 exact hE _ _ (((Heap.SameBut.update ..).extBut.push _).push _) ⟨_,Heap.get?_push_size _ rfl,rfl⟩
end
theorem tup_at{h h':Heap}{a:Addr}{items:Array Value}(x:h.IsTuple a items)(e:∀o,h.get? a=some o->h'.get? a=some o):h'.IsTuple a items:=let ⟨o,ho,r⟩:=x;⟨o,e _ ho,r⟩
theorem Hf{prog:Program}{w:World}{A:Around}(hh:A.handled=none)(it t:Addr)(hne:t≠it)(items:Array Value) :
 Draws prog w A it [it,t] items.size (λi v=>items[i]?=some v) (λi h=>h.IsTupleIter it t i/\h.IsTuple t items) where
 live:=λ_ _ st=>let ⟨o,ho,_⟩:=st.1;⟨o,ho⟩
 frame:=λ_ _ _ st hk=>⟨st.1.at λo e=>hk it (by simp) o e,tup_at st.2 λo e=>hk t (by simp) o e⟩
 item:=λi s Q E hi st hQ=>He st.1 st.2 (x:=items[i]) (by simp[hi]) λh' hit' hs'=>hQ _ h' s.toks (by simp[hi]) ⟨hit',st.2.extBut hs'.extBut hne⟩ hs'
 done:=λs Q E st hE=>zQ hh st.1 st.2 (by simp) hE
end Tr
namespace Tr
open PySem PySem.Spec PyProof.Rows L2 PySem.SeqAt
noncomputable def ModS (K:PySem.W.Frag) (a:Addr) (ss:List Str):Prop:=∃(o:Obj) (its:Array Value) (n:Nat),K.lookup a=some o/\o.cls=.type "tuple" /\ o.dict=none/\o.data=.seq its n/\Vals (ss.map V.str) its.toList
end Tr
namespace Tr
open PySem PySem.Spec PyProof.Rows L2
noncomputable def met(val:Nat->Key):Nat->List Key
 |0=>[]
 |i+1=>if(met val i).any (λx=>decide (x=val i))then met val i else met val i++[val i]
section
variable{prog:Program}{w:World}{A:Around}{R:Result->Shared->Prop}{I:Addr}{fp wr:List Addr}{G:Array GenState->Array GenState->Prop}{n:Nat}{P:Nat->Value->Prop}{St:Nat->Shared->Prop}
end
section
variable{prog:Program}{w:World}{A:Around}{E:Value->Shared->Prop}{s:Shared}
end
section
variable{prog:Program}{w:World}{A:Around}{E:Value->Shared->Prop}{s:Shared}
end
variable{X:Cx}
theorem zR:cM X (.type "range") (λvs H Q=>∃n:Int,vs=[.int n]/\∀p,H p=none->Q (.ref p) (upd H p (.rng 0 n))):=by
 intro pins s σ H vs us Q I rv h
 obtain⟨n,rfl,q⟩:=h
 obtain⟨u,rfl,ru⟩:=rv.one
 obtain⟨t,rfl⟩:=ru
 refine call_range_1 ⟨.ref s.heap.objs.size,_,I.laid (t':=s.toks+1+1) (λb o e=>Heap.get?_push_of_some _ e) (aK _) ?_,rfl,q _ (I.hok.fresh (aK _))⟩
 exact⟨_,_,_,Heap.get?_push_size _ rfl⟩
theorem zS{a:Int}:∀{n:Nat} {its:List Value},its.length=n->(∀(j:Nat) v,its[j]?=some v->∃t,v=.int (a+(j:Nat)*1) t)->Vals ((aC n).map λi:Nat=>V.int (a+(i:Nat))) its:=by
 intro n
 induction n generalizing a with
 |zero=>
  intro its hl h
  rw[rM.mp hl]
  exact .nil
 |succ n ih=>
  intro its hl h
  cases its with
  |nil=>cases hl
  |cons v its=>
   rw[lY,aL,dQ]
   obtain⟨t,rfl⟩:=h 0 v rfl
   have r:=ih (a:=a+1) (its:=its) (by simpa using hl) (λj v hv=>by
    obtain⟨t,e⟩:=h (j+1) v (by simpa using hv)
    refine⟨t,?_⟩
    rw[e]
    congr 1
    push_cast
    lia)
   refine .cons ⟨t,by simp⟩ ?_
   have e:(aC n).map ((λi:Nat=>V.int (a+(i:Nat)))∘FK)=(aC n).map λi:Nat=>V.int (a+1+(i:Nat)):=by
    apply iU
    intro i _
    simp only[Function.comp]
    congr 1
    push_cast
    lia
   rw[e]
   exact r
theorem Hg (hc:X.calm=true):cM X (.type "list") (λvs H Q=>∃p n,vs=[.ref p]/\H p=some (.rng 0 n) /\ -(2^62)<=n/\n<2^62/\n<=(sizeLine:Nat)/\∀l,H l=none->Q (.ref l) (upd H l (.lst ((aC n.toNat).map λi:Nat=>V.int (0+(i:Nat)))))):=by
 intro pins s σ H vs us Q I rv h
 obtain⟨p,n,rfl,hH,h1,h2,h3,q⟩:=h
 obtain⟨u,rfl,ru⟩:=rv.one
 cases ru
 obtain⟨t,u,v,hr⟩:=I.hok p _ hH
 have hz:n.toNat<=sizeLine:=by lia
 have hz2:n.toNat<=2^24:=by
  have e:sizeLine=2^24:=by decide
  rw[<-e];exact hz
 refine call_list_range (n:=n.toNat) (I.ok.hd hc) hr (small_one (by lia) (by lia) h1 h2) (by rw[rangeSize_one];split<;>lia) hz2 λh' tk acc' c' hk hS hacc=>?_
 refine⟨.ref s.heap.objs.size,_,I.laid (t':=tk) hk (aK _) ?_,rfl,q _ (I.hok.fresh (aK _))⟩
 refine⟨by simpa using hz,acc'.toList,c',zS (by simpa using hacc.1) (λj v hv=>?_),by simpa using hS⟩
 exact hacc.2 j v (by simpa using hv)
end Tr
namespace Tr
open PySem PySem.Spec PyProof.Rows L2
theorem vals_ints:∀{ns:List Int} {its:List Value},Vals (ns.map V.int) its->∃xs:List (Int×Tok),its=xs.map (λp=>Value.int p.1 p.2)/\xs.map (·.1)=ns
 |[],_,h=>by cases h;exact⟨[],rfl,rfl⟩
 |n::ns,_,h=>by
  cases h with
  |cons r rr=>
   obtain⟨t,rfl⟩:=r
   obtain⟨xs,rfl,e⟩:=vals_ints rr
   exact⟨(n,t)::xs,rfl,by rw[aL,e]⟩
section
variable{prog:Program}{w:World}{A:Around}{R:Result->Shared->Prop}{it:Addr}{fp wr:List Addr}{n:Nat}{P:Nat->Value->Prop}{St:Nat->Heap->Prop}
end
section
variable{prog:Program}{w:World}{A:Around}{E:Value->Shared->Prop}{s:Shared}
end
section
variable{prog:Program}{w:World}{A:Around}{R:Result->Shared->Prop}{I:Addr}{fp wr:List Addr}{G:Array GenState->Array GenState->Prop}{n:Nat}{P:Nat->Value->Prop}{St:Nat->Shared->Prop}
end
section
variable{prog:Program}{w:World}{A:Around}{E:Value->Shared->Prop}{s:Shared}
end
section
variable{prog:Program}{w:World}{A:Around}{E:Value->Shared->Prop}{s:Shared}
end
section
variable{prog:Program}{w:World}{A:Around}{E:Value->Shared->Prop}{s:Shared}
end
section
variable{prog:Program}{w:World}{A:Around}{E:Value->Shared->Prop}{s:Shared}
end
section
variable{prog:Program}{w:World}{A:Around}{E:Value->Shared->Prop}{s:Shared}
end
section
variable{prog:Program}{w:World}{A:Around}{E:Value->Shared->Prop}{s:Shared}{l:Addr}{xs:Array (Int×Tok)}
end
section
variable{prog:Program}{w:World}{A:Around}{E:Value->Shared->Prop}{s:Shared}{l:Addr}{its:List Value}
end
end Tr
namespace Tr
open PySem
theorem zT{α:Type}[DecidableEq α]:∀{l m:List α},l.Nodup->(∀x∈l,x∈m)->l.length<=m.length
 |[],_,_,_=>fU _
 |a::r,m,hn,h=>by
  obtain⟨h1,h2⟩:=oI.mp hn
  have ha:a∈m:=h a bF
  have hr:r.length<=(m.erase a).length:=zT h2 λx hx=>(List.mem_erase_of_ne (λ(e:x=a)=>h1 (by rw[<-e];exact hx))).mpr (h x (bG _ hx))
  rw[List.length_erase_of_mem ha]at hr
  have:0<m.length:=List.length_pos_of_mem ha
  rw[aN];lia
end Tr
namespace Tr
open PySem PySem.Spec PyProof.Rows L2
section
variable{prog:Program}{w:World}{A:Around}{E:Value->Shared->Prop}{s:Shared}
end
section
variable{prog:Program}{w:World}{A:Around}{E:Value->Shared->Prop}{s:Shared}
end
section
variable{prog:Program}{w:World}{A:Around}{E:Value->Shared->Prop}{s:Shared}
end
section
variable{prog:Program}{w:World}{A:Around}{R:Result->Shared->Prop}{I:Addr}{fp wr:List Addr}{G:Array GenState->Array GenState->Prop}{n:Nat}{P:Nat->Value->Prop}{St:Nat->Shared->Prop}
end
section
variable{prog:Program}{w:World}{A:Around}{E:Value->Shared->Prop}{s:Shared}
end
section
variable{prog:Program}{w:World}{A:Around}{E:Value->Shared->Prop}{s:Shared}
end
end Tr
namespace Tr
open PySem PySem.Spec PyProof.Rows L2 PySem.SeqAt
end Tr
namespace Tr
open PySem PySem.Spec PyProof.Rows L2
theorem sS:∀{ns:List Int} {vs:List Value},Vals (ns.map V.int) vs->IntsAre vs ns
 |[],vs,r=>by cases r;exact .nil
 |n::ns,vs,r=>by
  cases r with
  |cons r1 r=>
   obtain⟨t,rfl⟩:=r1
   exact .cons _ _ (sS r)
theorem kv_get{ps:List (Key×V)}{vs:List (Key×Value)}(r:KV ps vs){i:Nat}{k:Key}{v:V}(h:ps[i]?=some (k,v)):∃u,vs[i]?=some (k,u):=by
 have e:=congrArg (λl=>l[i]?) r.keys
 simp only[bX,h]at e
 cases hv:vs[i]? with
 |none=>rw[hv]at e;cases e
 |some q=>
  rw[hv]at e
  injection e with e
  exact⟨q.2,by rw[show k=q.1 from e]⟩
theorem Hh{P:Program}{w:World}{k:Key}{u:Value}(h:(dF P w).is k u=true):RelV (kV k) u:=by
 rcases gQ h with⟨i,t,rfl,rfl⟩|⟨x,t,rfl,rfl⟩
 ·exact⟨t,rfl⟩
 ·exact⟨t,rfl⟩
theorem freeze{X:Cx}{pins:List (Addr×Obj)}{σ:L2.St}{H:Hp}{s:Shared}{a:Addr}{ps:List (Key×V)}(I:Inv X pins σ H s)(h:H a=some (.dK ps)) :
 ∃o es ep,o.data=.dict es ep/\Inv X pins σ (L2.upd H a (.frz o (.dK ps))) s:=by
 have hk:=(show ObjOk X.prog X.w H s.heap a (.dK ps)from I.hok a _ h)
 obtain⟨e2,e3,vs,e4,o,es,ep,g1,g2,g3,g4⟩:=id hk
 have ne:∀{b u},H b=some u->u≠.dK ps->b≠a:=λx1 x2 z=>by rw[z,h]at x1;cases x1;exact x2 rfl
 refine⟨o,es,ep,g3,?_⟩
 refine I.step (h':=s.heap) (g':=s.gens) (d':=s.drawn) (t':=s.toks) (ch:=[]) (λb hb=>by cases hb) (λb u _ _ _ x1 _=>x1) (λb u _ _ _ x1 _=>⟨u.slots,x1⟩) (λb u _ x1 x2=>?_) (λb u _ x1=>⟨u,x1⟩) (λb xs x1=>?_) (λb v w x1=>?_) (λb ps x1=>⟨#[],?_⟩) (λm x1=>x1) (λb v x1=>?_) I.bare
 ·rw[aG (λz=>by rw[z,h]at x2;cases x2)];exact x2
 ·rw[aG (ne x1 (λz=>by cases z))];exact x1
 ·rw[aG (ne x1 (λz=>by cases z))];exact x1
 ·rw[aG (ne x1 (λz=>by cases z))];simpa using x1
 ·by_cases z:b=a
  ·rw[z,bA]at x1
   cases x1
   rw[z]
   exact⟨g1,e2,e3,vs,e4,o,es,ep,g1,g2,g3,g4⟩
  ·rw[aG z]at x1
   exact(I.hok b v x1).stay (λc u _ y1=>y1) (λc y1=>by rw[aG (ne y1 (λz=>by cases z))];exact y1) (λc xs y1=>by rw[aG (ne y1 (λz=>by cases z))];exact y1) λc ob u y1=>by rw[aG (ne y1 (λz=>by cases z))];exact y1
noncomputable def RawD(h:Heap)(d:Addr)(es:Array DictEntry)(ep:Nat):Prop:=∃o,h.get? d=some o/\o.ExactDict/\o.data=.dict es ep
section
variable{prog:Program}{w:World}{A:Around}{E:Value->Shared->Prop}{s:Shared}{d it:Addr}{es:Array DictEntry}{ep i:Nat}
theorem RawD.ty (h:RawD s.heap d es ep):s.TypeIs (.ref d) "dict" := let ⟨o,a,b,_⟩:=h;⟨o,a,b.1⟩
theorem Hj{Q:Value->Shared->Prop}(nd:(d==sysModules)=false)(h:RawD s.heap d es ep)
 (q:Q (.ref s.heap.objs.size) {s with heap:=s.heap.push {cls:=.type "dict_keyiterator", data:=.fields #[.ref d,.int 0 0,.int es.size 0,.int ep 0] } }):wpAny (model prog w) A (pyIter (.ref d)) Q E s:=by
 have ty:=h.ty
 obtain⟨o,g1,g2,g3⟩:=h
 apply wpAny_pyIter_slot ty F.slot_dict_iter
 apply wpAny_call_entry F.slot_dict_iter ty F.entry_dict_iter _ (F.args_dict_iter_1 _)
 unfold Builtin.«dict.__iter__»;apply wpAny_bind;unfold Builtin.Dict.dictSlotNone;apply wpAny_bind;apply wpAny_notOrdered_dict ty
 apply(wpAny_pure _:wpAny _ _ (pure (Value.ref d)) _ _ s);show wpAny _ _ (Builtin.Dict.showsAll d>>=_) _ _ s
 unfold Builtin.Dict.showsAll;rw[if_neg (by rw[nd];exact aJ)];apply wpAny_bind;apply wpAny_pure
 apply wpAny_bind;apply wpAny_dictEntries g1 g3;apply wpAny_bind;apply wpAny_dictEpoch g1 g3
 refine wpAny_bind (wpAny_newObj_type ?_ (by size_fits));apply wpAny_pure
 exact⟨_,rfl, "dict_keyiterator", _,⟨_,Heap.get?_push_size _ rfl,rfl⟩,F.slot_dict_keyiterator_next.lookup,by simpa[rawInt]using q⟩
theorem Hk{Q:Option Value->Shared->Prop}{en:DictEntry}(hi:s.heap.IsKeyIter it d i es.size ep)(h:RawD s.heap d es ep)(hx:es[i]?=some en)
 (q:∀h',h'.IsKeyIter it d (i+1) es.size ep->Heap.SameBut it s.heap h'->Q (some en.key) {s with heap:=h' }):wpAny (model prog w) A (pyNext (.ref it)) Q E s:=by
 obtain⟨u,k1,k2,k3⟩:=id hi
 obtain⟨o,g1,g2,g3⟩:=h
 unfold pyNext;apply wpAny_bind;apply wpAny_attempt;apply wpAny_callSpecial?_slot (name:=Str.ofString "__next__") hi.typeIs F.slot_dict_keyiterator_next
 apply wpAny_call_entry F.slot_dict_keyiterator_next hi.typeIs F.entry_dict_keyiterator_next _ (F.args_dict_keyiterator_next_1 _)
 apply wpAny_bind;apply wpAny_pure;apply wpAny_bind;apply wpAny_bind
 first|(apply wpAny_bind;apply wpAny_typeNameOfWhole_keyiter hi.typeIs;apply wpAny_pure)|(apply wpAny_bind;apply wpAny_typeNameOf_keyiter hi.typeIs;apply wpAny_pure)
 apply wpAny_bind;apply wpAny_fieldsOf k1 k3
 have no:Builtin.Dict_items.ownsTuple "dict_keyiterator" = false:=by decide
 simp only[no,jQ,if_false];show wpAny _ _ (if(Value.ref d==Value.none)=true then _ else _) _ _ s
 rw[if_neg (show ¬((Value.ref d==Value.none)=true)from aJ)];apply wpAny_bind;apply wpAny_pure
 apply wpAny_bind;apply wpAny_dictEntries g1 g3;rw[if_neg (by simp)];apply wpAny_bind;apply wpAny_pure
 apply wpAny_bind;apply wpAny_dictEpoch g1 g3;rw[if_neg (by simp)];apply wpAny_pure
 simp only[show ¬((i:Int)<0)from by lia,if_false,eY,hx]
 apply wpAny_bind
 first|(apply wpAny_bind;apply wpAny_typeNameOfWhole_keyiter hi.typeIs;apply wpAny_pure)|(apply wpAny_bind;apply wpAny_typeNameOf_keyiter hi.typeIs;apply wpAny_pure)
 apply wpAny_bind;apply wpAny_isOneOf_keyiter hi.typeIs;show wpAny _ _ (setField (.ref it) 1 (rawInt ((i:Int)+1))>>=_) _ _ s
 apply wpAny_bind;apply wpAny_setField k1 k3 (by simp)
 have hi2:(s.heap.update it (Obj.mapFields (·.setIfInBounds 1 (rawInt ((i:Int)+1))))).IsKeyIter it d (i+1) es.size ep:=⟨_,Heap.get?_update_self _ k1 (Obj.isFreed_of_fields (Obj.data_mapFields k3 _)),(Obj.cls_mapFields ..).trans k2,by rw[Obj.data_mapFields k3];simp[rawInt]⟩
 apply wpAny_bind;apply wpAny_holding;apply wpAny_bind
 apply wpAny_isOneOf_keyiter (s:={s with heap:=s.heap.update it (Obj.mapFields (·.setIfInBounds 1 (rawInt ((i:Int)+1)))) }) hi2.typeIs
 show wpAny _ _ (pure en.key) _ _ _;apply wpAny_pure;apply wpAny_pure;exact⟨_,rfl,wpAny_pure (q _ hi2 (Heap.SameBut.update ..))⟩
theorem Hl{Q:Option Value->Shared->Prop}(hh:A.handled=none)(hi:s.heap.IsKeyIter it d i es.size ep)(h:RawD s.heap d es ep)(hx:es[i]?=none)
 (q:∀h',Heap.ExtBut it s.heap h'->Q none {s with heap:=h' }):wpAny (model prog w) A (pyNext (.ref it)) Q E s:=by
 obtain⟨u,k1,k2,k3⟩:=id hi
 obtain⟨o,g1,g2,g3⟩:=h
 unfold pyNext;apply wpAny_bind;apply wpAny_attempt;apply wpAny_callSpecial?_slot (name:=Str.ofString "__next__") hi.typeIs F.slot_dict_keyiterator_next
 apply wpAny_call_entry F.slot_dict_keyiterator_next hi.typeIs F.entry_dict_keyiterator_next _ (F.args_dict_keyiterator_next_1 _)
 apply wpAny_bind;apply wpAny_pure;apply wpAny_bind;apply wpAny_bind
 first|(apply wpAny_bind;apply wpAny_typeNameOfWhole_keyiter hi.typeIs;apply wpAny_pure)|(apply wpAny_bind;apply wpAny_typeNameOf_keyiter hi.typeIs;apply wpAny_pure)
 apply wpAny_bind;apply wpAny_fieldsOf k1 k3
 have no:Builtin.Dict_items.ownsTuple "dict_keyiterator" = false:=by decide
 simp only[no,jQ,if_false];show wpAny _ _ (if(Value.ref d==Value.none)=true then _ else _) _ _ s
 rw[if_neg (show ¬((Value.ref d==Value.none)=true)from aJ)];apply wpAny_bind;apply wpAny_pure
 apply wpAny_bind;apply wpAny_dictEntries g1 g3;rw[if_neg (by simp)];apply wpAny_bind;apply wpAny_pure
 apply wpAny_bind;apply wpAny_dictEpoch g1 g3;rw[if_neg (by simp)];apply wpAny_pure
 simp only[show ¬((i:Int)<0)from by lia,if_false,eY,hx]
 apply wpAny_bind
 first|(apply wpAny_bind;apply wpAny_typeNameOfWhole_keyiter hi.typeIs;apply wpAny_pure)|(apply wpAny_bind;apply wpAny_typeNameOf_keyiter hi.typeIs;apply wpAny_pure)
 show wpAny _ _ (setField (.ref it) 0 .none>>=_) _ _ s;apply wpAny_bind;apply wpAny_setField k1 k3 (by simp)
 show wpAny _ _ (newExc (.type "StopIteration") []>>=_) _ _ _;apply wpAny_bind;simp only[newExc,newTuple]
 refine wpAny_bind (wpAny_newObj_type ?_ (by size_fits));refine wpAny_bind (m:=firstArgMember _ _) (wpAny_of_eq (a:=Value.none) (by first|rfl|(simp only[firstArgMember];rfl)) ?_)
 refine wpAny_newObj_type ?_ (by size_fits);simp only[raiseNew];apply wpAny_bind;apply wpAny_handled;rw[show A.in1.handled=none from hh]
 refine wpAny_bind (wpAny_pure (wpAny_throw ?_));refine wpAny_bind (wpAny_isInstance (b:=true) (T := "StopIteration") ⟨_,Heap.get?_push_size _ rfl,rfl⟩ isSubtype_stop ?_)
 exact wpAny_pure (q _ (((Heap.SameBut.update ..).extBut.push _).push _))
end
variable{ps:List (List Key×V)}
theorem zU{X:Cx}{pins:List (Addr×Obj)}{σ:L2.St}{H:Hp}{s:Shared}{a:Addr}(I:Inv X pins σ H s)(h:H a=some (.dT ps)) :
 ∃o es ep,o.data=.dict es ep/\Inv X pins σ (L2.upd H a (.frz o (.dT ps))) s:=by
 have hk:=(show ObjOk X.prog X.w H s.heap a (.dT ps)from I.hok a _ h)
 obtain⟨e2,e3,xs,e4,o,es,ep,g1,g2,g3,g4⟩:=id hk
 have ne:∀{b u},H b=some u->u≠.dT ps->b≠a:=λx1 x2 z=>by rw[z,h]at x1;cases x1;exact x2 rfl
 refine⟨o,es,ep,g3,?_⟩
 refine I.step (h':=s.heap) (g':=s.gens) (d':=s.drawn) (t':=s.toks) (ch:=[]) (λb hb=>by cases hb) (λb u _ _ _ x1 _=>x1) (λb u _ _ _ x1 _=>⟨u.slots,x1⟩) (λb u _ x1 x2=>?_) (λb u _ x1=>⟨u,x1⟩) (λb xs x1=>?_) (λb v w x1=>?_) (λb ps x1=>⟨#[],?_⟩) (λm x1=>x1) (λb v x1=>?_) I.bare
 ·rw[aG (λz=>by rw[z,h]at x2;cases x2)];exact x2
 ·rw[aG (ne x1 (λz=>by cases z))];exact x1
 ·rw[aG (ne x1 (λz=>by cases z))];exact x1
 ·rw[aG (ne x1 (λz=>by cases z))];simpa using x1
 ·by_cases z:b=a
  ·rw[z,bA]at x1
   cases x1
   rw[z]
   exact⟨g1,e2,e3,xs,KT.keeps e4 λc ys ec=>by rw[aG (ne ec (λz=>by cases z))];exact ec,o,es,ep,g1,g2,g3,g4⟩
  ·rw[aG z]at x1
   exact(I.hok b v x1).stay (λc u _ y1=>y1) (λc y1=>by rw[aG (ne y1 (λz=>by cases z))];exact y1) (λc xs y1=>by rw[aG (ne y1 (λz=>by cases z))];exact y1) λc ob u y1=>by rw[aG (ne y1 (λz=>by cases z))];exact y1
noncomputable def zV(H:Hp)(a:Addr)(o:Obj)(n:Nat)(i:Nat)(x:Option V):Prop:=
 (∃ps:List (Key×V),H a=some (.frz o (.dK ps))/\ps.length=n/\x=(ps[i]?).map λq=>kV q.1) \/
 (∃ps:List (List Key×V),H a=some (.frz o (.dT ps))/\ps.length=n/\((ps[i]?=none/\x=none)\/∃q b,ps[i]?=some q/\x=some (.ref b)/\H b=some (.tup (q.1.map kV))))
noncomputable def Itk(a:Addr)(o:Obj)(n:Nat):It:=
 ⟨λi H=>(∃ps:List (Key×V),H a=some (.frz o (.dK ps))/\ps.length=n/\i<n)\/∃ps:List (List Key×V),H a=some (.frz o (.dT ps))/\ps.length=n/\i<n,λi H x H'=>H'=H/\zV H a o n i (some x),
  λi H=>((∃ps:List (Key×V),H a=some (.frz o (.dK ps))/\ps.length=n)\/∃ps:List (List Key×V),H a=some (.frz o (.dT ps))/\ps.length=n)/\n<=i⟩
section
variable{X:Cx}{pins:List (Addr×Obj)}{σ:L2.St}{H:Hp}{s:Shared}{a:Addr}{o:Obj}{es:Array DictEntry}{ep:Nat}
theorem zW{ps:List (Key×V)}(I:Inv X pins σ H s)(h:H a=some (.frz o (.dK ps)))(hd:o.data=.dict es ep):RawD s.heap a es ep/\(a==sysModules)=false/\es.size=ps.length/\∀(i:Nat)(q:Key×V),ps[i]?=some q->∃en:DictEntry,es[i]?=some en/\RelV (kV q.1) en.key:=by
 obtain⟨e1,e2,e3,vs,e4,o',es',ep',g1,g2,g3,g4,g5,g6⟩:=(show ObjOk X.prog X.w H s.heap a (.frz o (.dK ps))from I.hok a _ h)
 rw[e1]at g1
 cases g1
 rw[hd]at g3
 cases g3
 have hl:=e4.length
 have hs:es.size=ps.length:=by rw[hl,<-g5.length];simp
 refine⟨⟨o,e1,g2,hd⟩,e3,hs,λi q hq=>?_⟩
 obtain⟨u,hu⟩:=kv_get e4 (k:=q.1) (v:=q.2) hq
 have hi:i<es.size:=by
  rw[hs]
  by_cases z:i<ps.length
  ·exact z
  ·rw[jR (by lia)]at hq;cases hq
 exact⟨es[i],Array.getElem?_eq_getElem hi,Hh (g5.get? (e:=es[i]) (by simp[hi]) hu).1⟩
theorem sT(I:Inv X pins σ H s)(h:H a=some (.frz o (.dT ps)))(hd:o.data=.dict es ep):RawD s.heap a es ep/\(a==sysModules)=false/\es.size=ps.length/\∀(i:Nat)(q:List Key×V),ps[i]?=some q->∃(en:DictEntry)(b:Addr),es[i]?=some en/\en.key=.ref b/\H b=some (.tup (q.1.map kV)):=by
 obtain⟨e1,e2,e3,xs,e4,o',es',ep',g1,g2,g3,g4,g5⟩:=(show ObjOk X.prog X.w H s.heap a (.frz o (.dT ps))from I.hok a _ h)
 rw[e1]at g1
 cases g1
 rw[hd]at g3
 cases g3
 have hl:=Paired.length e4
 have hs:es.size=ps.length:=by rw[hl,<-oG,g4,aI]
 refine⟨⟨o,e1,g2,hd⟩,e3,hs,λi q hq=>?_⟩
 have get:∀{l:List (List Key×V)} {m:List (List Key×Addr×Value)},KT H l m->∀{i:Nat} {q:List Key×V},l[i]?=some q->∃z,m[i]?=some z/\H z.2.1=some (.tup (q.1.map kV)):=by
  intro l m k
  induction k with
  |nil=>intro i q z;simp at z
  |cons hq t ih=>
   intro i q z
   cases i with
   |zero=>cases z;exact⟨_,rfl,hq.2.1⟩
   |succ j=>exact ih (by simpa using z)
 obtain⟨z,hz,ht⟩:=get e4 hq
 refine⟨entryOfKey (tupleKind (dF X.prog X.w)) z,z.2.1,?_,rfl,ht⟩
 rw[<-xD,g4,bX,hz];rfl
end
theorem Hm{P:Program}{w:World}{K:PySem.W.Frag}{tg:Expr}{o:Obj}{es:Array DictEntry}{ep:Nat}(hd:o.data=.dict es ep)(a it:Addr)(n:Nat)(hn:es.size=n) :
 Turn P w K tg (Itk a o n) [it] it (λi h=>h.IsKeyIter it a i n ep) where
 mem:=by simp
 obj:=λi h st b hb=>by
  have e:b=it:=by simpa using hb
  subst e
  obtain⟨o,e,c,d⟩:=st
  exact⟨o,e,λv z=>by rw[d]at z;cases z⟩
 keep:=λi h h' st k=>by
  obtain⟨u,h1,h2⟩:=st
  exact⟨u,k it (by simp) u h1,h2⟩
 item:=by
  intro X hP hw hK hc i pins s σ H E I hf st hg
  subst hP hw hK hn
  obtain⟨f0,f1,f2,f3,f4,f5⟩:=hf it (by simp)
  have fin:∀en,RawD s.heap a es ep->es[i]?=some en->(∃x,RelV x en.key/\zV H a o es.size i (some x))->wpAny (model X.prog X.w) X.A (pyNext (.ref it)) (λr s1=>∃u,r=some u /\
   wpAny (model X.prog X.w) X.A (letOwnedTupleGo tg (.ref it) u) (λ_ s2=>∃x H',Inv X pins σ H' s2/\RelV x u/\(Itk a o es.size).yld i H x H'/\s2.heap.IsKeyIter it a (i+1) es.size ep/\∀b∈[it],H' b=none) E s1) E s:=by
   intro en rw' hx ⟨x,r1,r2⟩
   refine Hk st rw' hx λh' st2 sb=>?_
   have I1:Inv X pins σ H {s with heap:=h' }:=I.turned (t':=s.toks) (λb o hb e=>(sb.2 b hb).trans e) f0 f1 f3 f4 f5
   obtain⟨o',e,c,d⟩:=id st2
   exact⟨_,rfl,oT (s:={s with heap:=h' }) e c d (by decide) ⟨x,H,I1,r1,⟨rfl,r2⟩,st2,λb hb=>(hf b hb).1⟩⟩
  rcases hg with⟨ps,h1,h2,h3⟩|⟨ps,h1,h2,h3⟩
  ·obtain⟨x1,x2,x3,x4⟩:=zW I h1 hd
   obtain⟨en,y1,y2⟩:=x4 i ps[i] (aP (by lia))
   exact fin en x1 y1 ⟨_,y2,.inl ⟨ps,h1,h2,by rw[aP (by lia)];rfl⟩⟩
  ·obtain⟨x1,x2,x3,x4⟩:=sT I h1 hd
   obtain⟨en,b,y1,y2,y3⟩:=x4 i ps[i] (aP (by lia))
   exact fin en x1 y1 ⟨.ref b,by rw[y2];rfl,.inr ⟨ps,h1,h2,.inr ⟨_,b,aP (by lia),rfl,y3⟩⟩⟩
 done:=by
  intro X hP hw hK hc i pins s σ H E I hf st hg
  subst hP hw hK hn
  obtain⟨f0,f1,f2,f3,f4,f5⟩:=hf it (by simp)
  obtain⟨hg,hi⟩:=hg
  have rw':RawD s.heap a es ep:=by
   rcases hg with⟨ps,h1,h2⟩|⟨ps,h1,h2⟩
   ·exact(zW I h1 hd).1
   ·exact(sT I h1 hd).1
  exact Hl (I.ok.hd hc) st rw' (Array.getElem?_eq_none hi) λh' eb=>⟨rfl,I.turned (t':=s.toks) (λb o hb e=>eb b o hb e) f0 f1 f3 f4 f5⟩
 self:=λ_ _ _ _ _ st h=>wpAny_pyIter_keyiter st h
end Tr
namespace Tr
open PySem PySem.Spec PyProof.Rows L2
section
variable{prog:Program}{w:World}{A:Around}{E:Value->Shared->Prop}{s:Shared}{l:Addr}{its:List Value}{n:Nat}
theorem Hn {k:Int} {t:Tok} {Q:Value->Shared->Prop} {dd:Option Addr} {sl:Array (Option Value)} (hl:s.heap.get? l=some {cls:=.type "list", dict:=dd,data:=.seq its.toArray n,slots:=sl}) (h1:its.length=1) (hk:0<=k/\k<=1000)
 (h:Q (.ref s.heap.objs.size) {s with heap:=s.heap.push {cls:=.type "list", data:=.seq (aQ k.toNat its).flatten.toArray} }):wpAny (model prog w) A (binaryOp .Mult (.ref l) (.int k t)) Q E s:=by
 have hsz:its.toArray.size=1:=by rw[bI];exact h1
 have hne:its.toArray.isEmpty=false:=by
  cases its with
  |nil=>cases h1
  |cons _ _=>rfl
 have hf:List.foldl (λx1 x2=>x1++x2) #[] (aQ (if its.toArray.isEmpty=true then 0 else k.toNat) its.toArray)=(aQ k.toNat its).flatten.toArray:=by
  rw[hne,if_neg aJ]
  have:=yM its k.toNat []
  rw[kP]at this
  exact this
 have ty:s.TypeIs (.ref l) "list" := ⟨_,hl,rfl⟩
 apply wpAny_binaryOp_repeat_ref (T := "list") (U := "int") (by decide) ty (λs'=>typeIs_int s' k t) PySem.noFill_list_mul PySem.F.fills_int_mul PySem.F.slot_int_rmul PySem.repeat_list PySem.F.slot_int_index.lookup
 apply call_meets PySem.F.slot_int_rmul (typeIs_int s k t) PySem.F.entry_int_rmul (PySem.F.args_int_rmul_2 _ _) (lm_int_rmul_list_any k t l its.toArray n dd sl)
 refine⟨hl,rfl,ty,call_meets PySem.F.slot_list_mul ty PySem.F.entry_list_mul (PySem.F.args_list_mul_2 _ _) (lm_list_mul_any l its.toArray n dd sl k t (by simp[Builtin.List.listFitsIndex];lia) (by rw[hsz];lia) (by rw[hsz];simp[Builtin.List.listTooLong,sizeLine];lia)) ⟨hl,?_⟩⟩
 rw[hf]
 exact h
end
section
variable{prog:Program}{w:World}{A:Around}{E:Value->Shared->Prop}{s:Shared}{r:Addr}{a b c:Int}{t u v:Tok}{n:Nat}
theorem Ho{Q:List Value->Shared->Prop}(hh:A.handled=none)(hr:IsRange s.heap r a b c t u v)(sm:Builtin.Range.small a b c=true)(hn:Builtin.Range.rangeSize a b c=n)(hl:n<=2^24)
 (q:∀h' tk acc,(∀x o,s.heap.get? x=some o->h'.get? x=some o)->ItemsOf (λi v=>∃t,v=.int (a+i*c) t) acc n->Q acc.toList {s with heap:=h',toks:=tk}):wpAny (model prog w) A (collect (.ref r)) Q E s:=by
 unfold collect;refine wpAny_bind (wpAny_runValue (codeAny_builtin F.entry_proto_collect ?_));rw[Around.under_plainId F.plain_proto_collect _]
 show wpAny _ A.in1 (newList []>>=λl=>again (.builtin "list.__iadd__" ⟨[l,.ref r],[]⟩)) _ _ s;refine wpAny_bind (wpAny_newObj_type ?_)
 refine wpAny_pure ⟨plainId_quiet F.plain_list_iadd _,codeAny_builtin F.entry_list_iadd ?_⟩;rw[Around.under_plainId F.plain_list_iadd _]
 have hS:(s.heap.push {cls:=.type "list", data:=.seq ([]:List Value).toArray}).get? s.heap.objs.size=some {cls:=.type "list", data:=.seq #[] }:=Heap.get?_push_size _ rfl
 have hr2:=Heap.get?_push_of_some {cls:=.type "list", data:=.seq ([]:List Value).toArray} hr
 show wpAny _ A.in1 (Builtin.List.listExtendWith (.ref s.heap.objs.size) (.ref r) (.ref s.heap.objs.size)) _ _ _
 have fin:∀h' tk acc c',(∀x o,x≠s.heap.objs.size->(s.heap.push {cls:=.type "list", data:=.seq ([]:List Value).toArray}).get? x=some o->h'.get? x=some o)->h'.get? s.heap.objs.size=some {cls:=.type "list", dict:=none,data:=.seq acc c',slots:=#[] }->ItemsOf (λi v=>∃t,v=.int (a+i*c) t) acc n ->
  wpAny (model prog w) A (load s.heap.objs.size>>=λo=>match o.data with | .seq xs _=>pure xs.toList|_=>unsupported "internal:collect") Q E {s with heap:=h',toks:=tk}:=λh' tk acc c' hk hS' hacc=>by
  refine wpAny_bind (wpAny_load hS' ?_)
  exact wpAny_pure (q h' tk acc (λx o e=>hk x o (cE (Heap.lt_size e)) (Heap.get?_push_of_some _ e)) hacc)
 refine wpAny_mono (wpAny_extend_range (prog:=prog) (w:=w) (A:=A) (R:=λr s'=>r=.ok (.ret (.ref s.heap.objs.size))/\wpAny (model prog w) A (load s.heap.objs.size>>=λo=>match o.data with | .seq xs _=>pure xs.toList|_=>unsupported "internal:collect") Q E s') (s:={s with heap:=s.heap.push {cls:=.type "list", data:=.seq ([]:List Value).toArray} }) hh hr2 sm hn hl _ _ _ hS λh' tk acc c' hk hS' hacc=>⟨rfl,fin h' tk acc c' hk hS' hacc⟩) (λf s' hf=>?_) (λe s' he=>by cases he.1)
 cases f with
 |done f=>
  obtain⟨e,hf⟩:=hf
  cases e
  exact hf
 |again c'=>
  refine⟨hf.1,codeAny_mono hf.2 λr s' hr=>?_⟩
  obtain⟨e,hr⟩:=hr
  subst e
  exact hr
theorem Hq(r:Addr)(a b c:Int)(t u v:Tok)(n:Nat)(sm:Builtin.Range.small a b c=true)(hn:Builtin.Range.rangeSize a b c=n)(hl:n<=2^24)(hz:n<=sizeLine) :
 Meets (Builtin.«tuple.__new__» ⟨[.type "tuple", .ref r],[]⟩) (λA R s=>A.handled=none/\IsRange s.heap r a b c t u v/\∀(h':Heap) (tk:Nat) (acc:Array Value),(∀b o,s.heap.get? b=some o->h'.get? b=some o)->ItemsOf (λi v=>∃t,v=.int (a+i*c) t) acc n ->
  R (.ok (.ret (.ref h'.objs.size))) {s with heap:=h'.push {cls:=.type "tuple", data:=.seq acc},toks:=tk}):=
 .of_wp λprog w A R s h=>by
  obtain⟨h1,hr,h⟩:=h
  have e1:=sub_tuple_self
  have e2:=init_tuple_lookup
  have e3:=madeHere_tuple
  have ty:s.TypeIs (.ref r) "range" := ⟨_,hr,rfl⟩
  have h2:A.in1.handled=none:=h1
  wp_walk using wpAny_typeOf ty,Ho h2 hr sm hn hl
  intro h' tk acc hk hacc
  show wpAny _ _ (Builtin.Tuple.tupleExact acc.toList.toArray>>=λv=>ret v) _ _ _;unfold Builtin.Tuple.tupleExact
  have e:acc.toList.toArray=acc:=by simp
  refine wpAny_bind (wpAny_newObj_type ?_ (by show acc.toList.toArray.size<=sizeLine;rw[e,hacc.1];exact hz));refine wpAny_pure ⟨_,rfl,?_⟩
  rw[e];exact h h' tk acc hk hacc
theorem Hr{Q:Value->Shared->Prop}(hh:A.handled=none)(hr:IsRange s.heap r a b c t u v)(sm:Builtin.Range.small a b c=true)(hn:Builtin.Range.rangeSize a b c=n)(hl:n<=2^24)(hz:n<=sizeLine)
 (h:∀(h':Heap) (tk:Nat) (acc:Array Value),(∀b o,s.heap.get? b=some o->h'.get? b=some o)->ItemsOf (λi v=>∃t,v=.int (a+i*c) t) acc n->Q (.ref h'.objs.size) {s with heap:=h'.push {cls:=.type "tuple", data:=.seq acc},toks:=tk}) :
 wpAny (model prog w) A (call (.type "tuple") [.ref r]) Q E s:=by
 apply callType_new F.called_tuple (by decide) (F.typeCall_tuple_1 _) (F.newCall_tuple_1 _) (λobj=>F.args_object_init_2 obj _) F.entry_tuple_new (Hq r a b c t u v n sm hn hl hz)
 exact⟨hh,hr,λh' tk acc hk hacc=>⟨⟨_,Heap.get?_push_size _ rfl,rfl⟩,h h' tk acc hk hacc⟩⟩
end
theorem Hs {X:Cx} (hc:X.calm=true):cM X (.type "tuple") (λvs H Q=>∃p n,vs=[.ref p]/\H p=some (.rng 0 n) /\ -(2^62)<=n/\n<2^62/\n<=1000/\∀l,H l=none->Q (.ref l) (upd H l (.tup ((aC n.toNat).map λi:Nat=>V.int (0+(i:Nat)))))):=by
 intro pins s σ H vs us Q I rv h
 obtain⟨p,n,rfl,hH,h1,h2,h3,q⟩:=h
 obtain⟨u,rfl,ru⟩:=rv.one
 cases ru
 obtain⟨t,u,v,hr⟩:=I.hok p _ hH
 have hz:n.toNat<=sizeLine:=by rw[sizeLine_eq];lia
 refine Hr (n:=n.toNat) (I.ok.hd hc) hr (small_one (by lia) (by lia) h1 h2) (by rw[rangeSize_one];split<;>lia) (by lia) hz λh' tk acc hk hacc=>?_
 have I1:=I.kept (t':=tk) hk
 have sz:({s with heap:=h',toks:=tk}:Shared).heap.objs.size=h'.objs.size:=rfl
 refine⟨.ref h'.objs.size,_,I1.laid (t':=tk) (λb o e=>Heap.get?_push_of_some _ e) (aK _) ?_,rfl,q _ (I1.hok.fresh (aK _))⟩
 refine⟨by simpa using hz,acc.toList,zS (by simpa using hacc.1) (λj v hv=>?_),⟨_,Heap.get?_push_size _ rfl,rfl,0,by simp⟩⟩
 exact hacc.2 j v (by simpa using hv)
end Tr
namespace Tr
open PySem PySem.Spec PyProof.Rows L2 PySem.W
section
variable{α β:Type}
end
section
variable{P:Program}{w:World}{H H':Hp}{h h':Heap}{a:Addr}{o:HO}
end
noncomputable def CXE(P:Program)(w:World):CXT:=λouter H s E ev s'=>∃(ea:Addr)(cls a0:Value)(H':Hp)(B:Heap),ev=.ref ea/\s'.os=s.os/\AllBare s'.gens/\Un (frs outer) [] H H' s.heap s'.heap/\HOk P w H' s'.heap /\
 s.heap.get? ea=none/\H' ea=none/\Heap.FlyingW B outer ea cls a0 s'.heap/\(∀b o,s.heap.get? b=some o->b∉frs outer->∃u,B.get? b=some u)/\(∀b o,H' b=some o->∃u,B.get? b=some u)/\∃od,(∃oe,s'.heap.get? ea=some oe/\oe.dict=od)/\E cls od H'
theorem pF{P:Program}{w:World}{X:Cx}:kX (CXE P w) X E0:=by
 intro _ _ _ _ _ _ _ h
 obtain⟨_,_,_,_,_,_,_,_,_,_,_,_,_,_,_,_,_,z⟩:=h
 exact z.elim
section
variable{P:Program}{w:World}{K:PySem.W.Frag}{mg:Str->Option Value}{base:Heap}{N:List Str}{qual:Str}{scope:Scope}{f:Addr}{cd:Value}{A:Around}{outer:List Env}{sh:Shared}{H_h:Hp}{E:XK}
end
noncomputable abbrev bmV:List Value:=[.type "ValueError", .type "Exception", .type "BaseException", .type "object"]
section
variable{M:Model}{A:Around}{E:Value->Shared->Prop}{h:Heap}{g:Array GenState}{d:Drawn}{t:Nat}{os:OsState}
variable{nm q:Str}{C N:Addr}{bs bm:List Value}{hdct:Bool}{sn:List Str}{sub:List Value}{ab:Bool}{col:Option Bool}{dd:Option Addr}{k0 k1 k2 k3 k5:Option Value}{newId:String}
variable{nm' q':Str}{C' N':Addr}{bs' bm':List Value}{hdct':Bool}{sn':List Str}{sub':List Value}{ab':Bool}{col':Option Bool}{dd':Option Addr}{k0' k1' k2' k3' k5':Option Value}{newId':String}
end
section
variable{X:Cx}{pins:List (Addr×Obj)}{σ:L2.St}{H:Hp}{s:Shared}
end
section
variable{X:Cx}{pins:List (Addr×Obj)}{σ:L2.St}{H:Hp}{s s':Shared}
end
noncomputable abbrev newV:String := "ValueError.__new__"
noncomputable def cvK(K:PySem.W.Frag)(c:Str):Value:=match nsIn K mainGlobals c with
 |some (some v)=>v
 |_=>.none
structure ClsIs(K:PySem.W.Frag)(mg:Str->Option Value)(c:Str)(C:Addr):Prop where
 bound:mg c=some (.ref C)
 cv:cvK K c=.ref C
 exc:excIn K C bmV newV=true
end Tr
namespace Tr
open PySem PySem.Spec PyProof.Rows L2 PySem.W Builtin Builtin.ObjectAttr Builtin.Getset_descriptor
section
variable{prog:Program}{w:World}{A:Around}{E:Value->Shared->Prop}{K:PySem.W.Frag}{a C:Addr}{o:Obj}
end
end Tr
namespace Tr
open PySem PySem.Spec PyProof.Rows L2 PySem.W
section
variable{X:Cx}{pins:List (Addr×Obj)}{σ:L2.St}{H:Hp}{s:Shared}
end
section
variable{X:Cx}{body:List Stmt}{pos:Pos}{h₀:ExceptHandler}{hs:List ExceptHandler}
end
section
variable{prog:Program}{w:World}{A:Around}{E:Value->Shared->Prop}{h:Heap}{g:Array GenState}{d:Drawn}{t:Nat}{os:OsState}
variable{nm q:Str}{C N:Addr}{bs bm bmB:List Value}{hdct:Bool}{sn:List Str}{sub:List Value}{ab:Bool}{col:Option Bool}{dd:Option Addr}{k0 k1 k2 k3 k5:Option Value}{B Bn newId nid initId inN:String}{bmN:List Value}
end
section
variable{prog:Program}{w:World}{A:Around}{E:Value->Shared->Prop}{s:Shared}{env:Env}
variable{nm q:Str}{C N:Addr}{bs bm bmB:List Value}{hdct:Bool}{sn:List Str}{sub:List Value}{ab:Bool}{col:Option Bool}{dd:Option Addr}{k0 k1 k2 k3 k5:Option Value}{B Bn newId nid initId inN:String}{bmN:List Value}
end
end Tr
namespace Tr
open PySem PySem.Spec PyProof.Rows L2 PySem.W Builtin Builtin.ObjectAttr
section
variable{prog:Program}{w:World}{A:Around}{E:Value->Shared->Prop}{K:PySem.W.Frag}{h:Heap}{g:Array GenState}{d:Drawn}{tok:Nat}{os:OsState}
variable{nm q:Str}{C N x t:Addr}{bs bm:List Value}{sn:List Str}{sub:List Value}{ab:Bool}{col:Option Bool}{dd:Option Addr}{k0 k1 k2 k3 k5:Option Value}{newId:String}{name:Str}{v:Value}
end
end Tr
namespace Tr
open PySem PySem.Spec PyProof.Rows L2 PySem.W Builtin Builtin.ObjectAttr Builtin.Getset_descriptor
section
variable{prog:Program}{w:World}{A:Around}{E:Value->Shared->Prop}{K:PySem.W.Frag}{a C dx:Addr}{o:Obj}{name:Str}{v:Value}{m:Str->Option Value}
variable{nm q:Str}{N:Addr}{bs bm:List Value}{sn:List Str}{sub:List Value}{ab:Bool}{col:Option Bool}{dd:Option Addr}{k0 k1 k2 k3 k5:Option Value}{newId:String}
end
end Tr
namespace Tr
open PySem PySem.Spec PyProof.Rows L2 PySem.W
noncomputable def initIn(K:PySem.W.Frag)(C fI:Addr):Bool:=match K.lookup C with
 |some ⟨.type "type", _,.cls cd,sl⟩=>(match cd.mro,sl.toList with
  |.ref C'::bm,[_,_,_,_,some (.builtin n),_]=>C'==C&&(n==newV&&(!cd.hasDel&&(tailIn K bmV bm&&(nsOkIn K cd.ns&&(nsIn K cd.ns "__init__" == some (some (.ref fI))&&cd.hasDict)))))
  |_,_=>false)
 |_=>false
structure InitCls(K:PySem.W.Frag)(C fI:Addr)(f:Str):Prop where
 obj:initIn K C fI=true
 sa:findIn K (.ref C) "__setattr__" = some (some (.builtin "object.__setattr__"))
 no:findIn K (.ref C) f=some none
end Tr
namespace Tr
open PySem PySem.Spec PyProof.Rows L2
variable{a b:Addr}{Q:Bool->Shared->Prop}{h:Heap}{ks x y:List (List Int)}
section
variable{prog:Program}{w:World}
inductive Items2(prog:Program)(w:World)(h:Heap):List (List Int)->List Value->Prop
 |nil:Items2 prog w h [] []
 |cons {ks:List Int} {b:Addr} {kss:List (List Int)} {vs:List Value}:IsTupleKey (intKind prog w) h ks b->Items2 prog w h kss vs->Items2 prog w h (ks::kss) (.ref b::vs)
noncomputable def IsT2 (prog:Program) (w:World) (h:Heap) (kss:List (List Int)) (a:Addr):Prop:=∃o items n,h.get? a=some o/\o.cls=.type "tuple" /\ o.data=.seq items n/\Items2 prog w h kss items.toList
theorem Items2.inj{vs:List Value}(hx:Items2 prog w h x vs)(hy:Items2 prog w h y vs):x=y:=by
 induction hx generalizing y with
 |nil=>cases hy;rfl
 |cons h1 _ ih=>
  cases hy with
  |cons h2 t2=>rw[h1.inj h2,ih t2]
theorem IsT2.typeIs {s:Shared} {kss:List (List Int)} (x:IsT2 prog w s.heap kss a):s.TypeIs (.ref a) "tuple" := let ⟨o,_,_,ho,hc,_⟩:=x;⟨o,ho,hc⟩
theorem IsT2.inj(hx:IsT2 prog w h x a)(hy:IsT2 prog w h y a):x=y:=by
 obtain⟨o,items,n,ho,_,hd,hi⟩:=hx
 obtain⟨o',items',n',ho',_,hd',hi'⟩:=hy
 obtain rfl:o=o':=dJ.inj (ho.symm.trans ho')
 rw[hd]at hd'
 injection hd' with h1 _
 subst h1
 exact hi.inj hi'
theorem IsT2.keeps{h':Heap}{d:Addr}{o:Obj}{es ep}(x:IsT2 prog w h ks a)(ho:h.get? d=some o)(hd:o.data=.dict es ep)(hs:Heap.SameBut d h h'):IsT2 prog w h' ks a:=by
 obtain⟨o',items,n,ho',hc,hd',hi⟩:=x
 have hne:a≠d:=by
  rintro rfl
  obtain rfl:o'=o:=dJ.inj (ho'.symm.trans ho)
  rw[hd]at hd';exact nomatch hd'
 refine⟨o',items,n,(hs.2 a hne).trans ho',hc,hd',?_⟩
 clear hd' ho'
 generalize items.toList=l at hi
 induction hi with
 |nil=>exact .nil
 |cons h1 _ ih=>exact .cons (h1.keeps ho hd hs) ih
noncomputable def iK:List (List Int)->Nat
 |[]=>1
 |ks::r=>ks.length+1+iK r
variable{A:Around}{E:Value->Shared->Prop}{s:Shared}
theorem Ht{Q:Int->Shared->Prop}(hu:A.units+8<cLine)(hk:IsT2 prog w s.heap ks a)(h:Q (oP prog w ks) {s with toks:=s.toks+iK ks}) :
 wpAny (model prog w) A (pyHash (.ref a)) Q E s:=by
 have hT:=hk.typeIs
 obtain⟨o,items,n,ho,_,hd,hi⟩:=hk
 unfold pyHash
 first|unfold pyHashByItsType|skip
 first|refine wpAny_bind (wpAny_cRoomFor_or (.inr (by lia)) ?_)|skip
 refine wpAny_bind (wpAny_specialOf hT F.slot_tuple_hash.lookup ?_)
 show wpAny _ _ (if(some (Value.builtin "tuple.__hash__")==some Value.none)=true then _ else _) Q E s
 rw[if_neg (by rw[beq_builtin_none];exact aJ)]
 refine wpAny_bind (wpAny_specialOf hT F.slot_tuple_hash.lookup ?_)
 show wpAny _ _ (callSpecialIfBoundUnlessNone? (.ref a) "__hash__" _>>=_) Q E s
 refine wpAny_bind (wpAny_callSpecialIfBoundUnlessNone?_slot hT F.slot_tuple_hash (wpAny_call_entry F.slot_tuple_hash hT F.entry_tuple_hash ?_ (F.args_tuple_hash_1 _)))
 show wpAny _ _ (Builtin.Tuple.tupleItemsOf (.ref a)>>=_) _ _ s
 refine wpAny_bind (wpAny_tupleItemsOf ho hd ?_)
 refine wpAny_bind ?_
 rw[<-FL]
 refine wpAny_forIn_list _
  (λrest (b:Array Int) s'=>∃done left,ks=done++left/\Items2 prog w s.heap left rest/\b.toList=done.map (tupleKeyHash (intKind prog w))/\∃t,s'={s with toks:=t}/\t+iK left=s.toks+iK ks)
  _ ?_ ?_ _ _ ⟨[],ks,rfl,hi,rfl,s.toks,rfl,rfl⟩
 ·rintro x rest b s' ⟨done,left,rfl,hl,hb,t,rfl,ht⟩
  cases hl with
  | @cons k _ ks' _ h1 hl'=>
   have hroom:A.in1.in1.units<cLine:=by show A.units+1+1<cLine;lia
   refine wpAny_bind (wpAny_pyHash_tuple (knd:=intKind prog w) (s:={s with toks:=t}) (by first|exact hroom|(show A.units+1<cLine;lia)|(show A.units<cLine;lia)) h1 ?_)
   have ht2:t+(k.length+1)+iK ks'=s.toks+iK (done++k::ks'):=by rw[<-ht];show _=t+(k.length+1+iK ks');lia
   first
    |exact wpAny_pure ⟨done++[k],ks',by simp,hl',by simp[hb],_,rfl,ht2⟩
    |exact wpAny_bind (wpAny_pure (wpAny_pure ⟨done++[k],ks',by simp,hl',by simp[hb],_,rfl,ht2⟩))
 ·rintro b s' ⟨done,left,rfl,hl,hb,t,rfl,ht⟩
  cases hl
  rw[gN]at h ht
  have ht:t+1=s.toks+iK done:=ht
  show wpAny _ _ (retInt (Builtin.Tuple.tupleHashOf b.toList)) _ _ _
  rw[hb]
  refine wpAny_ret_mkInt ?_
  show wpAny _ _ (if(decide (-(2:Int)^63<=Builtin.Tuple.tupleHashOf (done.map (tupleKeyHash (intKind prog w))))&&decide (Builtin.Tuple.tupleHashOf (done.map (tupleKeyHash (intKind prog w)))<2^63))=true then _ else _) Q E _
  unfold oP reduceHash at h
  rw[<-ht]at h
  by_cases hr:(decide (-(2:Int)^63<=Builtin.Tuple.tupleHashOf (done.map (tupleKeyHash (intKind prog w))))&&decide (Builtin.Tuple.tupleHashOf (done.map (tupleKeyHash (intKind prog w)))<2^63))=true
  ·rw[if_pos hr]
   rw[if_pos hr]at h
   exact wpAny_pure h
  ·rw[if_neg hr]
   rw[if_neg hr]at h
   exact wpAny_bind (wpAny_rule (wpAny_pure h))
theorem Hu{P:PySem.Fin->Shared->Prop}(hu:A.units+4<cLine)(hx:IsT2 prog w s.heap x a)(hy:IsT2 prog w s.heap y b)(h:P (.done (.ret (.bool (decide (x=y))))) s) :
 wpAny (model prog w) A (Builtin.«tuple.__eq__» ⟨[.ref a,.ref b],[]⟩) P E s:=by
 have hTb:=hy.typeIs
 obtain⟨oa,xs,na,hoa,_,hda,hia⟩:=hx
 obtain⟨ob,ys,nb,hob,_,hdb,hib⟩:=hy
 show wpAny _ _ (isInstance (.ref b) (.type "tuple")>>=_) _ _ s
 refine wpAny_bind (wpAny_isInstance hTb isSubtype_tuple_tuple ?_)
 simp only[mC,jQ,if_false]
 refine wpAny_bind (wpAny_tupleItemsOf hoa hda ?_)
 refine wpAny_bind (wpAny_tupleItemsOf hob hdb ?_)
 refine wpAny_bind ?_
 refine wpAny_forIn_list _
  (λrest r s'=>r.1=none/\s'=s/\∃x' y' xs' ys',rest=List.zip xs' ys'/\Items2 prog w s.heap x' xs'/\Items2 prog w s.heap y' ys'/\decide (x'=y')=decide (x=y)/\(xs'.length==ys'.length)=(xs.size==ys.size))
  _ ?_ ?_ _ _ ⟨rfl,rfl,x,y,xs.toList,ys.toList,rfl,hia,hib,rfl,by simp⟩
 ·rintro⟨u,v⟩ rest r s' ⟨hr,rfl,x',y',xs',ys',hz,hx',hy',hdec,hlen⟩
  cases hx' with
  |nil=>simp at hz
  | @cons k1 u' x'' xs'' h1 hx''=>
   cases hy' with
   |nil=>simp at hz
   | @cons k2 v' y'' ys'' h2 hy''=>
    simp only[List.zip_cons_cons,List.cons.injEq,Prod.mk.injEq]at hz
    obtain⟨⟨rfl,rfl⟩,rfl⟩:=hz
    refine wpAny_bind (wpAny_eqBool_tuple (knd:=intKind prog w) (by lia) h1 h2 ?_)
    by_cases hk:k1=k2
    ·subst hk
     rw[decide_eq_true rfl]
     simp only[mC,jQ,if_false]
     refine wpAny_pure ⟨rfl,rfl,x'',y'',xs'',ys'',rfl,hx'',hy'',?_,by simpa using hlen⟩
     rw[<-hdec]
     by_cases hxy:x''=y''
     ·simp[hxy]
     ·simp[hxy]
    ·rw[decide_eq_false hk]
     simp only[rN,if_true]
     have hf:decide (x=y)=false:=by rw[<-hdec];simp[hk]
     rw[hf]at h
     exact wpAny_bind (wpAny_pure (wpAny_pure (wpAny_pure h)))
 ·rintro⟨r1,r2⟩ s' ⟨hr,rfl,x',y',xs',ys',hz,hx',hy',hdec,hlen⟩
  simp only at hr
  subst hr
  refine wpAny_pure ?_
  have hfin:(xs.size==ys.size)=decide (x=y):=by
   rw[<-hdec,<-hlen]
   cases hx' with
   |nil=>
    cases hy' with
    |nil=>simp
    |cons _ _=>simp
   |cons _ _=>
    cases hy' with
    |nil=>simp
    |cons _ _=>simp at hz
  show P (.done (.ret (.bool (xs.size==ys.size)))) s'
  rw[hfin];exact h
theorem Hv(hu:A.units+8<cLine)(hx:IsT2 prog w s.heap x a)(hy:IsT2 prog w s.heap y b)(h:Q (decide (x=y)) s) :
 wpAny (model prog w) A (eqBool (.ref a) (.ref b)) Q E s:=by
 unfold eqBool
 try with_reducible refine wpAny_holding ?_
 show wpAny _ _ (if(Value.ref a==Value.ref b)=true then _ else _) Q E s
 by_cases hab:(Value.ref a==Value.ref b)=true
 ·rw[if_pos hab]
  have e:a=b:=by have:=eq_of_beq hab;injection this
  subst e
  obtain rfl:=hx.inj hy
  exact wpAny_bind (wpAny_rule (wpAny_pure (by simpa using h)))
 ·rw[if_neg hab]
  exact wpAny_bind (wpAny_richCompare_same_room (op:=.Eq) hx.typeIs hy.typeIs F.slot_tuple_eq
   (wpAny_call_entry F.slot_tuple_eq hx.typeIs F.entry_tuple_eq (Hu (by first|(show A.units+1+1+4<cLine;lia)|(show A.units+1+4<cLine;lia)) hx hy ⟨_,rfl,(λe=>nomatch e),wpAny_truthy_bool h⟩) (F.args_tuple_eq_2 _ _)) (by lia))
theorem Hw{n:Nat}{ks:List Int}(hk:IsTupleKey (intKind prog w) s.heap ks a)(h:Q true s):wpAny (model prog w) A (eqIsQuiet (n+1) (.ref a)) Q E s:=by
 have hT:=hk.typeIs
 obtain⟨o,items,n,ho,_,hd,hi⟩:=hk
 unfold eqIsQuiet
 refine wpAny_bind (wpAny_specialOf hT F.slot_tuple_eq.lookup ?_)
 show wpAny _ _ (isInstance (.ref a) (.type "tuple")>>=_) _ _ s
 refine wpAny_bind (wpAny_isInstance hT isSubtype_tuple_tuple ?_)
 simp only[mC,jQ,if_false]
 refine wpAny_bind (wpAny_seqItems ho hd ?_)
 refine wpAny_bind ?_
 show wpAny _ _ (forIn items _ _) _ _ s
 rw[<-FL]
 refine wpAny_forIn_list _ (λrest r s'=>r.1=none/\s'=s/\∀v∈rest,carriedByValue v=true) _ ?_ ?_ _ _ ⟨rfl,rfl,hi.byValue⟩
 ·rintro v rest r s' ⟨hr,rfl,hall⟩
  rw[eqIsQuiet_byValue _ (hall v bF)]
  refine wpAny_bind (wpAny_pure ?_)
  simp only[mC,jQ,if_false]
  exact wpAny_pure ⟨rfl,rfl,λu hu'=>hall u (bG _ hu')⟩
 ·rintro⟨r1,r2⟩ s' ⟨hr,rfl,_⟩
  simp only at hr
  subst hr
  exact wpAny_pure h
theorem Hx(hk:IsT2 prog w s.heap ks a)(h:Q true s):wpAny (model prog w) A (eqIsQuiet 8 (.ref a)) Q E s:=by
 have hT:=hk.typeIs
 obtain⟨o,items,n,ho,_,hd,hi⟩:=hk
 unfold eqIsQuiet
 refine wpAny_bind (wpAny_specialOf hT F.slot_tuple_eq.lookup ?_)
 show wpAny _ _ (isInstance (.ref a) (.type "tuple")>>=_) _ _ s
 refine wpAny_bind (wpAny_isInstance hT isSubtype_tuple_tuple ?_)
 simp only[mC,jQ,if_false]
 refine wpAny_bind (wpAny_seqItems ho hd ?_)
 refine wpAny_bind ?_
 show wpAny _ _ (forIn items _ _) _ _ s
 rw[<-FL]
 refine wpAny_forIn_list _ (λrest r s'=>r.1=none/\s'=s/\∃kss,Items2 prog w s.heap kss rest) _ ?_ ?_ _ _ ⟨rfl,rfl,ks,hi⟩
 ·rintro v rest r s' ⟨hr,rfl,kss,hall⟩
  cases hall with
  | @cons k b kss' _ h1 h2=>
   refine wpAny_bind (Hw h1 ?_)
   simp only[mC,jQ,if_false]
   exact wpAny_pure ⟨rfl,rfl,kss',h2⟩
 ·rintro⟨r1,r2⟩ s' ⟨hr,rfl,_⟩
  simp only at hr
  subst hr
  exact wpAny_pure h
noncomputable def lC(prog:Program)(w:World):HeapKind prog w (List (List Int)) where
 is:=IsT2 prog w
 hash:=oP prog w
 draws:=iK
 room:=λA=>A.units+8<cLine
 inj:=λhx hy=>hx.inj hy
 keeps:=λx ho hd hs=>x.keeps ho hd hs
 pyHash:=λhu hk h=>Ht hu hk h
 eqBool:=λhu hx hy h=>Hv hu hx hy h
 quiet:=λhk h=>Hx hk h
end
end Tr
namespace Tr
open PySem PySem.Spec PyProof.Rows L2
section
variable{prog:Program}{w:World}{h:Heap}{H:Hp}{a b dx kd C p:Addr}{n:Int}{cl:List (Int×Int)}{o:Obj}
noncomputable def gW:Nat->List (List (List Int))
 |0=>[[]]
 |k+1=>(gW k).flatMap λr=>subs3.map λks=>ks::r
theorem zX:∀k,(gW k).length=8^k
 |0=>rfl
 |k+1=>by
  have e:∀l:List (List (List Int)),(l.flatMap λr=>subs3.map λks=>ks::r).length=l.length*8:=by
   intro l
   induction l with
   |nil=>rfl
   |cons x l ih=>rw[iD,bB,ih,aI,aN];show 8+_=_;lia
  rw[gW,e,zX k,FM]
theorem zY:∀{kss:List (List Int)},kss.all subs3.contains=true->kss∈gW kss.length
 |[],_=>dE.mpr rfl
 |ks::r,h=>by
  rw[gP,aD]at h
  exact Np.mpr ⟨r,zY h.2,cZ.mpr ⟨ks,mD.mp h.1,rfl⟩⟩
theorem Hy{xs:List (List (List Int))}(nd:xs.Nodup)(hs:∀x∈xs,fJ x=true):xs.length<=sizeLine:=by
 have h1:=zT (m:=gW 0++gW 1++gW 2++gW 3++gW 4++gW 5) nd λx hx=>by
  have z:=hs x hx
  rw[fJ,aD,decide_eq_true_eq]at z
  have m:=zY z.2
  have l:=z.1
  generalize x.length=k at m l
  simp only[eO]
  match k,l with
  |0,_=>simp[m]
  |1,_=>simp[m]
  |2,_=>simp[m]
  |3,_=>simp[m]
  |4,_=>simp[m]
  |5,_=>simp[m]
  |k+6,l=>lia
 simp only[bB,zX]at h1
 rw[sizeLine_eq]
 lia
theorem items_int{prog:Program}{w:World}:∀{ks:List Int} {us:List Value},Vals (ks.map V.int) us->ItemsAre (intKind prog w) ks us
 |[],_,r=>by rw[iT]at r;cases r;exact .nil
 |k::ks,_,r=>by
  rw[aL]at r
  cases r with
  |cons h t=>
   obtain⟨tk,rfl⟩:=h
   exact .cons (by show Value.isInt k (.int k tk)=true;simp[Value.isInt]) (items_int t)
noncomputable abbrev gF(H:Hp)(kss:List (List Int))(p:Addr):Prop:=∃vs,H p=some (.tup vs)/\Paired (λ(ks:List Int) (v:V)=>∃c,v=V.ref c/\H c=some (.tup (ks.map V.int))) kss vs
theorem pG{kss:List (List Int)}(ok:HOk prog w H h)(k:gF H kss p):IsT2 prog w h kss p:=by
 obtain⟨vs,e,pr⟩:=k
 obtain⟨zl,its,r,ob,h1,h2,m,h3⟩:=(show ObjOk prog w H h p (.tup vs)from ok p _ e)
 refine⟨ob,its.toArray,m,h1,h2,h3,?_⟩
 show Items2 prog w h kss its.toArray.toList
 rw[Nq]
 clear h3 e zl
 induction pr generalizing its with
 |nil=>cases r;exact .nil
 |cons z _ ih=>
  obtain⟨c,rfl,hc⟩:=z
  cases r with
  |cons q1 q2=>
   cases (show _=Value.ref c from q1)
   obtain⟨_,jts,r',ob',g1,g2,m',g3⟩:=(show ObjOk prog w H h c _ from ok c _ hc)
   exact .cons ⟨ob',jts.toArray,m',g1,g2,g3,by rw[Nq];exact items_int r'⟩ (ih _ q2)
theorem zZ(ok:HOk prog w H h)(e:H a=some (.frz o (.cnt C dx kd b n cl))):∃mA,ObjM h a dx C mA/\∀f,RelO ((eC n b kd).lookup f) (mA f):=by
 obtain⟨_,⟨d,ne,ob,mA,m,r,q⟩,_⟩:=(show ObjOk prog w H h a (.frz o (.cnt C dx kd b n cl))from ok a _ e)
 exact⟨mA,⟨ob,m,ne⟩,r⟩
theorem sU(ok:HOk prog w H h)(e:H a=some (.frz o (.cnt C dx kd b n cl))):(kd==sysModules)=false/\H kd=some (.own a)/\∃xs:List (List (List Int)×Addr×Value),
 (∀q∈xs,fJ q.1=true/\gF H q.1 q.2.1/\RelV (.int (dS n cl q.1)) q.2.2)/\h.DictOfH (lC prog w) kd xs:=by
 obtain⟨_,_,_,d2,ne2,ne3,sm,xs,q1,ob,es,ep,h1,h2,h3,h4,h5⟩:=(show ObjOk prog w H h a (.frz o (.cnt C dx kd b n cl))from ok a _ e)
 exact⟨sm,d2,xs,q1,ob,es,ep,h1,h2,h3,h4,λx hx=>pG ok (q1 x hx).2.1,h5⟩
end
section
variable{X:Cx}{pins:List (Addr×Obj)}{σ:L2.St}{H:Hp}{s:Shared}{a b dx kd C p:Addr}{n:Int}{cl:List (Int×Int)}{o:Obj}{A:Around}{E:Value->Shared->Prop}{v:V}{f:Str}{kss:List (List Int)}
theorem Hz{h':Heap}{t':Nat}{xs:List (List (List Int)×Addr×Value)}(I:Inv X pins σ H s)(e:H a=some (.frz o (.cnt C dx kd b n cl)))(hs:Heap.SameBut kd s.heap h')
 (hx:∀q∈xs,fJ q.1=true/\gF H q.1 q.2.1/\RelV (.int (dS n cl q.1)) q.2.2) (dd:h'.DictOfH (lC X.prog X.w) kd xs):Inv X pins σ H {s with heap:=h',toks:=t' }:=by
 obtain⟨sm,d2,_⟩:=sU I.hok e
 obtain⟨q,es,ep,hq,h2,h3,h4,_,h5⟩:=dd
 have nk:∀c u,H c=some u->u≠.own a->c≠kd:=λc u e1 e2 z=>by subst z;rw[d2]at e1;exact e2 (dJ.inj e1).symm
 have nn:∀c,H c=none->c≠kd:=λc e1 z=>by subst z;rw[d2]at e1;cases e1
 refine I.un ⟨λc u g1 g2 _ _=>(hs.2 c (nn c g2)).trans g1,λc u g1 g2 _ _=>⟨u.slots,(hs.2 c (nn c g2)).trans g1⟩,λ_ _ _ g _=>g,λc u g1 _=>?_,λ_ _ g=>g,λ_ _ _ g=>g,λ_ ps g=>⟨#[],by rw[g];simp⟩⟩ (λc u g1=>?_)
 ·by_cases z:c=kd
  ·subst z;exact⟨q,hq⟩
  ·exact⟨u,(hs.2 c z).trans g1⟩
 ·by_cases z1:c=a
  ·subst z1
   rw[e]at g1;cases g1
   obtain⟨e0,⟨d,ne,ob,mA,⟨od,es1,ep1,e2,c1⟩,r⟩,b1,_,ne2,ne3,sm,_⟩:=(show ObjOk X.prog X.w H s.heap c (.frz o (.cnt C dx kd b n cl))from I.hok c _ e)
   exact⟨(hs.2 c (Ne.symm ne2)).trans e0,⟨d,ne,(hs.2 c (Ne.symm ne2)).trans ob,mA,⟨od,es1,ep1,(hs.2 dx (Ne.symm ne3)).trans e2,c1⟩,r⟩,b1,d2,ne2,ne3,sm,xs,hx,q,es,ep,hq,h2,h3,h4,h5⟩
  ·by_cases z2:c=kd
   ·subst z2
    rw[d2]at g1;cases g1
    exact⟨q,hq⟩
   ·refine(I.hok c u g1).stay (λc' u' hc g=>(hs.2 c' ?_).trans g) (λ_ g=>g) (λ_ _ g=>g) λ_ _ _ g=>g
    rcases hc with z|z
    ·rw[z];exact z2
    ·refine nk c' _ z λy=>?_
     cases y;exact z1 rfl
theorem sV{bb:Bool}{Q:Value->Shared->Prop}(I:Inv X pins σ H s)(e:H a=some (.frz o (.cnt C dx kd b n cl)))(c:Cls X.K C)(na:NoAttr X.K C f)(l:(eC n b kd).lookup f=some v)
 (h:∀u t,RelV v u->Q u {s with toks:=t}):wpAny (model X.prog X.w) A (getAttr (.ref a) f bb) Q E s:=by
 obtain⟨mA,O,r⟩:=zZ I.hok e
 obtain⟨u,hu,ru⟩:=RelO.some_of (v:=v) (o:=mA f) (by rw[<-l];exact r f)
 exact GP I.kIn O (c.get f) c.hd na hu (GT ru) (h u _ ru)
theorem IA{m:Str}{g:Addr}{pl:Sem Bool}{Q:Value×List Value->Shared->Prop}(I:Inv X pins σ H s)(e:H a=some (.frz o (.cnt C dx kd b n cl)))(c:Cls X.K C)(k:Meth X.K C m g)(l:(eC n b kd).lookup m=none)
 (h:Q (.ref g,[.ref a]) s):wpAny (model X.prog X.w) A (getMethod (.ref a) m pl) Q E s:=by
 obtain⟨mA,O,r⟩:=zZ I.hok e
 have hn:mA m=none:=RelO.none_of (by rw[<-l];exact r m)
 exact GQ I.kIn O (c.get m) k.at_ k.fn hn h
theorem pH {i:Nat} {x:Str} {pos:Pos} {Q:Value->Shared->Prop} (I:Inv X pins σ H s) (hN:X.N[i]?=some x) (hv:Vis X.env.scope x) (hd:(x==("__debug__" : Str))=false) (hcd:(x==("__classdict__" : Str))=false) (e:σ[i]?=some (some v))
 (h:∀u,RelV v u->Q u s):wpAny (model X.prog X.w) X.A (eval (.Name x pos) X.env) Q E s:=by
 obtain⟨m,hn,hl⟩:=I.loc
 obtain⟨u,r,l⟩:=hl i x v hN e hv
 have fin:Q u s:=h u r
 rcases l with⟨hk,hm⟩|⟨hk,c,hc,hcell⟩
 ·exact wpAny_Name (wpAny_loadName_local I.ok.kind hk hn hm fin) hd
 ·rcases hk with hk|hk
  ·exact wpAny_Name (wpAny_loadName_cell I.ok.kind hk hc hcell fin) hd
  ·exact wpAny_Name (wpAny_loadName_free I.ok.kind hk hc hcell fin hcd) hd
end
section
variable{X:Cx}{pins:List (Addr×Obj)}{σ:L2.St}{H:Hp}{s:Shared}{a b dx kd C p:Addr}{n:Int}{cl:List (Int×Int)}{o:Obj}{A:Around}{E:Value->Shared->Prop}{v:V}{f:Str}{kss:List (List Int)}
noncomputable def Kn(X:Cx)(h:Heap)(kd:Addr)(n:Int)(cl:List (Int×Int))(kss:List (List Int)):Prop:=
 ∃xs,(∀q∈xs,RelV (.int (dS n cl q.1)) q.2.2)/\h.DictOfH (lC X.prog X.w) kd xs/\∃p,atKey xs kss=some p
theorem at_mem{xs:List (List (List Int)×Addr×Value)}{k:List (List Int)}{p:Addr×Value}(h:atKey xs k=some p):(k,p)∈xs:=by
 unfold atKey at h
 obtain⟨x,hx,rfl⟩:=FG.mp h
 have h1:=Nr hx
 have h2:=Nt hx
 rw[decide_eq_true_eq]at h2
 rw[<-h2]
 exact h1
theorem IB{Q:Value->Shared->Prop}(hu:A.units+9<cLine)(ok:HOk X.prog X.w H s.heap)(k:gF H kss p)(kn:Kn X s.heap kd n cl kss)
 (h:∀u t,RelV (.int (dS n cl kss)) u->Q u {s with toks:=t}):wpAny (model X.prog X.w) A (getItem (.ref kd) (.ref p)) Q E s:=by
 obtain⟨xs,q1,dd,q,hq⟩:=kn
 exact wpAny_getItem_heap (knd:=lC X.prog X.w) (by show A.units+1+8<cLine;lia) (pG ok k) dd hq (h _ _ (q1 _ (at_mem hq)))
theorem IC{Q:Value->Shared->Prop}(hu:A.units+9<cLine)(I:Inv X pins σ H s)(e:H a=some (.frz o (.cnt C dx kd b n cl)))(k:gF H kss p)
 (h0:∀t,Q (.bool true) {s with toks:=t}) (h1:∀t,Kn X s.heap kd n cl kss->Q (.bool false) {s with toks:=t}):wpAny (model X.prog X.w) A (compareOp .NotIn (.ref p) (.ref kd)) Q E s:=by
 obtain⟨sm,d2,xs,q1,dd⟩:=sU I.hok e
 refine wpAny_notIn_heap (knd:=lC X.prog X.w) (by show A.units+1+8<cLine;lia) (pG I.hok k) sm dd ?_
 cases hq:atKey xs kss with
 |none=>exact h0 _
 |some q=>exact h1 _ ⟨xs,λq hq=>(q1 q hq).2.2,dd,q,hq⟩
theorem ID{r:Value}{Q:Unit->Shared->Prop}(hu:A.units+9<cLine)(I:Inv X pins σ H s)(e:H a=some (.frz o (.cnt C dx kd b n cl)))(k:gF H kss p)(sk:fJ kss=true)(rv:RelV (.int (dS n cl kss)) r)
 (h:∀s',Inv X pins σ H s'->Kn X s'.heap kd n cl kss->Q () s'):wpAny (model X.prog X.w) A (setItem (.ref kd) (.ref p) r) Q E s:=by
 obtain⟨sm,d2,xs,q1,dd⟩:=sU I.hok e
 have hz:xs.length<=sizeLine:=by
  obtain⟨_,_,_,_,_,_,_,_,nd⟩:=dd
  have:=Hy nd λx hx=>by
   obtain⟨q,hq,rfl⟩:=cZ.mp hx
   exact(q1 q hq).1
  rwa [aI]at this
 have fac:∀q∈storedH xs kss p r,fJ q.1=true/\gF H q.1 q.2.1/\RelV (.int (dS n cl q.1)) q.2.2:=λq hq=>by
  unfold storedH at hq
  split at hq
  ·obtain⟨y,hy,rfl⟩:=cZ.mp hq
   unfold putAt
   split
   ·rename_i z
    refine⟨(q1 y hy).1,(q1 y hy).2.1,?_⟩
    show RelV (.int (dS n cl y.1)) r
    rw[z];exact rv
   ·exact q1 y hy
  ·rcases eO.mp hq with hq|hq
   ·exact q1 q hq
   ·cases dE.mp hq
    exact⟨sk,k,rv⟩
 have there:∃q,atKey (storedH xs kss p r) kss=some q:=by
  unfold storedH
  cases hq:atKey xs kss with
  |none=>
   refine⟨(p,r),?_⟩
   rw[Nu,if_neg aJ]
   unfold atKey at hq⊢
   rw[Option.map_eq_none_iff]at hq
   rw[List.find?_append,hq]
   simp
  |some q=>
   rw[FE,if_pos rfl]
   unfold atKey at hq⊢
   obtain⟨x,hx,rfl⟩:=FG.mp hq
   have e2:(λx=>decide (x.1=kss))∘putAt kss r=λx:List (List Int)×Addr×Value=>decide (x.1=kss):=by
    funext y
    show decide ((putAt kss r y).1=kss)=_
    unfold putAt
    split<;>rfl
   rw[List.find?_map,e2,hx]
   exact⟨_,rfl⟩
 refine wpAny_setItem_heap (knd:=lC X.prog X.w) (hsz:=hz) (by show A.units+1+8<cLine;lia) (pG I.hok k) dd λh' dd' hs=>h _ ?_ ⟨_,λq hq=>(fac q hq).2.2,dd',there⟩
 exact Hz I e hs fac dd'
variable{x y:Str}{i j:Nat}{p1 p2 p3 p4 p5 p6 p7 p8 p9 p10 p11 p12 p13 p14 p15:Pos}{value:Expr}{tv:TE}
theorem sW {Q:Value->Shared->Prop} (I:Inv X pins σ H s) (hN:X.N[i]?=some x) (hv:Vis X.env.scope x) (hd:(x==("__debug__" : Str))=false) (hcd:(x==("__classdict__" : Str))=false) (ei:σ[i]?=some (some (.ref a)))
 (e:H a=some (.frz o (.cnt C dx kd b n cl))) (c:Cls X.K C) (na:NoAttr X.K C "known") (h:∀t,Q (.ref kd) {s with toks:=t}):wpAny (model X.prog X.w) X.A (eval (.Attribute (.Name x p1) "known" p2) X.env) Q E s:=by
 refine rZ rfl (pH I hN hv hd hcd ei λu ru=>?_)
 cases (show u=Value.ref a from ru)
 refine sV I e c na (v:=.ref kd) rfl λu t ru=>?_
 cases (show u=Value.ref kd from ru)
 exact h t
theorem IE (hu:X.A.units+9<cLine) (hN:X.N[i]?=some x) (hv:Vis X.env.scope x) (hd:(x==("__debug__" : Str))=false) (hcd:(x==("__classdict__" : Str))=false)
 (hNj:X.N[j]?=some y) (hvj:Vis X.env.scope y) (hdj:(y==("__debug__" : Str))=false) (hcdj:(y==("__classdict__" : Str))=false) (he:PE X value tv)
 (hs:swapsWith value (some (.Subscript (.Attribute (.Name x p5) "known" p6) (.Name y p7) p8)) p9.line X.env=pure false) :
 PSs X [.If (.Compare (.Name y p1) [.NotIn] [.Attribute (.Name x p2) "known" p3] p4) [.Assign [.Subscript (.Attribute (.Name x p5) "known" p6) (.Name y p7) p8] value p9] [] p10,
     .Return (some (.Subscript (.Attribute (.Name x p11) "known" p12) (.Name y p13) p14)) p15]
  (λD σ H=>∃a b dx kd C o n cl kss p,σ[i]?=some (some (.ref a))/\σ[j]?=some (some (.ref p))/\H a=some (.frz o (.cnt C dx kd b n cl))/\Cls X.K C/\NoAttr X.K C "known" /\ gF H kss p/\fJ kss=true /\
   tv σ H (λv H1=>v=.int (dS n cl kss)/\Same H H1/\D.rt (.int (dS n cl kss)) H1)/\D.rt (.int (dS n cl kss)) H):=by
 intro pins s σ H D I h
 obtain⟨a,b,dx,kd,C,o,n,cl,kss,p,ei,ej,e,c,na,k,sk,ht,hr⟩:=h
 have last:∀(H1:Hp)(s1:Shared),Inv X pins σ H1 s1->Same H H1->D.rt (.int (dS n cl kss)) H1->Kn X s1.heap kd n cl kss ->
  wpAny (model X.prog X.w) X.A (execs [.Return (some (.Subscript (.Attribute (.Name x p11) "known" p12) (.Name y p13) p14)) p15] X.env) (SP X pins D) X.xe s1:=by
  intro H1 s1 I1 sm q kn
  have e1:=sm _ _ e
  have k1:gF H1 kss p:=by
   obtain⟨vs,z1,z2⟩:=k
   exact⟨vs,sm _ _ z1,Paired.mapP z2 λ_ _ ⟨c,z3,z4⟩=>⟨c,z3,sm _ _ z4⟩⟩
  refine wpAny_execs_cons (wpAny_Return_some ?_)
  refine Gy (T := "dict") PySem.F.slot_dict_getitem.lookup (λ_ _=>rfl) (sW I1 hN hv hd hcd ei e1 c na λt=>?_)
  refine pH (I1.tok t) hNj hvj hdj hcdj ej λu ru=>?_
  cases (show u=Value.ref p from ru)
  refine⟨?_,IB (s:={s1 with toks:=t}) hu I1.hok k1 kn λu t' ru=>⟨_,σ,H1,I1.tok t',ru,q⟩⟩
  obtain⟨xs,_,dd,_⟩:=kn
  exact Heap.DictOfH.typeIs (s:={s1 with toks:=t}) dd
 refine wpAny_execs_cons (wpAny_If (wpAny_isTrue_Compare1 (pH I hNj hvj hdj hcdj ej λu ru=>?_)))
 cases (show u=Value.ref p from ru)
 refine sW I hN hv hd hcd ei e c na λt=>?_
 refine IC hu (I.tok t) e k (λt2=>?_) (λt2 kn=>?_)
 ·refine wpAny_truthy_bool ?_
  rw[if_pos rfl]
  refine wpAny_execs_cons (wpAny_Assign_Subscript (thn (he pins _ σ H _ (I.tok t2) ht) λr s1 ⟨v,H1,I1,rv,ev,sm,q⟩=>?_) hs)
  subst ev
  have e1:=sm _ _ e
  have k1:gF H1 kss p:=by
   obtain⟨vs,z1,z2⟩:=k
   exact⟨vs,sm _ _ z1,Paired.mapP z2 λ_ _ ⟨c,z3,z4⟩=>⟨c,z3,sm _ _ z4⟩⟩
  refine sW I1 hN hv hd hcd ei e1 c na λt3=>?_
  refine pH (I1.tok t3) hNj hvj hdj hcdj ej λu ru=>?_
  cases (show u=Value.ref p from ru)
  refine ID hu (I1.tok t3) e1 k1 sk rv λs2 I2 kn=>?_
  exact wpAny_execs_nil (last H1 s2 I2 sm q kn)
 ·refine wpAny_truthy_bool ?_
  rw[if_neg aJ]
  exact wpAny_execs_nil (last H _ (I.tok t2) (λ_ _ z=>z) hr kn)
end
noncomputable abbrev nD(H:Hp)(cl:List (Int×Int))(xs:List V):Prop:=Paired (λ(p:Int×Int) (v:V)=>∃q,v=V.ref q/\H q=some (.tup [.int p.1,.int p.2])) cl xs
noncomputable def fW(H:Hp)(x dx kd b C:Addr)(o ol:Obj)(xs:List V)(n:Int)(cl:List (Int×Int)):Hp:=upd (upd (upd H b (.frz ol (.lst xs))) kd (.own x)) x (.frz o (.cnt C dx kd b n cl))
theorem IF{X:Cx}{pins:List (Addr×Obj)}{σ:L2.St}{H:Hp}{s:Shared}{x dx kd b C:Addr}{n:Int}{cl:List (Int×Int)}{xs:List V}(I:Inv X pins σ H s)(ex:H x=some (.ins C dx (eC n b kd)))(ek:H kd=some (.dT []))(eb:H b=some (.lst xs))
 (pr:nD H cl xs):∃o ol,Inv X pins σ (fW H x dx kd b C o ol xs n cl) s:=by
 have kx:=(show ObjOk X.prog X.w H s.heap x (.ins C dx (eC n b kd))from I.hok x _ ex)
 have kk:=(show ObjOk X.prog X.w H s.heap kd (.dT [])from I.hok kd _ ek)
 have kb:=(show ObjOk X.prog X.w H s.heap b (.lst xs)from I.hok b _ eb)
 obtain⟨d,z,ne,ob,mA,m,r,q⟩:=kx
 obtain⟨_,sm,ys,ry,ok,es,ep,h1,h2,h3,h4,h5⟩:=kk
 cases ry
 have lb:=kb
 obtain⟨_,its,nl,_,gb⟩:=kb
 have nxk:x≠kd:=fK ex ek (λz=>nomatch z)
 have nxb:x≠b:=fK ex eb (λz=>nomatch z)
 have nkb:kd≠b:=fK ek eb (λz=>nomatch z)
 have ndk:dx≠kd:=fK d ek (λz=>nomatch z)
 have ndb:dx≠b:=fK d eb (λz=>nomatch z)
 refine⟨PySem.W.instObj C dx,{cls:=.type "list", data:=.seq its.toArray nl},?_⟩
 have hx:fW H x dx kd b C (PySem.W.instObj C dx) {cls:=.type "list", data:=.seq its.toArray nl} xs n cl x=some (.frz (PySem.W.instObj C dx) (.cnt C dx kd b n cl)):=bA
 have hk:fW H x dx kd b C (PySem.W.instObj C dx) {cls:=.type "list", data:=.seq its.toArray nl} xs n cl kd=some (.own x):=by unfold fW;rw[aG nxk.symm,bA]
 have hb:fW H x dx kd b C (PySem.W.instObj C dx) {cls:=.type "list", data:=.seq its.toArray nl} xs n cl b=some (.frz {cls:=.type "list", data:=.seq its.toArray nl} (.lst xs)):=by unfold fW;rw[aG nxb.symm,aG nkb.symm,bA]
 have ho:∀c,c≠x->c≠kd->c≠b->fW H x dx kd b C (PySem.W.instObj C dx) {cls:=.type "list", data:=.seq its.toArray nl} xs n cl c=H c:=λc z1 z2 z3=>by unfold fW;rw[aG z1,aG z2,aG z3]
 generalize fW H x dx kd b C (PySem.W.instObj C dx) {cls:=.type "list", data:=.seq its.toArray nl} xs n cl=H' at hx hk hb ho
 have st:∀c u,H c=some u->(∀l,u≠.lst l)->(∀l,u≠.dT l)->(∀C d f,u≠.ins C d f)->H' c=some u:=λc u e1 e2 e3 e4=>by
  rw[ho c (λz=>by subst z;rw[ex]at e1;cases e1;exact e4 _ _ _ rfl) (λz=>by subst z;rw[ek]at e1;cases e1;exact e3 _ rfl) (λz=>by subst z;rw[eb]at e1;cases e1;exact e2 _ rfl)]
  exact e1
 have tp:∀c l,H c=some (.tup l)->H' c=some (.tup l):=λc l e=>st c _ e (λ_ z=>nomatch z) (λ_ z=>nomatch z) (λ_ _ _ z=>nomatch z)
 have fz:∀c u l,H c=some (.frz u l)->H' c=some (.frz u l):=λc u l e=>st c _ e (λ_ z=>nomatch z) (λ_ z=>nomatch z) (λ_ _ _ z=>nomatch z)
 have ow:∀c l,H c=some (.own l)->H' c=some (.own l):=λc l e=>st c _ e (λ_ z=>nomatch z) (λ_ z=>nomatch z) (λ_ _ _ z=>nomatch z)
 refine I.un (h':=s.heap) (t':=s.toks) ⟨λc u g1 g2 _ _=>g1,λc u g1 g2 _ _=>⟨u.slots,g1⟩,λc u g1 g2 _=>?_,λc u g1 _=>⟨u,g1⟩,tp,fz,λc ps g=>⟨#[],?_⟩⟩ (λc u g1=>?_)
 ·rw[ho c (cV ex g2).symm (cV ek g2).symm (cV eb g2).symm];exact g2
 ·rw[st c _ g (λ_ z=>nomatch z) (λ_ z=>nomatch z) (λ_ _ _ z=>nomatch z)];simp
 ·by_cases z1:c=x
  ·subst z1
   rw[hx]at g1;cases g1
   exact⟨ob,⟨ow _ _ d,ne,ob,mA,m,r,q⟩,⟨_,xs,hb,Paired.mapP pr λ_ _ ⟨q,e1,e2⟩=>⟨q,e1,tp _ _ e2⟩⟩,hk,nxk.symm,ndk.symm,sm,[],(λq hq=>nomatch hq),ok,es,ep,h1,h2,h3,h4,FH⟩
  ·by_cases z2:c=kd
   ·subst z2
    rw[hk]at g1;cases g1
    exact⟨ok,h1⟩
   ·by_cases z3:c=b
    ·subst z3
     rw[hb]at g1;cases g1
     exact⟨gb,lb⟩
    ·rw[ho c z1 z2 z3]at g1
     exact(I.hok c u g1).stay (λ_ _ _ g=>g) (λc' g=>ow _ _ g) tp fz
end Tr
namespace Tr
open PySem PySem.Spec PyProof.Rows
section
variable{prog:Program}{w:World}{A:Around}{E:Value->Shared->Prop}{s:Shared}
theorem IG{T newId initId:String}{Bn Bi:Builtin}{args:List Value}{kw:List (Str×Value)}{S:PySem.Spec}{Q Q₁:Value->Shared->Prop}(ft:TypeCalled T newId initId)
 (hct:checkTypeCall T ⟨args,kw⟩=pure ()) (hcn:checkBuiltinCall newId ⟨.type T::args,kw⟩=pure ())
 (entryN:entryFor table newId=some Bn) (entryI:entryFor table initId=some Bi) (g:Meets (Bn ⟨.type T::args,kw⟩) S)
 (h:S A.in1 (wants Q₁ E) s)
 (hnext:∀obj sv,Q₁ obj sv->sv.TypeIs obj T/\argsOk initId ⟨obj::args,kw⟩/\∃Si,Meets (Bi ⟨obj::args,kw⟩) Si/\Si A.in1 (wants (λr sy=>r=.none/\Q obj sy) E) sv) :
 wpAny (model prog w) A (call (.type T) args kw) Q E s:=by
 obtain⟨c,tl,hmro⟩:=ft.mro
 have hmade:=ft.made
 have hsub:=ft.sub
 refine wpAny_call (codeAny_of_tree ?_)
 show wpAny _ _ (callAny (.type T) _) _ _ _
 refine wpAny_pure ⟨Code.quiet_builtin _ (by decide +kernel),codeAny_builtin F.entry_type_call ?_⟩
 rw[Around.under_plain (weight_type_call_type T args kw) (units_type_call_type T args kw)]
 have h1:=ft.notType
 have h2:=ft.canCreate
 repeat(any_goals(first|assumption|wp_step))
 refine codeAny_mono (codeAny_call_builtin ft.plain entryN (wpAny_of_eq hcn (g prog w A.in1 _ s h))) λr sv hr=>?_
 cases r with
 |error e=>exact hr
 |ok fl=>
  cases fl with
  |ret obj=>
   obtain⟨hT,hok,Si,gi,hsi⟩:=hnext _ _ hr
   have hli:=ft.init.lookup
   have hbi:=ft.init.bind obj
   repeat(any_goals(first|assumption|wp_step))
   refine codeAny_mono (codeAny_call_builtin ft.init.plain entryI (ft.init.check _ _ _ _ _ _ _ _ hT hok (gi prog w A.in1 _ sv hsi))) λrh sy hrh=>?_
   cases rh with
   |error e=>exact hrh
   |ok fl2=>
    cases fl2 with
    |ret r=>
     obtain⟨rfl,hq⟩:=hrh
     repeat(any_goals(first|assumption|wp_step))
    |_=>exact hrh.elim
  |_=>exact hr.elim
theorem IH {T newId:String} {self:Value} {rest:List Value} {kw:List (Str×Value)} (hl:typeLookup (.type T) "__init__" = pure (some (.builtin "object.__init__")))
 (hm:Bind.madeBy (.type T)=pure (some newId)) (hne:(some newId != some "object.__new__")=true) :
 Meets (Builtin.«object.__init__» ⟨self::rest,kw⟩) (λ_ R s=>s.TypeIs self T/\R (.ok (.ret .none)) s):=by
 refine Meets.of_wp λprog w A R s hs=>?_
 obtain⟨hT,hq⟩:=hs
 cases rest with
 |nil=>
  cases kw with
  |nil=>exact wpAny_pure ⟨_,rfl,hq⟩
  |cons k kw=>
   repeat(any_goals(first|assumption|wp_step))
   exact⟨_,rfl,hq⟩
 |cons a rest=>
  repeat(any_goals(first|assumption|wp_step))
  exact⟨_,rfl,hq⟩
theorem argsK (a b v:Value):argsOk "object.__init__" ⟨[a,b],[(Str.ofString "start", v)]⟩:=by
 unfold argsOk;rw[signature?_of (id := "object.__init__") (n:=['_','_','t','i','n','i','_','_']) (o:=['t','c','e','j','b','o']) (by kernel_rfl) F.owner_object];kernel_rfl
theorem II{M:Model}{env:Env}{s:Shared}{A:Around}{E:Value->Shared->Prop}{pos:Pos}{T:String}{e:Expr}{rest:List Expr}{kws:List Keyword}{Q:Value->Shared->Prop}
 (h:wpAny M A (spliced (backTo pos (starEach (e::rest) env))) (λvs sv=>wpAny M A (evalAll ((backToKw pos (keywordEach kws env)).map (·.2)))
  (λkvs sy=>wpAny M A (call (.type T) vs (((backToKw pos (keywordEach kws env)).filterMap (·.1)).zip kvs)) Q E sy) E sv) E s)
 (he:backTo pos (starEach (e::rest) env)=(false,eval e env)::backTo pos (starEach rest env):=by rfl)
 (hplain:(backTo pos (starEach (e::rest) env)).any (·.1)=false:=by rfl)
 (hall:(backToKw pos (keywordEach kws env)).all (·.1.isSome)=true:=by rfl)
 (hkw:(backToKw pos (keywordEach kws env)).any (·.1.isNone)=false:=by rfl) :
 wpAny M A (callWith pos (.type T) [] (backTo pos (starEach (e::rest) env)) (backToKw pos (keywordEach kws env))) Q E s:=by
 have h':wpAny M A (evalArgs (.type T) true (backTo pos (starEach (e::rest) env)) (backToKw pos (keywordEach kws env))) (λa sv=>wpAny M A (call (.type T) ([]++a.pos) a.kw) Q E sv) E s:=by
  rw[he]at h⊢
  exact evalArgs_kwB hall h
 unfold callWith
 refine wpAny_bind (wpAny_holding (wpAny_mono h' (λa sv h_h=>wpAny_bind (wpAny_standAt ?_)) λ_ _ x=>x))
 simp only[hplain,hkw,wY]
 refine wpAny_bind (wpAny_pure ?_)
 exact wpAny_bind (wpAny_mono h_h (λr sy hr=>wpAny_bind (wpAny_holding (wpAny_point (wpAny_pure hr)))) λ_ _ x=>x)
theorem IJ(l:Addr)(items:Array Value)(n:Nat)(dct:Option Addr)(sl:Array (Option Value))(k:Int)(t:Tok)(hk:Builtin.SmallTypes.fitsIndex k=true) :
 Meets (Builtin.«enumerate.__new__» ⟨[.type "enumerate", .ref l],[(Str.ofString "start", .int k t)]⟩) (λ_ R s=>s.heap.get? l=some {cls:=.type "tuple", dict:=dct,data:=.seq items n,slots:=sl} /\
  R (.ok (.ret (.ref (s.heap.push {cls:=.type "tuple_iterator", data:=.fields #[.ref l,.int 0 0] }).objs.size)))
   {s with heap:=(s.heap.push {cls:=.type "tuple_iterator", data:=.fields #[.ref l,.int 0 0] }).push {cls:=.type "enumerate", data:=.fields #[.none,.bool false,.ref s.heap.objs.size,rawInt k,.none,.none] } }):=
 .of_wp λprog w A R s h=>by
  obtain⟨hp,g,d,tk,os⟩:=s;obtain⟨hl,h⟩:=h
  have hsub:=sub_enumerate
  have hL:Heap.IsTuple (Shared.heap ⟨hp,g,d,tk,os⟩) l items:=⟨_,hl,rfl,n,rfl⟩
  have hn:¬((!Builtin.SmallTypes.fitsIndex k)=true):=by rw[hk];exact aJ
  wp_walk using AutoSeq1.wpAny_loadPart' hl
  refine wpAny_stack_any λst=>wpAny_pure ?_
  split
  ·rename_i c _ _ _ _ _
   cases (c==Value.type "enumerate")
   ·wp_walk using AutoSeq1.wpAny_loadPart' hl,wpAny_pyIter_tuple hL
    exact⟨_,rfl,h⟩
   ·wp_walk using AutoSeq1.wpAny_loadPart' hl,wpAny_pyIter_tuple hL
    exact⟨_,rfl,h⟩
  ·wp_walk using AutoSeq1.wpAny_loadPart' hl,wpAny_pyIter_tuple hL
   exact⟨_,rfl,h⟩
theorem IK{s:Shared}{l:Addr}{items:Array Value}{k:Int}{t:Tok}{Q:Value->Shared->Prop}(hk:Builtin.SmallTypes.fitsIndex k=true)(hL:s.heap.IsTuple l items)
 (h:∀h',IsEnum h' (s.heap.objs.size+1) s.heap.objs.size k .none->h'.IsTupleIter s.heap.objs.size l 0->h'.objs.size=s.heap.objs.size+2 ->
  (∀b o,s.heap.get? b=some o->h'.get? b=some o)->Q (.ref (s.heap.objs.size+1)) {s with heap:=h' }) :
 wpAny (model prog w) A (call (.type "enumerate") [.ref l] [(Str.ofString "start", .int k t)]) Q E s:=by
 obtain⟨⟨c,dct,dt,sl⟩,hl,hc,n,hd⟩:=hL
 replace hc:c=.type "tuple" := hc
 replace hd:dt=.seq items n:=hd
 subst hc hd
 refine IG F.called_enumerate (show checkTypeCall "enumerate" ⟨[.ref l],[(Str.ofString "start", .int k t)]⟩=pure () by kernel_rfl) (show checkBuiltinCall "enumerate.__new__" ⟨[.type "enumerate", .ref l],[(Str.ofString "start", .int k t)]⟩=pure () by kernel_rfl)
  F.entry_enumerate_new F.entry_object_init (IJ l items n dct sl k t hk) (Q₁:=λobj sv=>sv.TypeIs obj "enumerate" /\ Q obj sv) ⟨hl,?_⟩ λobj _ hq=>
   ⟨hq.1,argsK obj _ _,_,IH F.called_enumerate.init.lookup F.called_enumerate.made (by decide),hq.1,rfl,hq.2⟩
 have hz:(s.heap.push {cls:=.type "tuple_iterator", data:=.fields #[.ref l,.int 0 0] }).objs.size=s.heap.objs.size+1:=Heap.size_push ..
 show _/\_
 rw[hz]
 have he:IsEnum ((s.heap.push {cls:=.type "tuple_iterator", data:=.fields #[.ref l,.int 0 0] }).push
  {cls:=.type "enumerate", data:=.fields #[.none,.bool false,.ref s.heap.objs.size,rawInt k,.none,.none] }) (s.heap.objs.size+1) s.heap.objs.size k .none:=by
  have:=Heap.get?_push_size (s.heap.push {cls:=.type "tuple_iterator", data:=.fields #[.ref l,.int 0 0] })
   (o:={cls:=.type "enumerate", data:=.fields #[.none,.bool false,.ref s.heap.objs.size,rawInt k,.none,.none] }) rfl
  rw[hz]at this;exact this
 refine⟨⟨_,he,rfl⟩,h _ he ⟨_,Heap.get?_push_of_some _ (Heap.get?_push_size _ rfl),rfl,rfl⟩ (by rw[Heap.size_push,hz]) λb o x=>Heap.get?_push_of_some _ (Heap.get?_push_of_some _ x)⟩
end
end Tr
namespace Tr
open PySem PySem.Spec PyProof.Rows L2
variable{a p:Addr}{O:Addr->Prop}{d:D}{o o' u:HO}{H H':Hp}{ds:List D}{vs xs ys zs:List V}{K:PySem.W.Frag}{v:V}
noncomputable def ModL(K:PySem.W.Frag)(a:Addr)(xs:List V):Prop:=
 ∃(o:Obj) (its:Array Value) (n:Nat),K.lookup a=some o/\o.cls=.type "list" /\ o.dict=none/\o.data=.seq its n/\its.size<=sizeLine/\Vals xs its.toList
noncomputable def ModT(K:PySem.W.Frag)(a:Addr)(xs:List V):Prop:=(∃ss:List Str,ss≠[]/\xs=ss.map V.str) /\
 ∃(o:Obj) (its:Array Value) (n:Nat),K.lookup a=some o/\o.cls=.type "tuple" /\ o.data=.seq its n/\its.size<=sizeLine/\Vals xs its.toList
noncomputable def TupV(K:PySem.W.Frag)(H:Hp)(a:Addr)(xs:List V):Prop:=H a=some (.tup xs)\/ModT K a xs
theorem TupV.sq(h:TupV K H a xs):SqT K H a xs:=h.imp (λq=>.inl q) λq=>q.2
noncomputable def iL(K:PySem.W.Frag)(H:Hp)(O:Addr->Prop)(a b:Addr)(n:Int)(cl:List (Int×Int)):Prop:=
 ∃o C dx kd xs,H a=some (.frz o (.cnt C dx kd b n cl))/\(¬O b/\Rd H b (.lst xs))/\cvK K "Count" = .ref C
mutual
noncomputable def RD(K:PySem.W.Frag)(H:Hp)(O:Addr->Prop):D->V->Prop
 |.non,v=>v=.non
 |.bl b,v=>v=.bl b
 |.int i,v=>v=.int i
 |.str x,v=>v=.str x
 |.tup ds,v=>∃a xs,v=.ref a/\TupV K H a xs/\RDs K H O ds xs
 |.lst ds,v=>∃a xs,v=.ref a/\((¬O a/\Rd H a (.lst xs))\/ModL K a xs)/\RDs K H O ds xs
 |.dct kvs,v=>∃a ps,v=.ref a/\(∃o,H a=some (.frz o (.dK ps)))/\RDk K H O kvs ps
 |.tdc kvs,v=>∃a ps,v=.ref a/\(∃o,H a=some (.frz o (.dT ps)))/\RDt K H O kvs ps
 |.cnt n cl,v=>∃a b,v=.ref a/\iL K H O a b n cl
noncomputable def RDs(K:PySem.W.Frag)(H:Hp)(O:Addr->Prop):List D->List V->Prop
 |[],xs=>xs=[]
 |d::ds,xs=>∃v r,xs=v::r/\RD K H O d v/\RDs K H O ds r
noncomputable def RDk(K:PySem.W.Frag)(H:Hp)(O:Addr->Prop):List (Sum Int Str×D)->List (Key×V)->Prop
 |[],xs=>xs=[]
 |(k,d)::ds,xs=>∃v r,xs=(k,v)::r/\RD K H O d v/\RDk K H O ds r
noncomputable def RDt(K:PySem.W.Frag)(H:Hp)(O:Addr->Prop):List (List (Sum Int Str)×D)->List (List Key×V)->Prop
 |[],xs=>xs=[]
 |(k,d)::ds,xs=>∃v r,xs=(k,v)::r/\RD K H O d v/\RDt K H O ds r
end
noncomputable def OwnAt(K:PySem.W.Frag)(H:Hp)(O:Addr->Prop)(a:Addr):D->Prop
 |.lst ds=>∃xs,H a=some (.lst xs)/\RDs K H O ds xs
 |.dct kvs=>∃ps,H a=some (.dK ps)/\RDk K H O kvs ps
 |.tdc kvs=>∃ps,H a=some (.dT ps)/\RDt K H O kvs ps
 |_=>False
noncomputable def RR(K:PySem.W.Frag)(H:Hp)(O:Addr->Prop)(d:D)(v:V):Prop:=
 RD K H O d v\/∃a,v=.ref a/\OwnAt K H O a d
noncomputable def RRs(K:PySem.W.Frag)(H:Hp)(O:Addr->Prop):List D->List V->Prop
 |[],xs=>xs=[]
 |d::ds,xs=>∃v r,xs=v::r/\RR K H O d v/\RRs K H O ds r
section
variable{K:PySem.W.Frag}{H H':Hp}{O O':Addr->Prop}
mutual
theorem RD.map(ht:∀a xs,TupV K H a xs->TupV K H' a xs)(hl:∀a xs,¬O a->Rd H a (.lst xs)->¬O' a/\Rd H' a (.lst xs))(hd:∀a o u,H a=some (.frz o u)->H' a=some (.frz o u)):∀{d:D} {v:V},RD K H O d v->RD K H' O' d v
 |.non,_,h=>h
 |.bl _,_,h=>h
 |.int _,_,h=>h
 |.str _,_,h=>h
 |.tup ds,v,h=>by
  obtain⟨a,xs,e,s,r⟩:=h
  exact⟨a,xs,e,ht a xs s,RDs.map ht hl hd r⟩
 |.lst ds,v,h=>by
  obtain⟨a,xs,e,s,r⟩:=h
  refine⟨a,xs,e,?_,RDs.map ht hl hd r⟩
  rcases s with⟨s1,s2⟩|s
  ·exact .inl (hl a xs s1 s2)
  ·exact .inr s
 |.dct kvs,v,h=>by
  obtain⟨a,ps,e,⟨o,s⟩,r⟩:=h
  exact⟨a,ps,e,⟨o,hd a _ _ s⟩,RDk.map ht hl hd r⟩
 |.tdc kvs,v,h=>by
  obtain⟨a,ps,e,⟨o,s⟩,r⟩:=h
  exact⟨a,ps,e,⟨o,hd a _ _ s⟩,RDt.map ht hl hd r⟩
 |.cnt n cl,v,h=>by
  obtain⟨a,b,e,o,C,dx,kd,xs,s,⟨q1,q2⟩,z⟩:=h
  exact⟨a,b,e,o,C,dx,kd,xs,hd a _ _ s,hl _ _ q1 q2,z⟩
theorem RDs.map(ht:∀a xs,TupV K H a xs->TupV K H' a xs)(hl:∀a xs,¬O a->Rd H a (.lst xs)->¬O' a/\Rd H' a (.lst xs))(hd:∀a o u,H a=some (.frz o u)->H' a=some (.frz o u)):∀{ds:List D} {vs:List V},RDs K H O ds vs->RDs K H' O' ds vs
 |[],_,h=>h
 |d::ds,vs,h=>by
  obtain⟨v,r,e,h1,h2⟩:=h
  exact⟨v,r,e,RD.map ht hl hd h1,RDs.map ht hl hd h2⟩
theorem RDk.map(ht:∀a xs,TupV K H a xs->TupV K H' a xs)(hl:∀a xs,¬O a->Rd H a (.lst xs)->¬O' a/\Rd H' a (.lst xs))(hd:∀a o u,H a=some (.frz o u)->H' a=some (.frz o u)):∀{ds:List (Sum Int Str×D)} {vs:List (Key×V)},RDk K H O ds vs->RDk K H' O' ds vs
 |[],_,h=>h
 |(k,d)::ds,vs,h=>by
  obtain⟨v,r,e,h1,h2⟩:=h
  exact⟨v,r,e,RD.map ht hl hd h1,RDk.map ht hl hd h2⟩
theorem RDt.map(ht:∀a xs,TupV K H a xs->TupV K H' a xs)(hl:∀a xs,¬O a->Rd H a (.lst xs)->¬O' a/\Rd H' a (.lst xs))(hd:∀a o u,H a=some (.frz o u)->H' a=some (.frz o u)):∀{ds:List (List (Sum Int Str)×D)} {vs:List (List Key×V)},RDt K H O ds vs->RDt K H' O' ds vs
 |[],_,h=>h
 |(k,d)::ds,vs,h=>by
  obtain⟨v,r,e,h1,h2⟩:=h
  exact⟨v,r,e,RD.map ht hl hd h1,RDt.map ht hl hd h2⟩
end
theorem Rd.same(s:Same H H')(h:Rd H a u):Rd H' a u:=by
 rcases h with h|⟨o,h⟩
 ·exact .inl (s _ _ h)
 ·exact .inr ⟨o,s _ _ h⟩
theorem TupV.same(s:Same H H')(h:TupV K H a xs):TupV K H' a xs:=h.imp (λq=>s _ _ q) id
theorem RD.same(s:Same H H')(h:RD K H O d v):RD K H' O d v:=RD.map (λ_ _ q=>TupV.same s q) (λ_ _ n q=>⟨n,Rd.same s q⟩) (λ_ _ _ q=>s _ _ q) h
theorem RDk.same(s:Same H H'){d:List (Sum Int Str×D)}{v:List (Key×V)}(h:RDk K H O d v):RDk K H' O d v:=RDk.map (λ_ _ q=>TupV.same s q) (λ_ _ n q=>⟨n,Rd.same s q⟩) (λ_ _ _ q=>s _ _ q) h
theorem RDt.same(s:Same H H'){d:List (List (Sum Int Str)×D)}{v:List (List Key×V)}(h:RDt K H O d v):RDt K H' O d v:=RDt.map (λ_ _ q=>TupV.same s q) (λ_ _ n q=>⟨n,Rd.same s q⟩) (λ_ _ _ q=>s _ _ q) h
theorem RDs.same(s:Same H H'){d:List D}{v:List V}(h:RDs K H O d v):RDs K H' O d v:=RDs.map (λ_ _ q=>TupV.same s q) (λ_ _ n q=>⟨n,Rd.same s q⟩) (λ_ _ _ q=>s _ _ q) h
theorem RD.weak(s:∀a,O' a->O a)(h:RD K H O d v):RD K H O' d v:=RD.map (λ_ _ q=>q) (λa _ n q=>⟨λz=>n (s a z),q⟩) (λ_ _ _ q=>q) h
theorem RDk.weak(s:∀a,O' a->O a){d:List (Sum Int Str×D)}{v:List (Key×V)}(h:RDk K H O d v):RDk K H O' d v:=RDk.map (λ_ _ q=>q) (λa _ n q=>⟨λz=>n (s a z),q⟩) (λ_ _ _ q=>q) h
theorem RDt.weak(s:∀a,O' a->O a){d:List (List (Sum Int Str)×D)}{v:List (List Key×V)}(h:RDt K H O d v):RDt K H O' d v:=RDt.map (λ_ _ q=>q) (λa _ n q=>⟨λz=>n (s a z),q⟩) (λ_ _ _ q=>q) h
theorem RDs.weak(s:∀a,O' a->O a){d:List D}{v:List V}(h:RDs K H O d v):RDs K H O' d v:=RDs.map (λ_ _ q=>q) (λa _ n q=>⟨λz=>n (s a z),q⟩) (λ_ _ _ q=>q) h
noncomputable def cW(O:Addr->Prop)(p:Addr):Addr->Prop:=λa=>O a\/a=p
noncomputable def pI(O:Addr->Prop)(p:Addr):Addr->Prop:=λa=>O a/\a≠p
theorem Rd.ne(hp:H p=none)(h:Rd H a u):a≠p:=by
 rcases h with h|⟨o,h⟩<;>exact cV h hp
theorem RD.new(hp:H p=none)(h:RD K H O d v):RD K H (cW O p) d v:=
 RD.map (λ_ _ q=>q) (λa _ n q=>⟨λz=>z.elim n (Rd.ne hp q),q⟩) (λ_ _ _ q=>q) h
theorem RDk.new(hp:H p=none){d:List (Sum Int Str×D)}{v:List (Key×V)}(h:RDk K H O d v):RDk K H (cW O p) d v:=
 RDk.map (λ_ _ q=>q) (λa _ n q=>⟨λz=>z.elim n (Rd.ne hp q),q⟩) (λ_ _ _ q=>q) h
theorem RDt.new(hp:H p=none){d:List (List (Sum Int Str)×D)}{v:List (List Key×V)}(h:RDt K H O d v):RDt K H (cW O p) d v:=
 RDt.map (λ_ _ q=>q) (λa _ n q=>⟨λz=>z.elim n (Rd.ne hp q),q⟩) (λ_ _ _ q=>q) h
theorem RDs.new(hp:H p=none){d:List D}{v:List V}(h:RDs K H O d v):RDs K H (cW O p) d v:=
 RDs.map (λ_ _ q=>q) (λa _ n q=>⟨λz=>z.elim n (Rd.ne hp q),q⟩) (λ_ _ _ q=>q) h
noncomputable def gG:HO->Prop
 |.lst _=>True
 |.dK _=>True
 |.dT _=>True
 |_=>False
theorem eF(hO:O p)(hp:H p=some o)(hm:gG o):(∀a xs,TupV K H a xs->TupV K (upd H p o') a xs)/\(∀a xs,¬O a->Rd H a (.lst xs)->¬O a/\Rd (upd H p o') a (.lst xs))/\∀a o1 u,H a=some (.frz o1 u)->upd H p o' a=some (.frz o1 u):=by
 refine⟨λa xs h=>?_,λa xs n h=>⟨n,?_⟩,λa o1 u h=>?_⟩
 ·rcases h with h|h
  ·exact .inl (by rw[aG (fK h hp (by intro z;subst z;exact hm))];exact h)
  ·exact .inr h
 ·have e:a≠p:=λz=>n (z▸hO)
  rcases h with h|⟨o,h⟩
  ·exact .inl (by rw[aG e];exact h)
  ·exact .inr ⟨o,by rw[aG e];exact h⟩
 ·rw[aG (fK h hp (by intro z;subst z;exact hm))];exact h
theorem RD.updM(hO:O p)(hp:H p=some o)(hm:gG o)(h:RD K H O d v):RD K (L2.upd H p o') O d v:=RD.map (eF (K:=K) hO hp hm).1 (eF (K:=K) hO hp hm).2.1 (eF (K:=K) hO hp hm).2.2 h
theorem RDs.updM(hO:O p)(hp:H p=some o)(hm:gG o){d:List D}{v:List V}(h:RDs K H O d v):RDs K (L2.upd H p o') O d v:=RDs.map (eF (K:=K) hO hp hm).1 (eF (K:=K) hO hp hm).2.1 (eF (K:=K) hO hp hm).2.2 h
theorem RDk.updM(hO:O p)(hp:H p=some o)(hm:gG o){d:List (Sum Int Str×D)}{v:List (Key×V)}(h:RDk K H O d v):RDk K (L2.upd H p o') O d v:=RDk.map (eF (K:=K) hO hp hm).1 (eF (K:=K) hO hp hm).2.1 (eF (K:=K) hO hp hm).2.2 h
theorem RDt.updM(hO:O p)(hp:H p=some o)(hm:gG o){d:List (List (Sum Int Str)×D)}{v:List (List Key×V)}(h:RDt K H O d v):RDt K (L2.upd H p o') O d v:=RDt.map (eF (K:=K) hO hp hm).1 (eF (K:=K) hO hp hm).2.1 (eF (K:=K) hO hp hm).2.2 h
theorem RD.upd(hO:O p)(hp:H p=some (.lst ys))(h:RD K H O d v):RD K (L2.upd H p (.lst zs)) O d v:=RD.updM hO hp trivial h
theorem RDs.upd(hO:O p)(hp:H p=some (.lst ys)){d:List D}{v:List V}(h:RDs K H O d v):RDs K (L2.upd H p (.lst zs)) O d v:=RDs.updM hO hp trivial h
mutual
theorem RD.flat:∀{d:D} {v:V},d.flat=true->RD K H O d v->RD K H O' d v
 |.non,_,_,h=>h
 |.bl _,_,_,h=>h
 |.int _,_,_,h=>h
 |.str _,_,_,h=>h
 |.tup ds,v,f,h=>by
  obtain⟨a,xs,e,s,r⟩:=h
  rw[D.flat]at f
  exact⟨a,xs,e,s,RDs.flat f r⟩
 |.lst ds,v,f,_=>by rw[D.flat]at f;cases f
 |.dct _,_,f,_=>by rw[D.flat]at f;cases f
 |.tdc _,_,f,_=>by rw[D.flat]at f;cases f
 |.cnt _ _,_,f,_=>by rw[D.flat]at f;cases f
theorem RDs.flat:∀{ds:List D} {vs:List V},D.flats ds=true->RDs K H O ds vs->RDs K H O' ds vs
 |[],_,_,h=>h
 |d::ds,vs,f,h=>by
  obtain⟨v,r,e,h1,h2⟩:=h
  rw[D.flats,aD]at f
  exact⟨v,r,e,RD.flat f.1 h1,RDs.flat f.2 h2⟩
end
theorem RDs.length:∀{ds:List D} {vs:List V},RDs K H O ds vs->vs.length=ds.length
 |[],_,h=>by rw[RDs]at h;rw[h];rfl
 |d::ds,vs,h=>by
  obtain⟨v,r,e,_,h2⟩:=h
  rw[e,aN,aN,RDs.length h2]
theorem RDs.get:∀{ds:List D} {vs:List V} {i:Nat} {d:D},RDs K H O ds vs->ds[i]?=some d->∃v,vs[i]?=some v/\RD K H O d v
 |[],_,_,_,_,e=>by simp at e
 |d::ds,vs,0,d',h,e=>by
  obtain⟨v,r,rfl,h1,_⟩:=h
  simp at e;subst e
  exact⟨v,rfl,h1⟩
 |d::ds,vs,i+1,d',h,e=>by
  obtain⟨v,r,rfl,_,h2⟩:=h
  obtain⟨w,h3,h4⟩:=RDs.get (i:=i) h2 (by simpa using e)
  exact⟨w,by simpa using h3,h4⟩
theorem RDs.append:∀{ds es:List D} {vs ws:List V},RDs K H O ds vs->RDs K H O es ws->RDs K H O (ds++es) (vs++ws)
 |[],_,_,_,h,g=>by rw[RDs]at h;subst h;exact g
 |d::ds,es,vs,ws,h,g=>by
  obtain⟨v,r,rfl,h1,h2⟩:=h
  exact⟨v,r++ws,rfl,h1,RDs.append h2 g⟩
theorem RDs.drop:∀{ds:List D} {vs:List V} (n:Nat),RDs K H O ds vs->RDs K H O (ds.drop n) (vs.drop n)
 |_,_,0,h=>h
 |[],_,n+1,h=>by rw[RDs]at h;subst h;exact rfl
 |d::ds,vs,n+1,h=>by
  obtain⟨v,r,rfl,_,h2⟩:=h
  exact RDs.drop n h2
theorem RDs.take:∀{ds:List D} {vs:List V} (n:Nat),RDs K H O ds vs->RDs K H O (ds.take n) (vs.take n)
 |_,_,0,_=>by simp[RDs]
 |[],_,n+1,h=>by rw[RDs]at h;subst h;simp[RDs]
 |d::ds,vs,n+1,h=>by
  obtain⟨v,r,rfl,h1,h2⟩:=h
  exact⟨v,r.take n,rfl,h1,RDs.take n h2⟩
theorem RDs.reverse(h:RDs K H O ds vs):RDs K H O ds.reverse vs.reverse:=by
 induction ds generalizing vs with
 |nil=>rw[RDs]at h;subst h;exact rfl
 |cons d ds ih=>
  obtain⟨v,r,rfl,h1,h2⟩:=h
  rw[wZ,wZ]
  exact RDs.append (ih h2) ⟨v,[],rfl,h1,rfl⟩
theorem RDs.cut(lo hi:Option Int)(h:RDs K H O ds vs):RDs K H O (Tr.cut ds lo hi) (iZ vs lo hi):=by
 have e:=RDs.length h
 unfold Tr.cut iZ
 rw[e]
 exact RDs.take _ (RDs.drop _ h)
theorem RDs.cons{d:D}{v:V}{ds:List D}{vs:List V}(h:RD K H O d v)(r:RDs K H O ds vs):RDs K H O (d::ds) (v::vs):=⟨v,vs,rfl,h,r⟩
theorem RDs.nil:RDs K H O [] []:=rfl
theorem RDk.length:∀{ds:List (Sum Int Str×D)} {vs:List (Key×V)},RDk K H O ds vs->vs.length=ds.length
 |[],_,h=>by rw[RDk]at h;rw[h];rfl
 |(k,d)::ds,vs,h=>by
  obtain⟨v,r,e,_,h2⟩:=h
  rw[e,aN,aN,RDk.length h2]
theorem RDt.length:∀{ds:List (List (Sum Int Str)×D)} {vs:List (List Key×V)},RDt K H O ds vs->vs.length=ds.length
 |[],_,h=>by rw[RDt]at h;rw[h];rfl
 |(k,d)::ds,vs,h=>by
  obtain⟨v,r,e,_,h2⟩:=h
  rw[e,aN,aN,RDt.length h2]
theorem RD.rr(h:RD K H O d v):RR K H O d v:=.inl h
theorem RDs.rr:∀{ds:List D} {vs:List V},RDs K H O ds vs->RRs K H O ds vs
 |[],_,h=>h
 |d::ds,vs,h=>by
  obtain⟨v,r,e,h1,h2⟩:=h
  exact⟨v,r,e,.inl h1,RDs.rr h2⟩
theorem OwnAt.map(hs:∀{d v},RDs K H O d v->RDs K H' O' d v)(hk:∀{d v},RDk K H O d v->RDk K H' O' d v)(hk2:∀{d v},RDt K H O d v->RDt K H' O' d v)(ho:∀o,gG o->H a=some o->H' a=some o):∀{d:D},OwnAt K H O a d->OwnAt K H' O' a d
 |.lst ds,⟨xs,h1,h2⟩=>⟨xs,ho _ trivial h1,hs h2⟩
 |.dct ds,⟨xs,h1,h2⟩=>⟨xs,ho _ trivial h1,hk h2⟩
 |.tdc ds,⟨xs,h1,h2⟩=>⟨xs,ho _ trivial h1,hk2 h2⟩
 |.non,h | .bl _,h | .int _,h | .str _,h | .tup _,h | .cnt _ _,h=>h.elim
theorem OwnAt.same(s:Same H H')(h:OwnAt K H O a d):OwnAt K H' O a d:=OwnAt.map (λq=>q.same s) (λq=>q.same s) (λq=>q.same s) (λ_ _ q=>s _ _ q) h
theorem OwnAt.new(hp:H p=none)(h:OwnAt K H O a d):OwnAt K H (cW O p) a d:=OwnAt.map (λq=>q.new hp) (λq=>q.new hp) (λq=>q.new hp) (λ_ _ q=>q) h
theorem OwnAt.weak(s:∀a,O' a->O a)(h:OwnAt K H O a d):OwnAt K H O' a d:=OwnAt.map (λq=>q.weak s) (λq=>q.weak s) (λq=>q.weak s) (λ_ _ q=>q) h
theorem OwnAt.updM(hO:O p)(hp:H p=some o)(hm:gG o)(hne:a≠p)(h:OwnAt K H O a d):OwnAt K (L2.upd H p o') O a d:=OwnAt.map (λq=>q.updM hO hp hm) (λq=>q.updM hO hp hm) (λq=>q.updM hO hp hm) (λ_ _ q=>by rw[aG hne];exact q) h
theorem OwnAt.obj:∀{d:D},OwnAt K H O a d->∃o,H a=some o/\gG o
 |.lst ds,⟨xs,h1,h2⟩=>⟨_,h1,trivial⟩
 |.dct ds,⟨xs,h1,h2⟩=>⟨_,h1,trivial⟩
 |.tdc ds,⟨xs,h1,h2⟩=>⟨_,h1,trivial⟩
 |.non,h | .bl _,h | .int _,h | .str _,h | .tup _,h | .cnt _ _,h=>h.elim
theorem OwnAt.rd(hn:¬O a):∀{d:D},d.isDct=false->OwnAt K H O a d->RD K H O d (.ref a)
 |.lst ds,_,⟨xs,h1,h2⟩=>⟨a,xs,rfl,.inl ⟨hn,.inl h1⟩,h2⟩
 |.dct ds,z,_=>by cases z
 |.tdc ds,z,_=>by cases z
 |.cnt _ _,z,_=>by cases z
 |.non,_,h | .bl _,_,h | .int _,_,h | .str _,_,h | .tup _,_,h=>h.elim
theorem RR.same(s:Same H H')(h:RR K H O d v):RR K H' O d v:=by
 rcases h with h|⟨a,e,h⟩
 ·exact .inl (h.same s)
 ·exact .inr ⟨a,e,h.same s⟩
theorem RR.lst(h:RR K H O (.lst ds) v):∃a xs,v=.ref a/\SqL K H a xs/\RDs K H O ds xs:=by
 rcases h with⟨a,xs,e,s,r⟩|⟨a,e,xs,h1,h2⟩
 ·refine⟨a,xs,e,?_,r⟩
  rcases s with⟨_,s⟩|s
  ·exact .inl s
  ·exact .inr s
 ·exact⟨a,xs,e,.of h1,h2⟩
theorem RR.dct{kvs:List (Sum Int Str×D)}(h:RR K H O (.dct kvs) v):∃a ps,v=.ref a/\Rd H a (.dK ps)/\RDk K H O kvs ps:=by
 rcases h with⟨a,ps,e,s,r⟩|⟨a,e,ps,h1,h2⟩
 ·exact⟨a,ps,e,.inr s,r⟩
 ·exact⟨a,ps,e,.inl h1,h2⟩
theorem RR.tdc{kvs:List (List (Sum Int Str)×D)}(h:RR K H O (.tdc kvs) v):∃a ps,v=.ref a/\Rd H a (.dT ps)/\RDt K H O kvs ps:=by
 rcases h with⟨a,ps,e,s,r⟩|⟨a,e,ps,h1,h2⟩
 ·exact⟨a,ps,e,.inr s,r⟩
 ·exact⟨a,ps,e,.inl h1,h2⟩
theorem RR.tupV(h:RR K H O (.tup ds) v):∃a xs,v=.ref a/\TupV K H a xs/\RDs K H O ds xs:=by
 rcases h with h|⟨a,e,h⟩
 ·exact h
 ·exact h.elim
theorem RR.tup(h:RR K H O (.tup ds) v):∃a xs,v=.ref a/\SqT K H a xs/\RDs K H O ds xs:=by
 obtain⟨a,xs,e,q,r⟩:=h.tupV
 exact⟨a,xs,e,q.sq,r⟩
noncomputable def D.still:D->Bool
 |.lst _=>false
 |.dct _=>false
 |.tdc _=>false
 |_=>true
theorem RR.rd(h:RR K H O d v)(n:d.still=true):RD K H O d v:=by
 rcases h with h|⟨a,e,h⟩
 ·exact h
 ·cases d with
  |lst _=>cases n
  |dct _=>cases n
  |tdc _=>cases n
  |non=>exact h.elim
  |bl _=>exact h.elim
  |int _=>exact h.elim
  |str _=>exact h.elim
  |tup _=>exact h.elim
  |cnt _ _=>exact h.elim
end
noncomputable def NV(K:PySem.W.Frag)(H:Hp)(O:Addr->Prop)(d:D)(v:V):Prop:=(d=.non/\v=.non)\/∃ds a xs,d=.lst ds/\D.flats ds=true/\v=.ref a/\H a=some (.lst xs)/\¬O a/\RDs K H O ds xs
theorem NV.map{O':Addr->Prop}(hs:∀{d v},RDs K H O d v->RDs K H' O' d v)(hn:∀a xs,¬O a->H a=some (.lst xs)->¬O' a/\H' a=some (.lst xs))(h:NV K H O d v):NV K H' O' d v:=by
 rcases h with h|⟨ds,a,xs,h1,h2,h3,h4,h5,h6⟩
 ·exact .inl h
 ·obtain⟨h7,h8⟩:=hn a xs h5 h4
  exact .inr ⟨ds,a,xs,h1,h2,h3,h8,h7,hs h6⟩
theorem NV.rd(h:NV K H O d v):RD K H O d v:=by
 rcases h with⟨rfl,rfl⟩|⟨ds,a,xs,rfl,h2,rfl,h4,h5,h6⟩
 ·exact rfl
 ·exact⟨a,xs,rfl,.inl ⟨h5,.inl h4⟩,h6⟩
noncomputable def kV:Sum Int Str->V
 |.inl i=>.int i
 |.inr x=>.str x
noncomputable def RS(K:PySem.W.Frag)(H:Hp)(O:Addr->Prop)(own:Option Addr):Sl->Option V->Prop
 |.no,_=>True
 |.v d,ov=>∃v,ov=some v/\RD K H O d v
 |.o d,ov=>∃a,own=some a/\ov=some (.ref a)/\OwnAt K H O a d
 |.t ds,ov=>∃t p ys vs a r,own=some p/\ov=some (.ref t)/\(∃ks:List (Sum Int Str),ds=ks.map iI++.lst a::r/\TupV K H t (ks.map kV++.ref p::vs))/\H p=some (.lst ys)/\RDs K H O a ys/\RDs K H O r vs
 |.n d,ov=>∃v,ov=some v/\NV K H O d v
 |.r a d,ov=>own=some a/\ov=some (.ref a)/\OwnAt K H O a d
noncomputable def bY(σ:L2.St)(i:Nat):Option V:=(σ[i]?).join
noncomputable def retX:Stmt->Option Expr
 |.Return e _=>e
 |_=>none
noncomputable def kwX:Expr->Option Expr
 |.Call _ _ [k] _=>some k.value
 |_=>none
noncomputable def lamX:Expr->Option Pos
 |.Lambda _ _ _ p=>some p
 |_=>none
noncomputable def lD(b:List Stmt):Option Pos:=(b.getLast?.bind retX).bind λe=>(kwX e).bind lamX
noncomputable def pJ(K:PySem.W.Frag)(c:Value):Option Addr:=match c with
 |.ref c=>match K.lookup c with
  |some o=>match o.data with
   |.fields vs=>match(vs[11]?:Option Value)with
    |some (.ref P)=>some P
    |_=>none
   |_=>none
  |none=>none
 |_=>none
noncomputable def AA:FuncBody->List Stmt
 |.stmts b=>b
 |_=>[]
noncomputable def lamTab(K:PySem.W.Frag)(o:Obj):Option (Addr×Pos×Str):=match o.data with
 |.func fd=>(lD (AA fd.body)).bind λp=>(pJ K fd.code).map λP=>(P,p,fd.qualname ++ ".<locals>." ++ "<lambda>")
 |_=>none
noncomputable def nE(K:PySem.W.Frag):List (Addr×Pos×Str):=K.filterMap λq=>lamTab K q.2
noncomputable def BmK (K:PySem.W.Frag) (H:Hp):Prop:=∃(bm:Addr) (ob:Obj),PySem.W.nsIn K mainGlobals "__builtins__" = some (some (.ref bm))/\H bm=some (.frz ob (.own bm))/\ob.cls=.type "module" /\ ob.dict=some builtinsNs/\ob.data=.plain/\bm≠builtinsNs
noncomputable def TabK(K:PySem.W.Frag)(H:Hp):Prop:=(∀t∈nE K,H t.1=some (.ctab t.2.1 t.2.2))/\(nE K≠[]->BmK K H)
theorem TabK.same(h:TabK K H)(s:Same H H'):TabK K H':=
 ⟨λt ht=>s _ _ (h.1 t ht),λn=>let ⟨bm,ob,h1,h2,h3⟩:=h.2 n;⟨bm,ob,h1,s _ _ h2,h3⟩⟩
theorem TabK.none(h:nE K=[]):TabK K H:=⟨λt ht=>(by rw[h]at ht;cases ht),λn=>absurd h n⟩
noncomputable abbrev Trk(K:PySem.W.Frag)(H:Hp)(O:Addr->Prop):Prop:=(∀a,O a->∃o,H a=some o)/\TabK K H
set_option genInjectivity false in
structure Fm(K:PySem.W.Frag)(H_h:Hp)(O0:Addr->Prop)(H:Hp)(O:Addr->Prop)(own:Nat->Option Addr)(e:Nv)(σ:L2.St):Prop where
 len:e.length=σ.length
 sl:∀i,RS K H O (own i) (e.at i) (bY σ i)
 inj:∀i j a,own i=some a->own j=some a->i=j
 same:Same H_h H
 sub:∀a,O0 a->O a
 trk0:Trk K H_h O0
 trk:∀a,O a->∃o,H a=some o
 new:∀i a,own i=some a->O a/\H_h a=none
 nw:∀i d a,e.at i=.n d->bY σ i=some (.ref a)->H_h a=none
section
variable{K:PySem.W.Frag}{H_h H H':Hp}{O0 O O':Addr->Prop}{own:Nat->Option Addr}{e:Nv}{σ:L2.St}
theorem RS.same(s:Same H H'){o:Option Addr}{x:Sl}{ov:Option V}(h:RS K H O o x ov):RS K H' O o x ov:=by
 cases x with
 |no=>trivial
 |v d=>obtain⟨v,e,r⟩:=h;exact⟨v,e,r.same s⟩
 |o d=>obtain⟨a,e1,e2,h⟩:=h;exact⟨a,e1,e2,h.same s⟩
 |r a d=>exact⟨h.1,h.2.1,h.2.2.same s⟩
 |t ds=>obtain⟨t,p,ys,vs,a,r,e1,e2,⟨ks,e3,h1⟩,h2,h3,h4⟩:=h;exact⟨t,p,ys,vs,a,r,e1,e2,⟨ks,e3,TupV.same s h1⟩,s _ _ h2,h3.same s,h4.same s⟩
 |n d=>obtain⟨v,e,r⟩:=h;exact⟨v,e,r.map (λq=>q.same s) λa xs z q=>⟨z,s _ _ q⟩⟩
theorem Fm.tab(F:Fm K H_h O0 H O own e σ):TabK K H:=F.trk0.2.same F.same
theorem Fm.grow(F:Fm K H_h O0 H O own e σ)(s:Same H H'):Fm K H_h O0 H' O own e σ:=
 ⟨F.len,λi=>(F.sl i).same s,F.inj,F.same.trans s,F.sub,F.trk0,λa h=>let ⟨xs,q⟩:=F.trk a h;⟨xs,s _ _ q⟩,F.new,F.nw⟩
end
end Tr
namespace Tr
open PySem PySem.Spec PyProof.Rows L2
variable{p:Addr}{O:Addr->Prop}{d:D}{H H' H1:Hp}{i j:Nat}{ov:Option V}{K:PySem.W.Frag}{x:Sl}{n:Str}{v:V}
section
variable{K:PySem.W.Frag}{H_h H H':Hp}{O0 O O':Addr->Prop}{own:Nat->Option Addr}{e:Nv}{σ:L2.St}
theorem jE{e:Nv}(h:i<e.length):Nv.at (e.set i x) i=x:=by
 unfold Nv.at;rw[wV h];rfl
theorem gH{e:Nv}(h:i≠j):Nv.at (e.set i x) j=Nv.at e j:=by
 unfold Nv.at;rw[wW h]
theorem iM{e:Nv}(h:¬i<e.length):Nv.at e i=.no:=by
 unfold Nv.at;rw[jR (by lia)];rfl
theorem pK{σ:L2.St}(h:i<σ.length):bY (σ.set i (some v)) i=some v:=by
 unfold bY;rw[wV h];rfl
theorem nF{σ:L2.St}{v:Option V}(h:i≠j):bY (σ.set i v) j=bY σ j:=by
 unfold bY;rw[wW h]
theorem AB{H_h:Hp}{e:Nv}{σ:L2.St}(hx:∀d,x≠.n d)(h:∀j d a,e.at j=.n d->bY σ j=some (.ref a)->H_h a=none):∀j d a,Nv.at (e.set i x) j=.n d->bY (σ.set i ov) j=some (.ref a)->H_h a=none:=λj d a h1 h2=>by
 by_cases z:i=j
 ·subst z
  by_cases hi:i<e.length
  ·rw[jE hi]at h1;exact absurd h1 (hx d)
  ·rw[iM (by rw[eQ];exact hi)]at h1;cases h1
 ·rw[gH z]at h1;rw[nF z]at h2;exact h j d a h1 h2
theorem sX{H_h:Hp}{e:Nv}{σ:L2.St}(hx:∀d,x≠.n d)(h:∀j d a,e.at j=.n d->bY σ j=some (.ref a)->H_h a=none):∀j d a,Nv.at (e.set i x) j=.n d->bY σ j=some (.ref a)->H_h a=none:=λj d a h1 h2=>by
 by_cases z:i=j
 ·subst z
  by_cases hi:i<e.length
  ·rw[jE hi]at h1;exact absurd h1 (hx d)
  ·rw[iM (by rw[eQ];exact hi)]at h1;cases h1
 ·rw[gH z]at h1;exact h j d a h1 h2
theorem eS{σ:L2.St}(h:bY σ i=some v):σ[i]?=some (some v):=by
 unfold bY at h
 cases q:σ[i]? with
 |none=>rw[q]at h;cases h
 |some o=>rw[q]at h;cases o with
  |none=>cases h
  |some w=>cases h;rfl
theorem RS.map(ht:∀{d v},RD K H O d v->RD K H' O' d v)(hs:∀{d v},RDs K H O d v->RDs K H' O' d v)(hk:∀{d v},RDk K H O d v->RDk K H' O' d v)(hk2:∀{d v},RDt K H O d v->RDt K H' O' d v){o:Option Addr}(ho:∀a u,o=some a->gG u->H a=some u->H' a=some u)(h:RS K H O o x ov)(hn:∀a xs,¬O a->H a=some (.lst xs)->¬O' a/\H' a=some (.lst xs))(hq:∀a xs,TupV K H a xs->TupV K H' a xs:=by first|exact λ_ _ q=>q|exact λ_ _ q=>TupV.same (by assumption) q):RS K H' O' o x ov:=by
 cases x with
 |no=>trivial
 |v d=>obtain⟨v,e,r⟩:=h;exact⟨v,e,ht r⟩
 |o d=>obtain⟨a,e1,e2,h⟩:=h;exact⟨a,e1,e2,h.map hs hk hk2 λu hm q=>ho a u e1 hm q⟩
 |t ds=>obtain⟨t,p,ys,vs,a,r,e1,e2,⟨ks,e3,h1⟩,h2,h3,h4⟩:=h;exact⟨t,p,ys,vs,a,r,e1,e2,⟨ks,e3,hq _ _ h1⟩,ho p _ e1 trivial h2,hs h3,hs h4⟩
 |n d=>obtain⟨v,e,r⟩:=h;exact⟨v,e,r.map hs hn⟩
 |r a d=>exact⟨h.1,h.2.1,h.2.2.map hs hk hk2 λu hm q=>ho a u h.1 hm q⟩
theorem AC(hp:H p=none)(s:Same H H'):∀a xs,¬O a->H a=some (.lst xs)->¬cW O p a/\H' a=some (.lst xs):=λa xs n q=>⟨λz=>z.elim n (cV q hp),s _ _ q⟩
theorem sY{o':HO}(hO:O p):∀a xs,¬O a->H a=some (.lst xs)->¬O a/\upd H p o' a=some (.lst xs):=λa xs n q=>⟨n,by
 have ne:a≠p:=λz=>n (z▸hO)
 rw[aG ne];exact q⟩
theorem IL(w:∀a,O' a->O a):∀a xs,¬O a->H a=some (.lst xs)->¬O' a/\H a=some (.lst xs):=λa xs n q=>⟨λz=>n (w a z),q⟩
theorem Fm.setV(F:Fm K H_h O0 H O own e σ)(i:Nat)(r:RD K H O d v):Fm K H_h O0 H O (λj=>if j=i then none else own j) (e.set i (.v d)) (σ.set i (some v)) where
 len:=by rw[eQ,eQ];exact F.len
 sl:=λj=>by
  by_cases h:i=j
  ·subst h
   by_cases hi:i<e.length
   ·rw[jE hi,pK (by rw[<-F.len];exact hi)];exact⟨v,rfl,r⟩
   ·rw[iM (by rw[eQ];exact hi)];trivial
  ·rw[gH h,nF h,if_neg (Ne.symm h)];exact F.sl j
 inj:=λj k a h1 h2=>by
  by_cases h:j=i
  ·rw[if_pos h]at h1;cases h1
  ·by_cases h':k=i
   ·rw[if_pos h']at h2;cases h2
   ·rw[if_neg h]at h1;rw[if_neg h']at h2;exact F.inj j k a h1 h2
 same:=F.same
 sub:=F.sub
 trk0:=F.trk0
 trk:=F.trk
 new:=λj a h1=>by
  by_cases h:j=i
  ·rw[if_pos h]at h1;cases h1
  ·rw[if_neg h]at h1;exact F.new j a h1
 nw:=AB (λ_ z=>by cases z) F.nw
theorem Fm.setN(F:Fm K H_h O0 H O own e σ)(i:Nat)(r:NV K H O d v)(h0:∀a,v=.ref a->H_h a=none):Fm K H_h O0 H O (λj=>if j=i then none else own j) (e.set i (.n d)) (σ.set i (some v)) where
 len:=by rw[eQ,eQ];exact F.len
 sl:=λj=>by
  by_cases h:i=j
  ·subst h
   by_cases hi:i<e.length
   ·rw[jE hi,pK (by rw[<-F.len];exact hi)];exact⟨v,rfl,r⟩
   ·rw[iM (by rw[eQ];exact hi)];trivial
  ·rw[gH h,nF h,if_neg (Ne.symm h)];exact F.sl j
 inj:=(F.setV i r.rd).inj
 same:=F.same
 sub:=F.sub
 trk0:=F.trk0
 trk:=F.trk
 new:=(F.setV i r.rd).new
 nw:=λj d' a h1 h2=>by
  by_cases z:i=j
  ·subst z
   by_cases hi:i<e.length
   ·rw[pK (by rw[<-F.len];exact hi)]at h2
    exact h0 a (dJ.inj h2)
   ·rw[iM (by rw[eQ];exact hi)]at h1;cases h1
  ·rw[gH z]at h1;rw[nF z]at h2;exact F.nw j d' a h1 h2
theorem Fm.setO(F:Fm K H_h O0 H O own e σ)(s:Same H H')(i:Nat)(hp:H p=none)(r:OwnAt K H' (cW O p) p d) :
 Fm K H_h O0 H' (cW O p) (λj=>if j=i then some p else own j) (e.set i (.o d)) (σ.set i (some (.ref p))) where
 len:=by rw[eQ,eQ];exact F.len
 sl:=λj=>by
  by_cases h:i=j
  ·subst h
   rw[if_pos rfl]
   by_cases hi:i<e.length
   ·rw[jE hi,pK (by rw[<-F.len];exact hi)];exact⟨p,rfl,rfl,r⟩
   ·rw[iM (by rw[eQ];exact hi)];trivial
  ·rw[gH h,nF h,if_neg (Ne.symm h)]
   exact RS.map (λq=>(q.new hp).same s) (λq=>(q.new hp).same s) (λq=>(q.new hp).same s) (λq=>(q.new hp).same s) (λa u _ _ q=>s _ _ q) (F.sl j) (AC hp s)
 inj:=λj k a h1 h2=>by
  have no:∀j,own j≠some p:=λj q=>by
   obtain⟨xs,w⟩:=F.trk p (F.new j p q).1
   rw[hp]at w;cases w
  by_cases h:j=i
  ·rw[if_pos h]at h1
   cases h1
   by_cases h':k=i
   ·rw[h,h']
   ·rw[if_neg h']at h2;exact absurd h2 (no k)
  ·rw[if_neg h]at h1
   by_cases h':k=i
   ·rw[if_pos h']at h2;cases h2;exact absurd h1 (no j)
   ·rw[if_neg h']at h2;exact F.inj j k a h1 h2
 same:=F.same.trans s
 sub:=λa h=>.inl (F.sub a h)
 trk0:=F.trk0
 trk:=λa h=>by
  rcases h with h|h
  ·obtain⟨ys,q⟩:=F.trk a h
   exact⟨ys,s _ _ q⟩
  ·subst h
   obtain⟨o,h1,_⟩:=r.obj
   exact⟨o,h1⟩
 new:=λj a h1=>by
  by_cases h:j=i
  ·rw[if_pos h]at h1;cases h1;exact⟨.inr rfl,F.same.free hp⟩
  ·rw[if_neg h]at h1;exact⟨.inl (F.new j a h1).1,(F.new j a h1).2⟩
 nw:=AB (λ_ z=>by cases z) F.nw
theorem Fm.mutA(F:Fm K H_h O0 H O own e σ)(i:Nat)(hi:e.at i=.o d):∃p,bY σ i=some (.ref p)/\OwnAt K H O p d/\O p /\
 ∀d' o',(∀o,H p=some o->OwnAt K (upd H p o') O p d')->Fm K H_h O0 (upd H p o') O own (e.set i (.o d')) σ:=by
 have q:=F.sl i
 rw[hi]at q
 obtain⟨p,e1,e2,h1⟩:=q
 obtain⟨o,ho,hm⟩:=h1.obj
 have hn:=F.new i p e1
 refine⟨p,e2,h1,hn.1,λd' o' r=>?_⟩
 have hlen:i<e.length:=by
  by_cases h:i<e.length
  ·exact h
  ·rw[iM h]at hi;cases hi
 refine⟨by rw[eQ];exact F.len,λj=>?_,F.inj,λb u hb=>?_,F.sub,F.trk0,λa ha=>?_,F.new,sX (λ_ z=>by cases z) F.nw⟩
 ·by_cases h:i=j
  ·subst h
   rw[jE hlen,e2]
   exact⟨p,e1,rfl,r o ho⟩
  ·rw[gH h]
   refine RS.map (λq=>q.updM hn.1 ho hm) (λq=>q.updM hn.1 ho hm) (λq=>q.updM hn.1 ho hm) (λq=>q.updM hn.1 ho hm) (λa u ea _ q=>?_) (F.sl j) (sY hn.1) (eF (K:=K) hn.1 ho hm).1
   have:a≠p:=λz=>h (F.inj i j p e1 (z▸ea))
   rw[aG this];exact q
 ·rw[aG (λz=>by rw[z,hn.2]at hb;cases hb)];exact F.same b u hb
 ·by_cases h:a=p
  ·subst h;exact⟨_,bA⟩
  ·obtain⟨ys,q⟩:=F.trk a ha
   exact⟨ys,by rw[aG h];exact q⟩
theorem Fm.mut(F:Fm K H_h O0 H O own e σ)(i:Nat){ds:List D}(hi:e.at i=.o (.lst ds)):∃p xs,bY σ i=some (.ref p)/\H p=some (.lst xs)/\RDs K H O ds xs/\O p /\
 ∀ds' xs',RDs K H O ds' xs'->Fm K H_h O0 (upd H p (.lst xs')) O own (e.set i (.o (.lst ds'))) σ:=by
 obtain⟨p,e2,⟨xs,h1,h2⟩,hO,k⟩:=F.mutA i hi
 exact⟨p,xs,e2,h1,h2,hO,λds' xs' r=>k (.lst ds') (.lst xs') λ_ _=>⟨xs',bA,r.upd hO h1⟩⟩
theorem Fm.mutD(F:Fm K H_h O0 H O own e σ)(i:Nat){ds:List (Sum Int Str×D)}(hi:e.at i=.o (.dct ds)):∃p xs,bY σ i=some (.ref p)/\H p=some (.dK xs)/\RDk K H O ds xs/\O p /\
 ∀ds' xs',RDk K H O ds' xs'->Fm K H_h O0 (upd H p (.dK xs')) O own (e.set i (.o (.dct ds'))) σ:=by
 obtain⟨p,e2,⟨xs,h1,h2⟩,hO,k⟩:=F.mutA i hi
 exact⟨p,xs,e2,h1,h2,hO,λds' xs' r=>k (.dct ds') (.dK xs') λ_ _=>⟨xs',bA,r.updM hO h1 trivial⟩⟩
theorem Fm.mutT(F:Fm K H_h O0 H O own e σ)(i:Nat){ds:List (List (Sum Int Str)×D)}(hi:e.at i=.o (.tdc ds)):∃p xs,bY σ i=some (.ref p)/\H p=some (.dT xs)/\RDt K H O ds xs/\O p /\
 ∀ds' xs',RDt K H O ds' xs'->Fm K H_h O0 (upd H p (.dT xs')) O own (e.set i (.o (.tdc ds'))) σ:=by
 obtain⟨p,e2,⟨xs,h1,h2⟩,hO,k⟩:=F.mutA i hi
 exact⟨p,xs,e2,h1,h2,hO,λds' xs' r=>k (.tdc ds') (.dT xs') λ_ _=>⟨xs',bA,r.updM hO h1 trivial⟩⟩
theorem Fm.seal(F:Fm K H_h O0 H O own e σ)(i:Nat)(hi:e.at i=.o d)(hd:d.isDct=false):∃O' own',Fm K H_h O0 H O' own' (e.set i (.v d)) σ/\∀a,O' a->O a:=by
 have q:=F.sl i
 rw[hi]at q
 obtain⟨p,e1,e2,h1⟩:=q
 have hn:=F.new i p e1
 have hlen:i<e.length:=by
  by_cases h:i<e.length
  ·exact h
  ·rw[iM h]at hi;cases hi
 refine⟨pI O p,λj=>if j=i then none else own j,⟨by rw[eQ];exact F.len,λj=>?_,λj k a q1 q2=>?_,F.same,λa ha=>⟨F.sub a ha,λz=>?_⟩,F.trk0,λa ha=>F.trk a ha.1,λj a q1=>?_,sX (λ_ z=>by cases z) F.nw⟩,λa ha=>ha.1⟩
 ·by_cases h:i=j
  ·subst h
   rw[jE hlen,e2]
   exact⟨.ref p,rfl,OwnAt.rd (λz=>z.2 rfl) hd (h1.weak λ_ z=>z.1)⟩
  ·rw[gH h,if_neg (Ne.symm h)]
   exact RS.map (λq=>q.weak λ_ z=>z.1) (λq=>q.weak λ_ z=>z.1) (λq=>q.weak λ_ z=>z.1) (λq=>q.weak λ_ z=>z.1) (λa ys _ _ q=>q) (F.sl j) (IL λ_ z=>z.1)
 ·by_cases h:j=i
  ·rw[if_pos h]at q1;cases q1
  ·by_cases h':k=i
   ·rw[if_pos h']at q2;cases q2
   ·rw[if_neg h]at q1;rw[if_neg h']at q2;exact F.inj j k a q1 q2
 ·obtain⟨o,w⟩:=F.trk0.1 a ha
  rw[z,hn.2]at w;cases w
 ·by_cases h:j=i
  ·rw[if_pos h]at q1;cases q1
  ·rw[if_neg h]at q1
   exact⟨⟨(F.new j a q1).1,λz=>h (F.inj j i p (z▸q1) e1)⟩,(F.new j a q1).2⟩
theorem Fm.sealD(F:Fm K H_h O0 H O own e σ)(i:Nat)(hi:e.at i=.o d)(hd:d.isDct=true):∃p u,H p=some u/\((∃ps,u=.dK ps)\/∃ps,u=.dT ps)/\bY σ i=some (.ref p)/\(O p/\gG u) /\
 ∀ob,(∃own',Fm K H_h O0 (upd H p (.frz ob u)) (pI O p) own' (e.set i (.v d)) σ)/\RD K (upd H p (.frz ob u)) (pI O p) d (.ref p):=by
 have q:=F.sl i
 rw[hi]at q
 obtain⟨p,e1,e2,h1⟩:=q
 have hn:=F.new i p e1
 have hlen:i<e.length:=by
  by_cases h:i<e.length
  ·exact h
  ·rw[iM h]at hi;cases hi
 obtain⟨u,hu,hm⟩:=h1.obj
 have hk:((∃ps,u=.dK ps)\/∃ps,u=.dT ps)/\∀ob,RD K (upd H p (.frz ob u)) (pI O p) d (.ref p):=by
  cases d with
  |dct kvs=>
   obtain⟨ps,g1,g2⟩:=h1
   rw[g1]at hu
   cases hu
   exact⟨.inl ⟨ps,rfl⟩,λob=>⟨p,ps,rfl,⟨ob,bA⟩,(g2.updM hn.1 g1 trivial).weak λ_ z=>z.1⟩⟩
  |tdc kvs=>
   obtain⟨ps,g1,g2⟩:=h1
   rw[g1]at hu
   cases hu
   exact⟨.inr ⟨ps,rfl⟩,λob=>⟨p,ps,rfl,⟨ob,bA⟩,(g2.updM hn.1 g1 trivial).weak λ_ z=>z.1⟩⟩
  |cnt _ _=>exact h1.elim
  |_=>cases hd
 refine⟨p,u,hu,hk.1,e2,⟨hn.1,hm⟩,λob=>⟨⟨λj=>if j=i then none else own j,⟨by rw[eQ];exact F.len,λj=>?_,λj k a q1 q2=>?_,λb w hb=>?_,λa ha=>⟨F.sub a ha,λz=>?_⟩,F.trk0,λa ha=>?_,λj a q1=>?_,sX (λ_ z=>by cases z) F.nw⟩⟩,hk.2 ob⟩⟩
 ·by_cases h:i=j
  ·subst h
   rw[jE hlen,e2]
   exact⟨.ref p,rfl,hk.2 ob⟩
  ·rw[gH h,if_neg (Ne.symm h)]
   refine RS.map (λq=>(q.updM hn.1 hu hm).weak λ_ z=>z.1) (λq=>(q.updM hn.1 hu hm).weak λ_ z=>z.1) (λq=>(q.updM hn.1 hu hm).weak λ_ z=>z.1) (λq=>(q.updM hn.1 hu hm).weak λ_ z=>z.1) (λa w ea _ q=>?_) (F.sl j) (λa xs n q=>?_) (eF (K:=K) hn.1 hu hm).1
   ·have:a≠p:=λz=>h (F.inj i j p e1 (z▸ea))
    rw[aG this];exact q
   ·obtain⟨_,z2⟩:=sY (o':=.frz ob u) hn.1 a xs n q
    exact⟨λz=>n z.1,z2⟩
 ·by_cases h:j=i
  ·rw[if_pos h]at q1;cases q1
  ·by_cases h':k=i
   ·rw[if_pos h']at q2;cases q2
   ·rw[if_neg h]at q1;rw[if_neg h']at q2;exact F.inj j k a q1 q2
 ·rw[aG (λz=>by rw[z,hn.2]at hb;cases hb)];exact F.same b w hb
 ·obtain⟨o,w⟩:=F.trk0.1 a ha
  rw[z,hn.2]at w;cases w
 ·obtain⟨o,w⟩:=F.trk a ha.1
  exact⟨o,by rw[aG ha.2];exact w⟩
 ·by_cases h:j=i
  ·rw[if_pos h]at q1;cases q1
  ·rw[if_neg h]at q1
   exact⟨⟨(F.new j a q1).1,λz=>h (F.inj j i p (z▸q1) e1)⟩,(F.new j a q1).2⟩
theorem Fm.val(F:Fm K H_h O0 H O own e σ)(h:(e.at i).val=.ok d):∃v,σ[i]?=some (some v)/\RD K H O d v:=by
 have q:=F.sl i
 cases z:e.at i with
 |no=>rw[z]at h;cases h
 |o d=>rw[z]at h;cases h
 |t d=>rw[z]at h;cases h
 |r a d=>rw[z]at h;cases h
 |n d'=>
  rw[z]at h q
  cases h
  obtain⟨v,e1,r⟩:=q
  exact⟨v,eS e1,r.rd⟩
 |v d'=>
  rw[z]at h q
  cases h
  obtain⟨v,e1,r⟩:=q
  exact⟨v,eS e1,r⟩
theorem Fm.any(F:Fm K H_h O0 H O own e σ)(h:(e.at i).any=.ok d):∃v,σ[i]?=some (some v)/\RR K H O d v:=by
 have q:=F.sl i
 cases z:e.at i with
 |no=>rw[z]at h;cases h
 |t d=>rw[z]at h;cases h
 |o d'=>
  rw[z]at h q
  cases h
  obtain⟨a,e1,e2,h1⟩:=q
  exact⟨.ref a,eS e2,.inr ⟨a,rfl,h1⟩⟩
 |r a d'=>
  rw[z]at h q
  cases h
  exact⟨.ref a,eS q.2.1,.inr ⟨a,rfl,q.2.2⟩⟩
 |n d'=>
  rw[z]at h q
  cases h
  obtain⟨v,e1,r⟩:=q
  exact⟨v,eS e1,.inl r.rd⟩
 |v d'=>
  rw[z]at h q
  cases h
  obtain⟨v,e1,r⟩:=q
  exact⟨v,eS e1,.inl r⟩
theorem Sl.own_ok{a:List D}(h:x.own=.ok a):x=.o (.lst a):=by
 unfold Sl.own at h
 split at h
 ·cases h;rfl
 ·cases h
theorem Sl.ownD_ok{a:List (Sum Int Str×D)}(h:x.ownD=.ok a):x=.o (.dct a):=by
 unfold Sl.ownD at h
 split at h
 ·cases h;rfl
 ·cases h
theorem Sl.ownT_ok{a:List (List (Sum Int Str)×D)}(h:x.ownT=.ok a):x=.o (.tdc a):=by
 unfold Sl.ownT at h
 split at h
 ·cases h;rfl
 ·cases h
theorem Sl.ownA_ok{a:D}(h:x.ownA=.ok a):x=.o a:=by
 unfold Sl.ownA at h
 split at h
 ·cases h;rfl
 ·cases h
end
noncomputable def NewL(K:PySem.W.Frag)(H H':Hp)(O:Addr->Prop)(d:D)(v:V):Prop:=d.still=false->∃a,v=.ref a/\H a=none/\OwnAt K H' (cW O a) a d
theorem NewL.back(s:Same H1 H)(n:NewL K H H' O d v):NewL K H1 H' O d v:=λz=>by
 obtain⟨a,h1,h2,h3⟩:=n z
 exact⟨a,h1,s.free h2,h3⟩
theorem NewL.same(s:Same H1 H')(n:NewL K H H1 O d v):NewL K H H' O d v:=λz=>by
 obtain⟨a,h1,h2,h3⟩:=n z
 exact⟨a,h1,h2,h3.same s⟩
theorem NewL.weak{O':Addr->Prop}(s:∀a,O' a->O a)(n:NewL K H H' O d v):NewL K H H' O' d v:=λz=>by
 obtain⟨a,h1,h2,h3⟩:=n z
 exact⟨a,h1,h2,h3.weak λb hb=>hb.imp (s b) id⟩
theorem NewL.still(h:d.still=true):NewL K H H' O d v:=λz=>by rw[h]at z;cases z
noncomputable def NewR(K:PySem.W.Frag)(H H':Hp)(O:Addr->Prop)(d:D)(v:V):Prop:=NewL K H H' O d v/\∀(ks:List (Sum Int Str))(a r:List D),d=.tup (ks.map iI++.lst a::r)->∃t p ys vs,v=.ref t/\TupV K H' t (ks.map kV++.ref p::vs)/\H p=none/\H' p=some (.lst ys)/\RDs K H' (cW O p) a ys/\RDs K H' (cW O p) r vs
theorem IM(ks:List (Sum Int Str))(a r:List D):mY (ks.map iI++.lst a::r)=true:=by
 induction ks with
 |nil=>rfl
 |cons k ks ih=>cases k<;>exact ih
theorem NewR.of(n:NewL K H H' O d v)(h:mZ d=false):NewR K H H' O d v:=⟨n,λks a r z=>by
 subst z
 have h:mY _=false:=h
 rw[IM]at h;cases h⟩
section
variable(T:Tab)(cf:Nat->List D->Res D)(K:PySem.W.Frag)(H_h:Hp)(O0:Addr->Prop)
noncomputable def tE(x:E):TE:=λσ H Q=>∃O own e d,Fm K H_h O0 H O own e σ/\evE T cf x e=.ok d/\∀v H',Same H H'->RD K H' O d v->(cP T x=true->NewL K H H' O d v)->Q v H'
noncomputable def tR(x:E):TE:=λσ H Q=>∃O own e d,Fm K H_h O0 H O own e σ/\evE T cf x e=.ok d/\∀v H',Same H H'->RR K H' O d v->Q v H'
noncomputable def tT(x:E):TT:=λσ H Q=>∃O own e d k,Fm K H_h O0 H O own e σ/\evE T cf x e=.ok d/\d.truth=.ok k/\∀H',Same H H'->Q k H'
noncomputable def NewAs(H H':Hp)(O:Addr->Prop)(x:E)(ds:List D)(vs:List V):Prop:=∀j d v,cP T (yX x j)=true->ds[j]?=some d->vs[j]?=some v->NewL K H H' O d v
noncomputable def tAv(x:E):TA:=λσ H Q=>∃O own e ds,Fm K H_h O0 H O own e σ/\evA T cf x e=.ok ds/\∀vs H',Same H H'->RDs K H' O ds vs->NewAs T K H H' O x ds vs->Q vs H'
noncomputable def tAr(x:E):TA:=λσ H Q=>∃O own e ds,Fm K H_h O0 H O own e σ/\evA T cf x e=.ok ds/\∀vs H',Same H H'->RRs K H' O ds vs->Q vs H'
end
section
variable(T:Tab)(cf:Nat->List D->Res D)(X:Cx)
noncomputable def SE(x:E)(p:Expr):Prop:=∀H_h O0,PE X p (tE T cf X.K H_h O0 x)
noncomputable def SR(x:E)(p:Expr):Prop:=∀H_h O0,PE X p (tR T cf X.K H_h O0 x)
noncomputable def ST(x:E)(p:Expr):Prop:=∀H_h O0,PT X p (tT T cf X.K H_h O0 x)
noncomputable def SAv(x:E)(p:List Expr):Prop:=∀H_h O0,PA X p (tAv T cf X.K H_h O0 x)
noncomputable def SAr(x:E)(p:List Expr):Prop:=∀H_h O0,PA X p (tAr T cf X.K H_h O0 x)
end
section
variable{T:Tab}{cf:Nat->List D->Res D}{X:Cx}{x y z:E}{p q r:Expr}{pos:Pos}
theorem PE.imp{t t':TE}(h:∀σ H Q,t' σ H Q->t σ H Q)(hp:PE X p t):PE X p t':=λpins s σ H Q I q=>hp pins s σ H Q I (h σ H Q q)
theorem PT.imp{t t':TT}(h:∀σ H Q,t' σ H Q->t σ H Q)(hp:PT X p t):PT X p t':=λpins s σ H Q I q=>hp pins s σ H Q I (h σ H Q q)
theorem SE.sr(h:SE T cf X x p):SR T cf X x p:=λH_h O0=>PE.imp (λσ H Q ⟨O,own,e,d,F,ev,q⟩=>⟨O,own,e,d,F,ev,λv H' s r _=>q v H' s r.rr⟩) (h H_h O0)
theorem SAv.sr{ps:List Expr}(h:SAv T cf X x ps):SAr T cf X x ps:=λH_h O0 pos pins s σ H Q I ⟨O,own,e,ds,F,ev,q⟩=>h H_h O0 pos pins s σ H Q I ⟨O,own,e,ds,F,ev,λvs H' s r _=>q vs H' s r.rr⟩
theorem se_var {i:Nat} (hN:X.N[i]?=some n) (hv:Vis X.env.scope n) (hd:(n==("__debug__" : Str))=false) (hc:(n==("__classdict__" : Str))=false):SE T cf X (.var i) (.Name n pos):=λH_h O0=>
 PE.imp (λσ H Q ⟨O,own,e,d,F,ev,q⟩=>by
  obtain⟨v,h1,h2⟩:=F.val (i:=i) (by rw[yY]at ev;exact ev)
  exact⟨v,h1,q v H (Same.refl H) h2 (λz=>by cases z)⟩) (fV hN hv hd hc)
theorem AD {i:Nat} (hN:X.N[i]?=some n) (hv:Vis X.env.scope n) (hd:(n==("__debug__" : Str))=false) (hc:(n==("__classdict__" : Str))=false):SR T cf X (.rd i) (.Name n pos):=λH_h O0=>
 PE.imp (λσ H Q ⟨O,own,e,d,F,ev,q⟩=>by
  obtain⟨v,h1,h2⟩:=F.any (i:=i) (by rw[yZ]at ev;exact ev)
  exact⟨v,h1,q v H (Same.refl H) h2⟩) (fV hN hv hd hc)
noncomputable def sZ:D->Const->Bool
 |.non,.none=>true
 |.bl a,.bool b=>a==b
 |.int i,.int j=>i==j
 |.str a,.str b=>a==b
 |_,_=>false
theorem se_con{c:Const}{k:Nat}(h:sZ d c=true):SE T cf X (.con d) (.Constant c k pos):=λH_h O0=>by
 have fin:∀{v:V} {σ:L2.St} {H:Hp} {Q:VK},(∀H O,RD X.K H O d v)->tE T cf X.K H_h O0 (.con d) σ H Q->Q v H:=λhv ⟨O,own,e,d',F,ev,q⟩=>by
  rw[sO]at ev;cases ev
  exact q _ _ (Same.refl _) (hv _ _) (λz=>by cases z)
 cases d<;>cases c<;>first
  |(exact absurd (show false=true from h) aJ)
  |(exact PE.imp (λσ H Q w=>fin (v:=.non) (λ_ _=>rfl) w) pe_non)
  |(have e:=eq_of_beq (show _==_ from h);subst e;first
   |exact PE.imp (λσ H Q w=>fin (λ_ _=>rfl) w) pe_bl
   |exact PE.imp (λσ H Q w=>fin (λ_ _=>rfl) w) pe_int
   |exact PE.imp (λσ H Q w=>fin (λ_ _=>rfl) w) pe_str)
noncomputable def AE(X:Cx)(n:Str)(d:D):Prop:=∃v u,X.mg n=some u/\RelV v u/\∀H O,RD X.K H O d v
theorem IP {g:Nat} (hg:Gl X n) (h:AE X n (T.glob g)) (hd:(n==("__debug__" : Str))=false):SE T cf X (.glob g) (.Name n pos):=λH_h O0=>by
 obtain⟨v,u,hm,r,hv⟩:=h
 refine PE.imp (λσ H Q hq=>?_) (Fb (v:=v) hg hm r hd)
 obtain⟨O,own,e,d,F,ev,q⟩:=hq
 rw[HF]at ev;cases ev
 exact q v H (Same.refl H) (hv H O) (λz=>by cases z)
noncomputable def rD2(K:PySem.W.Frag)(f:D->D->Res D)(fr:Bool):R2:=λx y H Q=>∃O d1 d2 d,RR K H O d1 x/\RR K H O d2 y/\f d1 d2=.ok d/\(∀a,O a->∃o,H a=some o)/\∀v H',Same H H'->RD K H' O d v->(fr=true->NewL K H H' O d v)->Q v H'
theorem tB{w:E}{pe:Expr}{f:D->D->Res D}(hw:∀e,evE T cf w e=(do let a<-evE T cf x e;let b<-evE T cf y e;f a b))
 (hop:∀{ta tb:TE},PE X p ta->PE X q tb->PE X pe (tOp (rD2 X.K f (cP T w)) ta tb)) (ha:SR T cf X x p) (hb:SR T cf X y q):SE T cf X w pe:=λH_h O0=>by
 refine PE.imp (λσ H Q hq=>?_) (hop (ha H_h O0) (hb H_h O0))
 obtain⟨O,own,e,d,F,ev,k⟩:=hq
 rw[hw]at ev
 obtain⟨d1,e1,ev⟩:=Res.bind_ok ev
 obtain⟨d2,e2,ev⟩:=Res.bind_ok ev
 refine⟨O,own,e,d1,F,e1,λv1 H1 s1 r1=>?_⟩
 refine⟨O,own,e,d2,F.grow s1,e2,λv2 H2 s2 r2=>?_⟩
 refine⟨O,d1,d2,d,r1.same s2,r2,ev,λa ha=>?_,λv H' s3 r3 n3=>?_⟩
 ·exact(F.grow (s1.trans s2)).trk a ha
 ·exact k v H' ((s1.trans s2).trans s3) r3 λfr=>(n3 fr).back (s1.trans s2)
end
end Tr
namespace Tr
open PySem PySem.Spec PyProof.Rows L2
variable{a b:Addr}{O:Addr->Prop}{d:D}{n:Int}{cl:List (Int×Int)}{ps:List (Key×V)}{ds:List D}{xs:List V}{K:PySem.W.Frag}{v:V}{u:Value}
noncomputable abbrev no:Addr->Prop:=λ_=>False
section
variable{X:Cx}{pins:List (Addr×Obj)}{σ:L2.St}{H:Hp}{s:Shared}
theorem pL(I:Inv X pins σ H s){ys:List V}(h1:SqL X.K H a xs)(h2:SqT X.K H a ys):False:=by
 obtain⟨its,_,pl,_⟩:=I.list h1
 obtain⟨its',_,pt,_⟩:=I.tuple h2
 exact SeqAt.ne_of_list_tuple pl.isList pt rfl
theorem RD.sql(h:RD K H O (.lst ds) v):∃a xs,v=.ref a/\SqL K H a xs/\RDs K H O ds xs:=RR.lst (.inl h)
theorem AF (I:Inv X pins σ H s) (h:Rd H a (.dK ps)):∃o,s.heap.get? a=some o/\o.cls=.type "dict" := by
 obtain⟨_,_,vs,_,o,es,ep,e,c,_⟩:=(show ObjOk X.prog X.w H s.heap a (.dK ps)from oY I.hok h)
 exact⟨o,e,c.1⟩
theorem pM(I:Inv X pins σ H s)(h:Rd H a (.dK ps))(h2:SqL X.K H a xs):False:=by
 obtain⟨its,_,pl,_⟩:=I.list h2
 obtain⟨o,e,c⟩:=AF I h
 obtain⟨o',e',c',_⟩:=pl.isList
 rw[e]at e';cases e'
 rw[c]at c'
 injection c' with z
 exact absurd z (by decide)
theorem pN(I:Inv X pins σ H s)(h:Rd H a (.dK ps))(h2:SqT X.K H a xs):False:=by
 obtain⟨its,_,pl,_⟩:=I.tuple h2
 obtain⟨o,e,c⟩:=AF I h
 obtain⟨o',e',c',_⟩:=pl
 rw[e]at e';cases e'
 rw[c]at c'
 injection c' with z
 exact absurd z (by decide)
theorem AG (I:Inv X pins σ H s) {ps:List (List Key×V)} (h:Rd H a (.dT ps)):∃o,s.heap.get? a=some o/\o.cls=.type "dict" := by
 obtain⟨_,_,vs,_,o,es,ep,e,c,_⟩:=(show ObjOk X.prog X.w H s.heap a (.dT ps)from oY I.hok h)
 exact⟨o,e,c.1⟩
theorem pO(I:Inv X pins σ H s){ps:List (List Key×V)}(h:Rd H a (.dT ps))(h2:SqL X.K H a xs):False:=by
 obtain⟨its,_,pl,_⟩:=I.list h2
 obtain⟨o,e,c⟩:=AG I h
 obtain⟨o',e',c',_⟩:=pl.isList
 rw[e]at e';cases e'
 rw[c]at c'
 injection c' with z
 exact absurd z (by decide)
theorem pP(I:Inv X pins σ H s){ps:List (List Key×V)}(h:Rd H a (.dT ps))(h2:SqT X.K H a xs):False:=by
 obtain⟨its,_,pl,_⟩:=I.tuple h2
 obtain⟨o,e,c⟩:=AG I h
 obtain⟨o',e',c',_⟩:=pl
 rw[e]at e';cases e'
 rw[c]at c'
 injection c' with z
 exact absurd z (by decide)
theorem AH(I:Inv X pins σ H s)(h:iL K H O a b n cl):∃o C,s.heap.get? a=some o/\o.cls=.ref C:=by
 obtain⟨o,C,dx,kd,xs,e,_⟩:=h
 obtain⟨_,⟨_,_,e2,_⟩,_⟩:=(show ObjOk X.prog X.w H s.heap a (.frz o (.cnt C dx kd b n cl))from I.hok a _ e)
 exact⟨_,C,e2,rfl⟩
theorem pQ(I:Inv X pins σ H s)(h:iL X.K H O a b n cl)(h2:SqT X.K H a xs):False:=by
 obtain⟨its,_,pl,_⟩:=I.tuple h2
 obtain⟨o,C,e,c⟩:=AH I h
 obtain⟨o',e',c',_⟩:=pl
 rw[e]at e';cases e'
 rw[c]at c';cases c'
theorem pR(I:Inv X pins σ H s)(h:iL X.K H O a b n cl)(h2:SqL X.K H a xs):False:=by
 obtain⟨its,_,pl,_⟩:=I.list h2
 obtain⟨o,C,e,c⟩:=AH I h
 obtain⟨o',n',e',c',_⟩:=pl
 rw[e]at e';cases e'
 rw[c]at c';cases c'
theorem AI{b':Addr}{n':Int}{cl':List (Int×Int)}(h:iL K H O a b n cl)(h':iL K H O a b' n' cl'):n=n'/\cl=cl':=by
 obtain⟨o,C,dx,kd,xs,e,_⟩:=h
 obtain⟨o',C',dx',kd',xs',e',_⟩:=h'
 have:=e.symm.trans e'
 cases this
 exact⟨rfl,rfl⟩
theorem pS(h:iL K H O a b n cl)(h':Rd H a (.dK ps)):False:=by
 obtain⟨o,C,dx,kd,xs,e,_⟩:=h
 rcases h' with z|⟨o',z⟩
 ·have:=e.symm.trans z;cases this
 ·have:=e.symm.trans z;cases this
theorem pT{ps:List (List Key×V)}(h:iL K H O a b n cl)(h':Rd H a (.dT ps)):False:=by
 obtain⟨o,C,dx,kd,xs,e,_⟩:=h
 rcases h' with z|⟨o',z⟩
 ·have:=e.symm.trans z;cases this
 ·have:=e.symm.trans z;cases this
mutual
theorem RD.inj(I:Inv X pins σ H s):∀{d d':D} {v:V},RD X.K H no d v->RD X.K H no d' v->d=d'
 |.non,d',v,h,h'=>by cases (show v=.non from h);cases d'<;>first|(obtain⟨a,xs,e,_⟩:=h';cases e;done)|rfl|(cases h';done)
 |.bl b,d',v,h,h'=>by cases (show v=.bl b from h);cases d'<;>first|(obtain⟨a,xs,e,_⟩:=h';cases e;done)|rfl|(cases h';rfl)|(cases h';done)
 |.int b,d',v,h,h'=>by cases (show v=.int b from h);cases d'<;>first|(obtain⟨a,xs,e,_⟩:=h';cases e;done)|rfl|(cases h';rfl)|(cases h';done)
 |.str b,d',v,h,h'=>by cases (show v=.str b from h);cases d'<;>first|(obtain⟨a,xs,e,_⟩:=h';cases e;done)|rfl|(cases h';rfl)|(cases h';done)
 |.tup ds,d',v,h,h'=>by
  obtain⟨a,xs,e,q,r⟩:=h
  subst e
  cases d' with
  |tup ds'=>
   obtain⟨a',xs',e,q',r'⟩:=h'
   cases e
   have:=I.tuple_inj q.sq q'.sq
   subst this
   rw[RDs.inj I r r']
  |lst ds'=>
   obtain⟨a',xs',e,q',r'⟩:=RD.sql h'
   cases e
   exact(pL I q' q.sq).elim
  |non=>cases h'
  |bl _=>cases h'
  |int _=>cases h'
  |str _=>cases h'
  |dct _=>
   obtain⟨a',xs',e,q',r'⟩:=h'
   cases e
   exact(pN I (.inr q') q.sq).elim
  |tdc _=>
   obtain⟨a',xs',e,q',r'⟩:=h'
   cases e
   exact(pP I (.inr q') q.sq).elim
  |cnt _ _=>
   obtain⟨a',b',e,q'⟩:=h'
   cases e
   exact(pQ I q' q.sq).elim
 |.lst ds,d',v,h,h'=>by
  obtain⟨a,xs,e,q,r⟩:=RD.sql h
  subst e
  cases d' with
  |lst ds'=>
   obtain⟨a',xs',e,q',r'⟩:=RD.sql h'
   cases e
   have:=I.list_inj q q'
   subst this
   rw[RDs.inj I r r']
  |tup ds'=>
   obtain⟨a',xs',e,q',r'⟩:=h'
   cases e
   exact(pL I q q'.sq).elim
  |non=>cases h'
  |bl _=>cases h'
  |int _=>cases h'
  |str _=>cases h'
  |dct _=>
   obtain⟨a',xs',e,q',r'⟩:=h'
   cases e
   exact(pM I (.inr q') q).elim
  |tdc _=>
   obtain⟨a',xs',e,q',r'⟩:=h'
   cases e
   exact(pO I (.inr q') q).elim
  |cnt _ _=>
   obtain⟨a',b',e,q'⟩:=h'
   cases e
   exact(pR I q' q).elim
 |.dct kvs,d',v,h,h'=>by
  obtain⟨a,xs,e,q,r⟩:=h
  subst e
  cases d' with
  |dct kvs'=>
   obtain⟨a',xs',e,q',r'⟩:=h'
   cases e
   obtain⟨o1,q⟩:=q
   obtain⟨o2,q'⟩:=q'
   have:=q.symm.trans q'
   cases this
   rw[RDk.inj I r r']
  |tup ds'=>
   obtain⟨a',xs',e,q',r'⟩:=h'
   cases e
   exact(pN I (.inr q) q'.sq).elim
  |lst ds'=>
   obtain⟨a',xs',e,q',r'⟩:=RD.sql h'
   cases e
   exact(pM I (.inr q) q').elim
  |non=>cases h'
  |bl _=>cases h'
  |int _=>cases h'
  |str _=>cases h'
  |tdc _=>
   obtain⟨a',xs',e,q',r'⟩:=h'
   cases e
   obtain⟨o1,q⟩:=q
   obtain⟨o2,q'⟩:=q'
   have:=q.symm.trans q'
   cases this
  |cnt _ _=>
   obtain⟨a',b',e,q'⟩:=h'
   cases e
   exact(pS q' (.inr q)).elim
 |.tdc kvs,d',v,h,h'=>by
  obtain⟨a,xs,e,q,r⟩:=h
  subst e
  cases d' with
  |tdc kvs'=>
   obtain⟨a',xs',e,q',r'⟩:=h'
   cases e
   obtain⟨o1,q⟩:=q
   obtain⟨o2,q'⟩:=q'
   have:=q.symm.trans q'
   cases this
   rw[RDt.inj I r r']
  |tup ds'=>
   obtain⟨a',xs',e,q',r'⟩:=h'
   cases e
   exact(pP I (.inr q) q'.sq).elim
  |lst ds'=>
   obtain⟨a',xs',e,q',r'⟩:=RD.sql h'
   cases e
   exact(pO I (.inr q) q').elim
  |non=>cases h'
  |bl _=>cases h'
  |int _=>cases h'
  |str _=>cases h'
  |dct _=>
   obtain⟨a',xs',e,q',r'⟩:=h'
   cases e
   obtain⟨o1,q⟩:=q
   obtain⟨o2,q'⟩:=q'
   have:=q.symm.trans q'
   cases this
  |cnt _ _=>
   obtain⟨a',b',e,q'⟩:=h'
   cases e
   exact(pT q' (.inr q)).elim
 |.cnt n cl,d',v,h,h'=>by
  obtain⟨a,b,e,q⟩:=h
  subst e
  cases d' with
  |cnt _ _=>
   obtain⟨a',b',e,q'⟩:=h'
   cases e
   obtain⟨z1,z2⟩:=AI q q'
   rw[z1,z2]
  |tup ds'=>
   obtain⟨a',xs',e,q',r'⟩:=h'
   cases e
   exact(pQ I q q'.sq).elim
  |lst ds'=>
   obtain⟨a',xs',e,q',r'⟩:=RD.sql h'
   cases e
   exact(pR I q q').elim
  |non=>cases h'
  |bl _=>cases h'
  |int _=>cases h'
  |str _=>cases h'
  |dct _=>
   obtain⟨a',xs',e,q',r'⟩:=h'
   cases e
   exact(pS q (.inr q')).elim
  |tdc _=>
   obtain⟨a',xs',e,q',r'⟩:=h'
   cases e
   exact(pT q (.inr q')).elim
theorem RDs.inj(I:Inv X pins σ H s):∀{ds ds':List D} {vs:List V},RDs X.K H no ds vs->RDs X.K H no ds' vs->ds=ds'
 |[],[],_,_,_=>rfl
 |[],_::_,_,h,h'=>by
  rw[RDs]at h;subst h
  obtain⟨_,_,e,_⟩:=h';cases e
 |_::_,[],_,h,h'=>by
  rw[RDs]at h';subst h'
  obtain⟨_,_,e,_⟩:=h;cases e
 |d::ds,d'::ds',vs,h,h'=>by
  obtain⟨v,r,rfl,h1,h2⟩:=h
  obtain⟨v',r',e,h1',h2'⟩:=h'
  cases e
  rw[RD.inj I h1 h1',RDs.inj I h2 h2']
theorem RDk.inj(I:Inv X pins σ H s):∀{ds ds':List (Sum Int Str×D)} {vs:List (Key×V)},RDk X.K H no ds vs->RDk X.K H no ds' vs->ds=ds'
 |[],[],_,_,_=>rfl
 |[],_::_,_,h,h'=>by
  rw[RDk]at h;subst h
  obtain⟨_,_,e,_⟩:=h';cases e
 |_::_,[],_,h,h'=>by
  rw[RDk]at h';subst h'
  obtain⟨_,_,e,_⟩:=h;cases e
 |(k,d)::ds,(k',d')::ds',vs,h,h'=>by
  obtain⟨v,r,rfl,h1,h2⟩:=h
  obtain⟨v',r',e,h1',h2'⟩:=h'
  cases e
  rw[RD.inj I h1 h1',RDk.inj I h2 h2']
theorem RDt.inj(I:Inv X pins σ H s):∀{ds ds':List (List (Sum Int Str)×D)} {vs:List (List Key×V)},RDt X.K H no ds vs->RDt X.K H no ds' vs->ds=ds'
 |[],[],_,_,_=>rfl
 |[],_::_,_,h,h'=>by
  rw[RDt]at h;subst h
  obtain⟨_,_,e,_⟩:=h';cases e
 |_::_,[],_,h,h'=>by
  rw[RDt]at h';subst h'
  obtain⟨_,_,e,_⟩:=h;cases e
 |(k,d)::ds,(k',d')::ds',vs,h,h'=>by
  obtain⟨v,r,rfl,h1,h2⟩:=h
  obtain⟨v',r',e,h1',h2'⟩:=h'
  cases e
  rw[RD.inj I h1 h1',RDt.inj I h2 h2']
end
noncomputable def fX(xs ys:List D)(j:Nat):Bool:=match xs[j]?,ys[j]? with
 |some x,some y=>D.eqb x y
 |_,_=>false
theorem IQ(x y:D)(xs ys:List D)(j:Nat):fX (x::xs) (y::ys) (j+1)=fX xs ys j:=by simp[fX]
theorem nG:∀xs ys:List D,xs.length=ys.length->(aC xs.length).all (fX xs ys)=D.eqs xs ys
 |[],[],_=>rfl
 |[],_::_,h=>by simp at h
 |_::_,[],h=>by simp at h
 |x::xs,y::ys,h=>by
  rw[aN,lY,gP,FJ,sG,<-nG xs ys (by simpa using h)]
  congr 1
theorem nH:∀xs ys:List D,xs.length≠ys.length->D.eqs xs ys=false
 |[],[],h=>by simp at h
 |[],_::_,_=>rfl
 |_::_,[],_=>rfl
 |x::xs,y::ys,h=>by rw[sG,nH xs ys (by simpa using h),FB]
theorem tD{xs ys:List D}:((aC (min xs.length ys.length)).all (fX xs ys)&&xs.length==ys.length)=D.eqs xs ys:=by
 by_cases h:xs.length=ys.length
 ·rw[<-nG xs ys h,h,Nat.min_self];simp
 ·rw[nH xs ys h];simp[h]
class Fr1 (u:HO):Prop where
 no:∀o v,u≠.frz o v
noncomputable instance{ps:List (Key×V)}:Fr1 (.dK ps):=⟨λo v z=>by cases z⟩
noncomputable instance{ps:List (List Key×V)}:Fr1 (.dT ps):=⟨λo v z=>by cases z⟩
inductive Sees(X:Cx)(H:Hp)(s:Shared):D->Value->Prop
 |non:Sees X H s .non .none
 |bl (b:_):Sees X H s (.bl b) (.bool b)
 |int (i t:_):Sees X H s (.int i) (.int i t)
 |str (x t:_):Sees X H s (.str x) (.str x t)
 |tup (ds:List D) (a:Addr) (xs:List V) (its:List Value):SqT X.K H a xs->RDs X.K H no ds xs->Vals xs its->IsTup s.heap a its.toArray->Sees X H s (.tup ds) (.ref a)
 |lst (ds:List D) (a:Addr) (xs:List V) (its:List Value):SqL X.K H a xs->RDs X.K H no ds xs->Vals xs its->PlainL s.heap a its.toArray->Sees X H s (.lst ds) (.ref a)
 |dct (ds:List (Sum Int Str×D)) (a:Addr) (ps:List (Key×V)):Rd H a (.dK ps)->RDk X.K H no ds ps->Sees X H s (.dct ds) (.ref a)
 |tdc (ds:List (List (Sum Int Str)×D)) (a:Addr) (ps:List (List Key×V)):Rd H a (.dT ps)->RDt X.K H no ds ps->Sees X H s (.tdc ds) (.ref a)
 |cnt (n:Int) (cl:List (Int×Int)) (a b:Addr):iL X.K H no a b n cl->Sees X H s (.cnt n cl) (.ref a)
theorem nI(I:Inv X pins σ H s)(h:RD X.K H no d v)(r:RelV v u):Sees X H s d u:=by
 cases d with
 |non=>cases (show v=.non from h);cases r;exact .non
 |bl b=>cases (show v=.bl b from h);cases r;exact .bl b
 |int i=>cases (show v=.int i from h);obtain⟨t,rfl⟩:=r;exact .int i t
 |str x=>cases (show v=.str x from h);obtain⟨t,rfl⟩:=r;exact .str x t
 |tup ds=>
  obtain⟨a,xs,rfl,q,w⟩:=h
  cases r
  obtain⟨its,r1,p1,_⟩:=I.tuple q.sq
  exact .tup ds a xs its q.sq w r1 p1
 |lst ds=>
  obtain⟨a,xs,rfl,q,w⟩:=RD.sql h
  cases r
  obtain⟨its,r1,p1,_⟩:=I.list q
  exact .lst ds a xs its q w r1 p1
 |dct ds=>
  obtain⟨a,ps,rfl,q,w⟩:=h
  cases r
  exact .dct ds a ps (.inr q) w
 |tdc ds=>
  obtain⟨a,ps,rfl,q,w⟩:=h
  cases r
  exact .tdc ds a ps (.inr q) w
 |cnt n cl=>
  obtain⟨a,b,rfl,q⟩:=h
  cases r
  exact .cnt n cl a b q
theorem tF(I:Inv X pins σ H s){O:Addr->Prop}(h:RR X.K H O d v)(r:RelV v u):Sees X H s d u:=by
 have w:∀{a:Addr},no a->O a:=λz=>z.elim
 rcases h with h|⟨a,rfl,h⟩
 ·exact nI I (h.weak λ_ z=>z.elim) r
 ·cases r
  cases d with
  |lst ds=>exact nI I (OwnAt.rd (O:=no) (λz=>z) rfl (h.weak λ_ z=>z.elim)) rfl
  |dct ds=>
   obtain⟨ps,h1,h2⟩:=h
   exact .dct ds a ps (.inl h1) (h2.weak λ_ z=>z.elim)
  |tdc ds=>
   obtain⟨ps,h1,h2⟩:=h
   exact .tdc ds a ps (.inl h1) (h2.weak λ_ z=>z.elim)
  |_=>exact h.elim
theorem pU{u u':HO}[Fr1 u][Fr1 u'](h:Rd H a u)(h':Rd H a u'):u=u':=by
 rcases h with h|⟨o,h⟩
 ·rcases h' with h'|⟨o',h'⟩
  ·exact dJ.inj (h.symm.trans h')
  ·have e:=dJ.inj (h.symm.trans h')
   exact(Fr1.no (u:=u) o' u' e).elim
 ·rcases h' with h'|⟨o',h'⟩
  ·have e:=dJ.inj (h'.symm.trans h)
   exact(Fr1.no (u:=u') o u e).elim
  ·have e:=dJ.inj (h.symm.trans h')
   cases e;rfl
theorem fY{its:List Value}(w:RDs X.K H no ds xs)(r:Vals xs its):its.length=ds.length:=by rw[<-r.length,w.length]
noncomputable def nJ(X:Cx)(H:Hp)(s:Shared)(n:Nat):Prop:=∀(ds1 ds2:List D)(A:Around)(us1 us2:List Value)(xs1 xs2:List V),RDs X.K H no ds1 xs1->Vals xs1 us1->RDs X.K H no ds2 xs2->Vals xs2 us2->D.pls n ds1=true->D.pls n ds2=true->A.units+n<cLine ->
 ∀j (h1:j<us1.length) (h2:j<us2.length),SeqAt.EqAt A.in1 s us1[j] us2[j] (fX ds1 ds2 j)
noncomputable def tH(X:Cx)(H:Hp)(s:Shared)(n:Nat):Prop:=∀(d1 d2:D)(A:Around)(u1 u2:Value),Sees X H s d1 u1->Sees X H s d2 u2->D.pl n d1=true->D.pl n d2=true->A.units+n<cLine->SeqAt.EqAt A s u1 u2 (D.eqb d1 d2)
theorem AJ(I:Inv X pins σ H s){n:Nat}(it:nJ X H s n):tH X H s n:=by
 intro d1 d2 A u1 u2 h1 h2 f1 f2 hu
 have hu':A.units<cLine:=by lia
 have nd2:∀ds,d2≠.dct ds:=λds z=>by rw[z]at f2;cases f2
 have nt2:∀ds,d2≠.tdc ds:=λds z=>by rw[z]at f2;cases f2
 have nc2:∀n cl,d2≠.cnt n cl:=λn cl z=>by rw[z]at f2;cases f2
 cases h1 with
 |dct ds a ps q w=>cases f1
 |tdc ds a ps q w=>cases f1
 |cnt n cl a b q=>cases f1
 |non=>cases h2 with
  |non=>exact SeqAt.EqAt.same _
  |bl b=>exact SeqAt.EqAt.none_bool b
  |int b t=>exact SeqAt.EqAt.none_int b t
  |str b t=>exact SeqAt.EqAt.none_str b t
  |tup ds a xs its q w r p=>exact SeqAt.EqAt.none_tuple p hu'
  |lst ds a xs its q w r p=>exact SeqAt.EqAt.none_list p.isList hu'
  |dct ds a ps q w=>exact absurd rfl (nd2 ds)
  |tdc ds a ps q w=>exact absurd rfl (nt2 ds)
  |cnt n cl a b q=>exact absurd rfl (nc2 n cl)
 |bl x=>cases h2 with
  |non=>exact SeqAt.EqAt.bool_none x
  |bl b=>exact SeqAt.EqAt.bool_bool x b
  |int b t=>exact SeqAt.EqAt.bool_int x b t
  |str b t=>exact SeqAt.EqAt.bool_str x b t
  |tup ds a xs its q w r p=>exact SeqAt.EqAt.bool_tuple x p hu'
  |lst ds a xs its q w r p=>exact SeqAt.EqAt.bool_list x p.isList hu'
  |dct ds a ps q w=>exact absurd rfl (nd2 ds)
  |tdc ds a ps q w=>exact absurd rfl (nt2 ds)
  |cnt n cl a b q=>exact absurd rfl (nc2 n cl)
 |int x t'=>cases h2 with
  |non=>exact SeqAt.EqAt.int_none x t'
  |bl b=>exact SeqAt.EqAt.int_bool x t' b
  |int b t=>exact SeqAt.EqAt.int_int x t' b t
  |str b t=>exact SeqAt.EqAt.int_str x t' b t
  |tup ds a xs its q w r p=>exact SeqAt.EqAt.int_tuple x t' p hu'
  |lst ds a xs its q w r p=>exact SeqAt.EqAt.int_list x t' p.isList hu'
  |dct ds a ps q w=>exact absurd rfl (nd2 ds)
  |tdc ds a ps q w=>exact absurd rfl (nt2 ds)
  |cnt n cl a b q=>exact absurd rfl (nc2 n cl)
 |str x t'=>cases h2 with
  |non=>exact SeqAt.EqAt.str_none x t'
  |bl b=>exact SeqAt.EqAt.str_bool x t' b
  |int b t=>exact SeqAt.EqAt.str_int x t' b t
  |str b t=>exact SeqAt.EqAt.str_str x t' b t
  |tup ds a xs its q w r p=>exact SeqAt.EqAt.str_tuple x t' p hu'
  |lst ds a xs its q w r p=>exact SeqAt.EqAt.str_list x t' p.isList hu'
  |dct ds a ps q w=>exact absurd rfl (nd2 ds)
  |tdc ds a ps q w=>exact absurd rfl (nt2 ds)
  |cnt n cl a b q=>exact absurd rfl (nc2 n cl)
 |tup ds1 a1 xs1 its1 q1 w1 r1 p1=>cases h2 with
  |non=>exact SeqAt.EqAt.tuple_none p1 hu'
  |bl b=>exact SeqAt.EqAt.tuple_bool b p1 hu'
  |int b t=>exact SeqAt.EqAt.tuple_int b t p1 hu'
  |str b t=>exact SeqAt.EqAt.tuple_str b t p1 hu'
  |lst ds a xs its q w r p=>exact SeqAt.EqAt.tuple_list p1 p.isList hu'
  |dct ds a ps q w=>exact absurd rfl (nd2 ds)
  |tdc ds a ps q w=>exact absurd rfl (nt2 ds)
  |cnt n cl a b q=>exact absurd rfl (nc2 n cl)
  |tup ds2 a2 xs2 its2 q2 w2 r2 p2=>
   by_cases ha:a1=a2
   ·subst ha
    have:=I.tuple_inj q1 q2
    subst this
    have:=RDs.inj I w1 w2
    subst this
    rw[D.eqb_refl n _ f1]
    exact SeqAt.EqAt.same _
   ·rw[oZ,<-tD,<-fY w1 r1,<-fY w2 r2]
    have z:=SeqAt.EqAt.of_refs ha (SeqAt.RcAt.tuples (A:=A) (e:=fX ds1 ds2) p1 p2 hu' λj j1 j2=>by
     have:=it ds1 ds2 A its1 its2 xs1 xs2 w1 r1 w2 r2 f1 f2 hu j (by simpa using j1) (by simpa using j2)
     simpa using this)
    simpa using z
 |lst ds1 a1 xs1 its1 q1 w1 r1 p1=>cases h2 with
  |non=>exact SeqAt.EqAt.list_none p1.isList hu'
  |bl b=>exact SeqAt.EqAt.list_bool b p1.isList hu'
  |int b t=>exact SeqAt.EqAt.list_int b t p1.isList hu'
  |str b t=>exact SeqAt.EqAt.list_str b t p1.isList hu'
  |tup ds a xs its q w r p=>exact SeqAt.EqAt.list_tuple p1.isList p hu'
  |dct ds a ps q w=>exact absurd rfl (nd2 ds)
  |tdc ds a ps q w=>exact absurd rfl (nt2 ds)
  |cnt n cl a b q=>exact absurd rfl (nc2 n cl)
  |lst ds2 a2 xs2 its2 q2 w2 r2 p2=>
   by_cases ha:a1=a2
   ·subst ha
    have:=I.list_inj q1 q2
    subst this
    have:=RDs.inj I w1 w2
    subst this
    rw[D.eqb_refl n _ f1]
    exact SeqAt.EqAt.same _
   ·have l1:=fY w1 r1
    have l2:=fY w2 r2
    rw[pA]
    by_cases hl:ds1.length=ds2.length
    ·rw[<-nG ds1 ds2 hl,<-l1]
     have z:=SeqAt.EqAt.of_refs ha (SeqAt.RcAt.lists (A:=A) (e:=fX ds1 ds2) p1.isList p2.isList (by simp only[bI];lia) hu' λj j1 j2=>by
      have:=it ds1 ds2 A its1 its2 xs1 xs2 w1 r1 w2 r2 f1 f2 hu j (by simpa using j1) (by simpa using j2)
      simpa using this)
     simpa using z
    ·rw[nH ds1 ds2 hl]
     exact SeqAt.EqAt.of_refs ha (SeqAt.RcAt.lists_lengths p1.isList p2.isList (by simp only[bI,bne_iff_ne,ne_eq];lia) hu')
theorem IR:nJ X H s 0:=by
 intro ds1 ds2 A us1 us2 xs1 xs2 w1 r1 w2 r2 f1 f2 hu j h1 h2
 cases ds1 with
 |nil=>
  rw[RDs]at w1;subst w1
  cases r1
  exact absurd h1 (jS _)
 |cons d ds=>cases f1
theorem IS(I:Inv X pins σ H s){n:Nat}(ih:tH X H s n):nJ X H s (n+1):=by
 intro ds1
 induction ds1 with
 |nil=>
  intro ds2 A us1 us2 xs1 xs2 w1 r1 w2 r2 f1 f2 hu j h1 h2
  rw[RDs]at w1;subst w1
  cases r1
  exact absurd h1 (jS _)
 |cons d1 ds1 ih2=>
  intro ds2 A us1 us2 xs1 xs2 w1 r1 w2 r2 f1 f2 hu j h1 h2
  cases ds2 with
  |nil=>
   rw[RDs]at w2;subst w2
   cases r2
   exact absurd h2 (jS _)
  |cons d2 ds2=>
   obtain⟨v1,y1,rfl,e1,w1⟩:=w1
   obtain⟨v2,y2,rfl,e2,w2⟩:=w2
   cases r1 with
   |cons a1 r1=>
    cases r2 with
    |cons a2 r2=>
     rw[sH,aD]at f1 f2
     cases j with
     |zero=>exact ih d1 d2 A.in1 _ _ (nI I e1 a1) (nI I e2 a2) f1.1 f2.1 (by show A.units+1+n<cLine;lia)
     |succ j=>
      rw[IQ]
      exact ih2 ds2 A _ _ _ _ w1 r1 w2 r2 f1.2 f2.2 hu j (Nw h1) (Nw h2)
theorem tJ(I:Inv X pins σ H s):∀n,nJ X H s n
 |0=>IR
 |n+1=>IS I (AJ I (tJ I n))
theorem eqAt_D(I:Inv X pins σ H s)(n:Nat):tH X H s n:=AJ I (tJ I n)
theorem pV(I:Inv X pins σ H s)(n:Nat):nJ X H s n:=tJ I n
end
end Tr
namespace Tr
open PySem PySem.Spec PyProof.Rows L2
variable{d1 d2:D}{n:Nat}{u1 u2:Value}
theorem bK{H:Hp}{p:Addr}(h:H p=none)(o:HO):Same H (upd H p o):=λb u q=>by rw[aG (cV q h)];exact q
section
variable{K:PySem.W.Frag}{H:Hp}{O:Addr->Prop}{p:Addr}{ds:List D}{xs:List V}
theorem kA(w:RDs K H O ds xs)(hp:H p=none)(tr:∀a,O a->∃o,H a=some o):RD K (upd H p (.lst xs)) O (.lst ds) (.ref p)/\NewL K H (upd H p (.lst xs)) O (.lst ds) (.ref p):=by
 have nO:¬O p:=λz=>by
  obtain⟨o,q⟩:=tr p z
  rw[hp]at q;cases q
 exact⟨⟨p,xs,rfl,.inl ⟨nO,.inl bA⟩,w.same (bK hp _)⟩,λ_=>⟨p,rfl,hp,xs,bA,(w.new hp).same (bK hp _)⟩⟩
theorem IT{ds:List (Sum Int Str×D)}{ps:List (Key×V)}(w:RDk K H O ds ps)(hp:H p=none):OwnAt K (upd H p (.dK ps)) (cW O p) p (.dct ds):=⟨ps,bA,(w.new hp).same (bK hp _)⟩
theorem IU{ds:List (List (Sum Int Str)×D)}{ps:List (List Key×V)}(w:RDt K H O ds ps)(hp:H p=none):OwnAt K (upd H p (.dT ps)) (cW O p) p (.tdc ds):=⟨ps,bA,(w.new hp).same (bK hp _)⟩
theorem kB(w:RDs K H O ds xs)(hp:H p=none):RD K (upd H p (.tup xs)) O (.tup ds) (.ref p):=⟨p,xs,rfl,.inl bA,w.same (bK hp _)⟩
end
section
variable{X:Cx}{pins:List (Addr×Obj)}{σ:L2.St}{H:Hp}{s:Shared}
theorem rcAt_D(I:Inv X pins σ H s){A:Around}(h1:Sees X H s d1 u1)(h2:Sees X H s d2 u2)(f1:D.pl n d1=true)(f2:D.pl n d2=true)(hu:A.units+n<cLine):SeqAt.RcAt A s u1 u2 (D.eqb d1 d2):=by
 have hu':A.units<cLine:=by lia
 have nd2:∀ds,d2≠.dct ds:=λds z=>by rw[z]at f2;cases f2
 have nt2:∀ds,d2≠.tdc ds:=λds z=>by rw[z]at f2;cases f2
 have nc2:∀n cl,d2≠.cnt n cl:=λn cl z=>by rw[z]at f2;cases f2
 cases h1 with
 |dct ds a ps q w=>cases f1
 |tdc ds a ps q w=>cases f1
 |cnt n cl a b q=>cases f1
 |non=>cases h2 with
  |non=>exact SeqAt.RcAt.none_none
  |bl b=>exact SeqAt.RcAt.none_bool b
  |int b t=>exact SeqAt.RcAt.none_int b t
  |str b t=>exact SeqAt.RcAt.none_str b t
  |tup ds a xs its q w r p=>exact SeqAt.RcAt.none_tuple p hu'
  |lst ds a xs its q w r p=>exact SeqAt.RcAt.none_list p.isList hu'
  |dct ds a ps q w=>exact absurd rfl (nd2 ds)
  |tdc ds a ps q w=>exact absurd rfl (nt2 ds)
  |cnt n cl a b q=>exact absurd rfl (nc2 n cl)
 |bl x=>cases h2 with
  |non=>exact SeqAt.RcAt.bool_none x
  |bl b=>exact SeqAt.RcAt.bool_bool x b
  |int b t=>exact SeqAt.RcAt.bool_int x b t
  |str b t=>exact SeqAt.RcAt.bool_str x b t
  |tup ds a xs its q w r p=>exact SeqAt.RcAt.bool_tuple x p hu'
  |lst ds a xs its q w r p=>exact SeqAt.RcAt.bool_list x p.isList hu'
  |dct ds a ps q w=>exact absurd rfl (nd2 ds)
  |tdc ds a ps q w=>exact absurd rfl (nt2 ds)
  |cnt n cl a b q=>exact absurd rfl (nc2 n cl)
 |int x t'=>cases h2 with
  |non=>exact SeqAt.RcAt.int_none x t'
  |bl b=>exact SeqAt.RcAt.int_bool x t' b
  |int b t=>exact SeqAt.RcAt.int_int x t' b t
  |str b t=>exact SeqAt.RcAt.int_str x t' b t
  |tup ds a xs its q w r p=>exact SeqAt.RcAt.int_tuple x t' p hu'
  |lst ds a xs its q w r p=>exact SeqAt.RcAt.int_list x t' p.isList hu'
  |dct ds a ps q w=>exact absurd rfl (nd2 ds)
  |tdc ds a ps q w=>exact absurd rfl (nt2 ds)
  |cnt n cl a b q=>exact absurd rfl (nc2 n cl)
 |str x t'=>cases h2 with
  |non=>exact SeqAt.RcAt.str_none x t'
  |bl b=>exact SeqAt.RcAt.str_bool x t' b
  |int b t=>exact SeqAt.RcAt.str_int x t' b t
  |str b t=>exact SeqAt.RcAt.str_str x t' b t
  |tup ds a xs its q w r p=>exact SeqAt.RcAt.str_tuple x t' p hu'
  |lst ds a xs its q w r p=>exact SeqAt.RcAt.str_list x t' p.isList hu'
  |dct ds a ps q w=>exact absurd rfl (nd2 ds)
  |tdc ds a ps q w=>exact absurd rfl (nt2 ds)
  |cnt n cl a b q=>exact absurd rfl (nc2 n cl)
 |tup ds1 a1 xs1 its1 q1 w1 r1 p1=>cases h2 with
  |non=>exact SeqAt.RcAt.tuple_none p1 hu'
  |bl b=>exact SeqAt.RcAt.tuple_bool b p1 hu'
  |int b t=>exact SeqAt.RcAt.tuple_int b t p1 hu'
  |str b t=>exact SeqAt.RcAt.tuple_str b t p1 hu'
  |lst ds a xs its q w r p=>exact SeqAt.RcAt.tuple_list p1 p.isList hu'
  |dct ds a ps q w=>exact absurd rfl (nd2 ds)
  |tdc ds a ps q w=>exact absurd rfl (nt2 ds)
  |cnt n cl a b q=>exact absurd rfl (nc2 n cl)
  |tup ds2 a2 xs2 its2 q2 w2 r2 p2=>
   rw[oZ,<-tD,<-fY w1 r1,<-fY w2 r2]
   have z:=SeqAt.RcAt.tuples (A:=A) (e:=fX ds1 ds2) p1 p2 hu' λj j1 j2=>by
    have:=pV I n ds1 ds2 A its1 its2 xs1 xs2 w1 r1 w2 r2 f1 f2 hu j (by simpa using j1) (by simpa using j2)
    simpa using this
   simpa using z
 |lst ds1 a1 xs1 its1 q1 w1 r1 p1=>cases h2 with
  |non=>exact SeqAt.RcAt.list_none p1.isList hu'
  |bl b=>exact SeqAt.RcAt.list_bool b p1.isList hu'
  |int b t=>exact SeqAt.RcAt.list_int b t p1.isList hu'
  |str b t=>exact SeqAt.RcAt.list_str b t p1.isList hu'
  |tup ds a xs its q w r p=>exact SeqAt.RcAt.list_tuple p1.isList p hu'
  |dct ds a ps q w=>exact absurd rfl (nd2 ds)
  |tdc ds a ps q w=>exact absurd rfl (nt2 ds)
  |cnt n cl a b q=>exact absurd rfl (nc2 n cl)
  |lst ds2 a2 xs2 its2 q2 w2 r2 p2=>
   have l1:=fY w1 r1
   have l2:=fY w2 r2
   rw[pA]
   by_cases hl:ds1.length=ds2.length
   ·rw[<-nG ds1 ds2 hl,<-l1]
    have z:=SeqAt.RcAt.lists (A:=A) (e:=fX ds1 ds2) p1.isList p2.isList (by simp only[bI];lia) hu' λj j1 j2=>by
     have:=pV I n ds1 ds2 A its1 its2 xs1 xs2 w1 r1 w2 r2 f1 f2 hu j (by simpa using j1) (by simpa using j2)
     simpa using this
    simpa using z
   ·rw[nH ds1 ds2 hl]
    exact SeqAt.RcAt.lists_lengths p1.isList p2.isList (by simp only[bI,bne_iff_ne,ne_eq];lia) hu'
theorem IV(I:Inv X pins σ H s){A:Around}(h1:Sees X H s d1 u1)(h2:Sees X H s d2 u2)(f1:D.pl n d1=true)(f2:D.pl n d2=true)(hu:A.units+n<cLine):SeqAt.RcNeAt A s u1 u2 (!D.eqb d1 d2):=by
 have hu':A.units<cLine:=by lia
 have nd2:∀ds,d2≠.dct ds:=λds z=>by rw[z]at f2;cases f2
 have nt2:∀ds,d2≠.tdc ds:=λds z=>by rw[z]at f2;cases f2
 have nc2:∀n cl,d2≠.cnt n cl:=λn cl z=>by rw[z]at f2;cases f2
 cases h1 with
 |dct ds a ps q w=>cases f1
 |tdc ds a ps q w=>cases f1
 |cnt n cl a b q=>cases f1
 |non=>cases h2 with
  |non=>exact SeqAt.RcNeAt.none_none
  |bl b=>exact SeqAt.RcNeAt.none_bool b
  |int b t=>exact SeqAt.RcNeAt.none_int b t
  |str b t=>exact SeqAt.RcNeAt.none_str b t
  |tup ds a xs its q w r p=>exact SeqAt.RcNeAt.none_tuple p hu'
  |lst ds a xs its q w r p=>exact SeqAt.RcNeAt.none_list p.isList hu'
  |dct ds a ps q w=>exact absurd rfl (nd2 ds)
  |tdc ds a ps q w=>exact absurd rfl (nt2 ds)
  |cnt n cl a b q=>exact absurd rfl (nc2 n cl)
 |bl x=>cases h2 with
  |non=>exact SeqAt.RcNeAt.bool_none x
  |bl b=>exact SeqAt.RcNeAt.bool_bool x b
  |int b t=>exact SeqAt.RcNeAt.bool_int x b t
  |str b t=>exact SeqAt.RcNeAt.bool_str x b t
  |tup ds a xs its q w r p=>exact SeqAt.RcNeAt.bool_tuple x p hu'
  |lst ds a xs its q w r p=>exact SeqAt.RcNeAt.bool_list x p.isList hu'
  |dct ds a ps q w=>exact absurd rfl (nd2 ds)
  |tdc ds a ps q w=>exact absurd rfl (nt2 ds)
  |cnt n cl a b q=>exact absurd rfl (nc2 n cl)
 |int x t'=>cases h2 with
  |non=>exact SeqAt.RcNeAt.int_none x t'
  |bl b=>exact SeqAt.RcNeAt.int_bool x t' b
  |int b t=>exact SeqAt.RcNeAt.int_int x t' b t
  |str b t=>exact SeqAt.RcNeAt.int_str x t' b t
  |tup ds a xs its q w r p=>exact SeqAt.RcNeAt.int_tuple x t' p hu'
  |lst ds a xs its q w r p=>exact SeqAt.RcNeAt.int_list x t' p.isList hu'
  |dct ds a ps q w=>exact absurd rfl (nd2 ds)
  |tdc ds a ps q w=>exact absurd rfl (nt2 ds)
  |cnt n cl a b q=>exact absurd rfl (nc2 n cl)
 |str x t'=>cases h2 with
  |non=>exact SeqAt.RcNeAt.str_none x t'
  |bl b=>exact SeqAt.RcNeAt.str_bool x t' b
  |int b t=>exact SeqAt.RcNeAt.str_int x t' b t
  |str b t=>exact SeqAt.RcNeAt.str_str x t' b t
  |tup ds a xs its q w r p=>exact SeqAt.RcNeAt.str_tuple x t' p hu'
  |lst ds a xs its q w r p=>exact SeqAt.RcNeAt.str_list x t' p.isList hu'
  |dct ds a ps q w=>exact absurd rfl (nd2 ds)
  |tdc ds a ps q w=>exact absurd rfl (nt2 ds)
  |cnt n cl a b q=>exact absurd rfl (nc2 n cl)
 |tup ds1 a1 xs1 its1 q1 w1 r1 p1=>cases h2 with
  |non=>exact SeqAt.RcNeAt.tuple_none p1 hu'
  |bl b=>exact SeqAt.RcNeAt.tuple_bool b p1 hu'
  |int b t=>exact SeqAt.RcNeAt.tuple_int b t p1 hu'
  |str b t=>exact SeqAt.RcNeAt.tuple_str b t p1 hu'
  |lst ds a xs its q w r p=>exact SeqAt.RcNeAt.tuple_list p1 p.isList hu'
  |dct ds a ps q w=>exact absurd rfl (nd2 ds)
  |tdc ds a ps q w=>exact absurd rfl (nt2 ds)
  |cnt n cl a b q=>exact absurd rfl (nc2 n cl)
  |tup ds2 a2 xs2 its2 q2 w2 r2 p2=>
   rw[oZ,<-tD,<-fY w1 r1,<-fY w2 r2]
   have z:=SeqAt.RcNeAt.tuples (A:=A) (e:=fX ds1 ds2) p1 p2 hu' λj j1 j2=>by
    have:=pV I n ds1 ds2 A its1 its2 xs1 xs2 w1 r1 w2 r2 f1 f2 hu j (by simpa using j1) (by simpa using j2)
    simpa using this
   simpa using z
 |lst ds1 a1 xs1 its1 q1 w1 r1 p1=>cases h2 with
  |non=>exact SeqAt.RcNeAt.list_none p1.isList hu'
  |bl b=>exact SeqAt.RcNeAt.list_bool b p1.isList hu'
  |int b t=>exact SeqAt.RcNeAt.list_int b t p1.isList hu'
  |str b t=>exact SeqAt.RcNeAt.list_str b t p1.isList hu'
  |tup ds a xs its q w r p=>exact SeqAt.RcNeAt.list_tuple p1.isList p hu'
  |dct ds a ps q w=>exact absurd rfl (nd2 ds)
  |tdc ds a ps q w=>exact absurd rfl (nt2 ds)
  |cnt n cl a b q=>exact absurd rfl (nc2 n cl)
  |lst ds2 a2 xs2 its2 q2 w2 r2 p2=>
   have l1:=fY w1 r1
   have l2:=fY w2 r2
   rw[pA]
   by_cases hl:ds1.length=ds2.length
   ·rw[<-nG ds1 ds2 hl,<-l1]
    have z:=SeqAt.RcNeAt.lists (A:=A) (e:=fX ds1 ds2) p1.isList p2.isList (by simp only[bI];lia) hu' λj j1 j2=>by
     have:=pV I n ds1 ds2 A its1 its2 xs1 xs2 w1 r1 w2 r2 f1 f2 hu j (by simpa using j1) (by simpa using j2)
     simpa using this
    simpa using z
   ·rw[nH ds1 ds2 hl]
    exact SeqAt.RcNeAt.lists_lengths p1.isList p2.isList (by simp only[bI,bne_iff_ne,ne_eq];lia) hu'
end
section
variable{X:Cx}
theorem fO:big=sizeLine:=by rw[sizeLine_eq];rfl
theorem IW:OpR X (binaryOp .Add) (λx y H Q=>∃l b xs zs,x=.ref l/\y=.ref b/\SqL X.K H l xs/\SqL X.K H b zs/\xs.length+zs.length<=sizeLine/\∀p,H p=none->Q (.ref p) (upd H p (.lst (xs++zs)))):=by
 intro pins s σ H x y v u Q I rx ry h
 obtain⟨l,b,xs,zs,rfl,rfl,hH,hB,hz,q⟩:=h
 cases rx
 cases ry
 obtain⟨its,r,pl,z⟩:=I.list hH
 obtain⟨its2,r2,pl2,z2⟩:=I.list hB
 have hl:=r.length
 have hl2:=r2.length
 obtain⟨⟨cls,dd,data,sl⟩,ho,hc,n,hd⟩:=pl.isList
 obtain⟨⟨cls2,dd2,data2,sl2⟩,ho2,hc2,n2,hd2⟩:=pl2.isList
 simp only at hc hd hc2 hd2
 subst hc hd hc2 hd2
 have ea:its.toArray++its2.toArray=(its++its2).toArray:=by simp
 refine concat_meets ⟨_,ho,rfl⟩ ⟨_,ho2,rfl⟩ noFill_list_add seq_list_add PySem.F.slot_list_add PySem.F.entry_list_add (PySem.F.args_list_add_2 _ _) (list_addW l b its.toArray its2.toArray n n2 dd dd2 sl sl2 (by simp only[bI];lia)) ⟨ho,ho2,?_⟩
 rw[ea]
 exact⟨.ref _,_,I.lnew (t':=s.toks) (r.append r2) (by rw[bB];lia),rfl,q _ I.fresh⟩
theorem IX:OpR X (binaryOp .Add) (λx y H Q=>∃a b xs ys,x=.ref a/\y=.ref b/\SqT X.K H a xs/\SqT X.K H b ys/\xs.length+ys.length<=sizeLine /\
 (xs=[]->Q (.ref b) H)/\(ys=[]->Q (.ref a) H)/\∀p,H p=none->Q (.ref p) (upd H p (.tup (xs++ys)))):=by
 intro pins s σ H x y v u Q I rx ry h
 obtain⟨a,b,xs,ys,rfl,rfl,ha,hb,hz,q0,q1,q2⟩:=h
 by_cases hx:xs=[]
 ·cases rx
  cases ry
  obtain⟨its,r1,p1,_⟩:=I.tuple ha
  obtain⟨its2,r2,p2,_⟩:=I.tuple hb
  obtain⟨⟨cls,dd,data,sl⟩,ho,hc,n,hd⟩:=id p1
  obtain⟨⟨cls2,dd2,data2,sl2⟩,ho2,hc2,n2,hd2⟩:=id p2
  simp only at hc hd hc2 hd2
  subst hc hd hc2 hd2
  have hv:its=[]:=r1.nil_iff.mpr hx
  exact concat_meets ⟨_,ho,rfl⟩ ⟨_,ho2,rfl⟩ noFill_tuple_add seq_tuple_add PySem.F.slot_tuple_add PySem.F.entry_tuple_add (PySem.F.args_tuple_add_2 _ _)
   (tuple_addW0 a b its.toArray its2.toArray n n2 dd dd2 sl sl2 (by simp[hv])) ⟨ho,ho2,⟨.ref b,H,I,rfl,q0 hx⟩⟩
 ·exact G_ pins s σ H _ _ v u Q I rx ry ⟨a,b,xs,ys,rfl,rfl,ha,hb,hx,hz,q1,λ_=>q2⟩
end
end Tr
namespace Tr
open PySem PySem.Spec PyProof.Rows L2 PySem.SeqAt AutoSeq1 MeetsSeq MeetsSeq2 MeetsSeq3 SeqRoads2
theorem tK:∀{vs:List Value} {ns:List Int},IntsAre vs ns->∀i:Nat,(vs[i]?=none/\ns.drop i=[])\/∃n t,vs[i]?=some (.int n t)/\ns.drop i=n::ns.drop (i+1)
 |_,_,.nil,i=>.inl ⟨rfl,List.drop_nil⟩
 |_,_,.cons n t h,0=>.inr ⟨n,t,rfl,rfl⟩
 |_,_,.cons n t h,i+1=>tK h i
theorem tL:∀{vs:List Value} {ns:List Int},IntsAre vs ns->ns.length=vs.length
 |_,_,.nil=>rfl
 |_,_,.cons n t h=>congrArg (·+1) (tL h)
theorem IY(l b:Addr)(items items2:Array Value)(n n2:Nat)(dd dd2:Option Addr)(sl sl2:Array (Option Value))(xs ys:List Int)(hx:IntsAre items.toList xs)(hy:IntsAre items2.toList ys)(k:Nat) :
 ∀i:Nat,items.size-i=k->i<=items.size->i<=items2.size->Meets (Builtin.«list.__eq__.loop» ⟨[.ref l,.ref b,rawInt i,rawInt 0],[]⟩)
  (λA R s=>s.heap.get? l=some {cls:=.type "list", dict:=dd,data:=.seq items n,slots:=sl}/\s.heap.get? b=some {cls:=.type "list", dict:=dd2,data:=.seq items2 n2,slots:=sl2} /\
   R (.ok (.ret (.bool (ltL (xs.drop i) (ys.drop i))))) s):=by
 induction k with
 |zero=>
  intro i hk k1 k2 prog w A R s h
  obtain⟨hp,g,d,tk,os⟩:=s;obtain⟨hl,hb,h⟩:=h
  wp_walk using wpAny_loadPart' hl,wpAny_loadPart' hb
  have hi1:items[((i:Nat):Int).toNat]?=none:=by simp;lia
  rw[hi1]
  wp_walk using wpAny_loadPart' hl,wpAny_loadPart' hb
  have e:ltL (xs.drop i) (ys.drop i)=decide (items.size<items2.size):=by
   have h1:xs.length=items.size:=by rw[tL hx];simp
   have h2:ys.length=items2.size:=by rw[tL hy];simp
   rw[Nx (by lia)]
   cases q:ys.drop i with
   |nil=>rw[ltL];exact(decide_eq_false (by have:=List.drop_eq_nil_iff.mp q;lia)).symm
   |cons y r=>
    rw[ltL]
    refine(decide_eq_true ?_).symm
    have:=congrArg Ey q
    rw[oJ,aN]at this
    lia
  rw[e]at h
  exact h
 |succ k ih=>
  intro i hk k1 k2 prog w A R s h
  obtain⟨hp,g,d,tk,os⟩:=s;obtain⟨hl,hb,h⟩:=h
  wp_walk using wpAny_loadPart' hl,wpAny_loadPart' hb
  rcases tK hx i with⟨e1,f1⟩|⟨x,t,e1,f1⟩
  ·exfalso
   have:i<items.size:=by lia
   simp[this]at e1
  have hi1:items[((i:Nat):Int).toNat]?=some (.int x t):=by rw[eY,<-xD];exact e1
  have hc:((i:Int)+1)=((i+1:Nat):Int):=by push_cast;rfl
  rw[hi1]
  rcases tK hy i with⟨e2,f2⟩|⟨y,u,e2,f2⟩
  ·have hi2:items2[((i:Nat):Int).toNat]?=none:=by rw[eY,<-xD];exact e2
   rw[hi2]
   wp_walk using wpAny_loadPart' hl,wpAny_loadPart' hb
   rw[f1,f2,ltL]at h
   have e:decide (items.size<items2.size)=false:=decide_eq_false (by
    rw[List.getElem?_eq_none_iff,oG]at e2
    lia)
   rw[<-e]at h
   exact h
  ·have hi2:items2[((i:Nat):Int).toNat]?=some (.int y u):=by rw[eY,<-xD];exact e2
   rw[hi2]
   refine wpAny_bind (EqAt.int_int x t y u prog w _ _ ?_)
   rw[f1,f2]at h
   cases hq:x==y with
   |true=>
    wp_walk
    rw[hc]
    exact⟨plainId_quiet plain_eq_loop _,codeAny_builtin entry_eq_loop (by
     rw[Around.under_plainId plain_eq_loop _]
     exact ih (i+1) (by lia) (by lia) (by have:=(cT.mp e2).1;rw[oG]at this;lia) prog w A R _ ⟨hl,hb,by rw[ltL,if_pos (eq_of_beq hq)]at h;exact h⟩)⟩
   |false=>
    wp_walk using wpAny_loadPart' hl,wpAny_loadPart' hb
    rw[hi1,hi2]
    refine wpAny_bind (lt_int ?_)
    rw[ltL,if_neg (λz=>by rw[z,beq_self_eq_true]at hq;cases hq)]at h
    exact wpAny_pure h
theorem IZ(l b:Addr)(items items2:Array Value)(n n2:Nat)(dd dd2:Option Addr)(sl sl2:Array (Option Value))(xs ys:List Int)(hx:IntsAre items.toList xs)(hy:IntsAre items2.toList ys) :
 Meets (Builtin.«list.__lt__» ⟨[.ref l,.ref b],[]⟩)
  (λA R s=>s.heap.get? l=some {cls:=.type "list", dict:=dd,data:=.seq items n,slots:=sl}/\s.heap.get? b=some {cls:=.type "list", dict:=dd2,data:=.seq items2 n2,slots:=sl2} /\
   R (.ok (.ret (.bool (ltL xs ys)))) s):=by
 intro prog w A R s h
 obtain⟨hp,g,d,tk,os⟩:=s;obtain⟨hl,hb,h⟩:=h
 have f3:=AutoSeq1.sub_list_list
 wp_walk using wpAny_loadPart' hl,wpAny_loadPart' hb
 exact⟨plainId_quiet plain_eq_loop _,codeAny_builtin entry_eq_loop (by
  rw[Around.under_plainId plain_eq_loop _]
  exact IY l b items items2 n n2 dd dd2 sl sl2 xs ys hx hy _ 0 rfl (fU _) (fU _) prog w A R _ ⟨hl,hb,h⟩)⟩
theorem I_{prog:Program}{w:World}{A:Around}{s:Shared}{E Q:Value->Shared->Prop}{l b:Addr}{items items2:Array Value}{xs ys:List Int}(hl:s.heap.IsList l items)(hb:s.heap.IsList b items2)(hx:IntsAre items.toList xs)(hy:IntsAre items2.toList ys)(hu:A.units<cLine)
 (h:Q (.bool (ltL xs ys)) s):wpAny (model prog w) A (compareOp .Lt (.ref l) (.ref b)) Q E s:=by
 obtain⟨⟨cls,dd,data,sl⟩,ho,hc,n,hd⟩:=id hl
 obtain⟨⟨cls2,dd2,data2,sl2⟩,ho2,hc2,n2,hd2⟩:=id hb
 simp only at hc hd hc2 hd2
 subst hc hd hc2 hd2
 exact richCompare_meets_room (op:=.Lt) ⟨_,ho,rfl⟩ ⟨_,ho2,rfl⟩ F.slot_list_lt F.entry_list_lt (F.args_list_lt_2 _ _) (IZ l b items items2 n n2 dd dd2 sl sl2 xs ys hx hy)
  ⟨ho,ho2,show Value.bool (ltL xs ys)≠Value.notImplemented/\Q (.bool (ltL xs ys)) s from⟨(λx=>nomatch x),h⟩⟩ hu
theorem nK{K:PySem.W.Frag}{H:Hp}{O:Addr->Prop}:∀{ds:List D} {ns:List Int} {xs:List V},cO ds=.ok ns->RDs K H O ds xs->xs=ns.map V.int
 |[],ns,xs,h,w=>by
  rw[cO]at h;cases h
  rw[RDs]at w;subst w;rfl
 |.int i::r,ns,xs,h,w=>by
  rw[cO]at h
  obtain⟨q,h1,h⟩:=Res.bind_ok h
  cases h
  obtain⟨v,ys,rfl,e1,e2⟩:=w
  cases (show v=_ from e1)
  rw[nK h1 e2];rfl
 |.non::_,_,_,h,_ | .bl _::_,_,_,h,_ | .str _::_,_,_,h,_ | .tup _::_,_,_,h,_ | .lst _::_,_,_,h,_ | .dct _::_,_,_,h,_ | .tdc _::_,_,_,h,_ | .cnt _ _::_,_,_,h,_=>by
  rw[cO]at h<;>first|cases h|(intros;rename_i z;cases z)
end Tr
namespace Tr
open PySem PySem.Spec PyProof.Rows L2
variable{O:Addr->Prop}{d x:D}{H:Hp}{σ:L2.St}{pins:List (Addr×Obj)}{ds:List D}{xs:List V}{K:PySem.W.Frag}{s:Shared}{v:V}{w:Value}
section
variable{X:Cx}
noncomputable def fP(X:Cx):Prop:=X.A.units+64<cLine
theorem RDs.rep{vs:List V}(h:RDs K H O ds vs):∀n:Nat,RDs K H O (aQ n ds).flatten (aQ n vs).flatten
 |0=>rfl
 |n+1=>by
  rw[kO,kO,oK,oK]
  exact RDs.append h (RDs.rep h n)
theorem Ia(o:Operator)(fr:Bool)(hfr:fr=true->o=.Add):OpR X (binaryOp o) (rD2 X.K (D.bin o) fr):=by
 intro pins s σ H x y v u Q I rx ry h
 obtain⟨O,d1,d2,d,r1,r2,ev,tr,k⟩:=h
 have kk:∀w,d.still=true->RD X.K H O d w->Q w H:=λw n r=>k w H (Same.refl H) r λ_=>NewL.still n
 unfold D.bin at ev
 split at ev
 ·cases ev
  cases (show x=_ from r1.rd rfl)
  cases (show y=_ from r2.rd rfl)
  exact op_add pins s σ H _ _ v u Q I rx ry ⟨_,_,rfl,rfl,kk _ rfl rfl⟩
 ·obtain⟨c,ev⟩:=aS ev
  cases ev
  cases (show x=_ from r1.rd rfl)
  cases (show y=_ from r2.rd rfl)
  exact GM pins s σ H _ _ v u Q I rx ry ⟨_,_,rfl,rfl,by rw[<-fO];exact of_decide_eq_true c,kk _ rfl rfl⟩
 ·obtain⟨c,ev⟩:=aS ev
  cases ev
  obtain⟨a1,xs1,rfl,q1,w1⟩:=r1.lst
  obtain⟨a2,xs2,rfl,q2,w2⟩:=r2.lst
  refine IW pins s σ H _ _ v u Q I rx ry ⟨a1,a2,xs1,xs2,rfl,rfl,q1,q2,by rw[<-fO,w1.length,w2.length];exact of_decide_eq_true c,λp hp=>?_⟩
  have z:=kA (w1.append w2) hp tr
  exact k _ _ (bK hp _) z.1 λ_=>z.2
 ·obtain⟨c,ev⟩:=aS ev
  cases ev
  obtain⟨a1,xs1,rfl,q1,w1⟩:=r1.tupV
  obtain⟨a2,xs2,rfl,q2,w2⟩:=r2.tupV
  refine IX pins s σ H _ _ v u Q I rx ry ⟨a1,a2,xs1,xs2,rfl,rfl,q1.sq,q2.sq,by rw[<-fO,w1.length,w2.length];exact of_decide_eq_true c,λz=>?_,λz=>?_,λp hp=>?_⟩
  ·subst z
   have e:=w1.length
   have e':_=[]:=FI e.symm
   subst e'
   exact kk _ rfl ⟨a2,xs2,rfl,q2,by simpa using w2⟩
  ·subst z
   have e:=w2.length
   have e':_=[]:=FI e.symm
   subst e'
   exact kk _ rfl ⟨a1,xs1,rfl,q1,by simpa using w1⟩
  ·have z:=kB (w1.append w2) hp
   exact k _ _ (bK hp _) z λ_=>NewL.still rfl
 ·cases ev
  cases (show x=_ from r1.rd rfl)
  cases (show y=_ from r2.rd rfl)
  exact op_sub pins s σ H _ _ v u Q I rx ry ⟨_,_,rfl,rfl,kk _ rfl rfl⟩
 ·obtain⟨c,ev⟩:=aS ev
  cases ev
  cases (show x=_ from r1.rd rfl)
  cases (show y=_ from r2.rd rfl)
  refine op_mul pins s σ H _ _ v u Q I rx ry ⟨_,_,rfl,rfl,?_,kk _ rfl rfl⟩
  simp only[iH,fH,aD,decide_eq_true_eq]at c
  exact c
 ·rename_i aa jj
  obtain⟨c,ev⟩:=aS ev
  cases ev
  simp only[aD,decide_eq_true_eq]at c
  obtain⟨a1,xs1,rfl,q1,w1⟩:=r1.lst
  cases (show y=_ from r2.rd rfl)
  cases rx
  obtain⟨t,rfl⟩:=ry
  obtain⟨its,r,⟨⟨cls0,dd0,dat0,sl0⟩,n0,pl,pc,_,pd⟩,hz⟩:=I.list q1
  dsimp only at pc pd
  subst pc pd
  have hl1:its.length=1:=by rw[<-r.length,w1.length];exact c.1.1
  refine Hn pl hl1 ⟨c.1.2,c.2⟩ ?_
  have hp:=I.hok.fresh (aK s.heap.objs.size)
  have hlen:(aQ jj.toNat xs1).flatten.length<=sizeLine:=by
   rw[Gn,w1.length,c.1.1,sizeLine_eq]
   have:=c.2
   lia
  refine⟨.ref s.heap.objs.size,_,I.laid (o:=.lst (aQ jj.toNat xs1).flatten) (t':=s.toks) (λb u e=>Heap.get?_push_of_some _ e) (aK _) ⟨hlen,_,0,r.rep _,Heap.get?_push_size _ rfl⟩,rfl,?_⟩
  have z:=kA (w1.rep jj.toNat) hp tr
  exact k _ _ (bK hp _) z.1 λ_=>z.2
 ·obtain⟨c,ev⟩:=aS ev
  cases ev
  cases (show x=_ from r1.rd rfl)
  cases (show y=_ from r2.rd rfl)
  refine GA pins s σ H _ _ v u Q I rx ry ⟨_,_,rfl,rfl,?_,kk _ rfl rfl⟩
  simp only[aD,decide_eq_true_eq]at c
  exact c
 ·obtain⟨c,ev⟩:=aS ev
  cases ev
  cases (show x=_ from r1.rd rfl)
  cases (show y=_ from r2.rd rfl)
  exact op_mod pins s σ H _ _ v u Q I rx ry ⟨_,_,rfl,rfl,of_decide_eq_true c,kk _ rfl rfl⟩
 ·obtain⟨c,ev⟩:=aS ev
  cases ev
  cases (show x=_ from r1.rd rfl)
  cases (show y=_ from r2.rd rfl)
  refine op_pow pins s σ H _ _ v u Q I rx ry ⟨_,_,rfl,rfl,?_,kk _ rfl rfl⟩
  simp only[aD,decide_eq_true_eq]at c
  exact⟨c.1.1,c.1.2,c.2⟩
 ·cases ev
theorem pW{k:Key}:∀{ds:List (Sum Int Str×D)} {ps:List (Key×V)},RDk K H O ds ps->(∀d,bE ds k=some d->∃v,dW ps k=some v/\RD K H O d v)/\(bE ds k).isSome=(dW ps k).isSome
 |[],ps,h=>by
  rw[RDk]at h;subst h
  exact⟨λd e=>(by cases e),rfl⟩
 |(k',d')::ds,ps,h=>by
  obtain⟨v,r,rfl,h1,h2⟩:=h
  have ih:=pW (k:=k) h2
  by_cases e:k'=k
  ·subst e
   have e1:bE ((k',d')::ds) k'=some d':=by simp[bE,cY]
   rw[e1,mP (p:=(k',v)) rfl]
   exact⟨λd z=>(by cases z;exact⟨v,rfl,h1⟩),rfl⟩
  ·have e1:bE ((k',d')::ds) k=bE ds k:=by simp[bE,cY,e]
   rw[e1,mQ (p:=(k',v)) e]
   exact ih
theorem Ib{k:Key}(hv:RD K H O d v){ds:List (Sum Int Str×D)}{ps:List (Key×V)}(h:RDk K H O ds ps):RDk K H O (dX ds k d) (eD ps k v):=by
 have any:∀{ds:List (Sum Int Str×D)} {ps:List (Key×V)},RDk K H O ds ps->(ds.any λkv=>decide (kv.1=k))=(ps.any λkv=>decide (kv.1=k)):=by
  intro ds
  induction ds with
  |nil=>intro ps h;rw[RDk]at h;subst h;rfl
  |cons p ds ih=>
   intro ps h
   obtain⟨k',d'⟩:=p
   obtain⟨v',r,rfl,h1,h2⟩:=h
   rw[iC,iC,ih h2]
 have mp:∀{ds:List (Sum Int Str×D)} {ps:List (Key×V)},RDk K H O ds ps->RDk K H O (ds.map (λkv=>if kv.1=k then(kv.1,d)else kv)) (ps.map (λkv=>if kv.1=k then(kv.1,v)else kv)):=by
  intro ds
  induction ds with
  |nil=>intro ps h;rw[RDk]at h;subst h;exact rfl
  |cons p ds ih=>
   intro ps h
   obtain⟨k',d'⟩:=p
   obtain⟨v',r,rfl,h1,h2⟩:=h
   rw[aL,aL]
   by_cases e:k'=k
   ·rw[if_pos e,if_pos e];exact⟨v,_,rfl,hv,ih h2⟩
   ·rw[if_neg e,if_neg e];exact⟨v',_,rfl,h1,ih h2⟩
 have ap:∀{ds:List (Sum Int Str×D)} {ps:List (Key×V)},RDk K H O ds ps->RDk K H O (ds++[(k,d)]) (ps++[(k,v)]):=by
  intro ds
  induction ds with
  |nil=>intro ps h;rw[RDk]at h;subst h;exact⟨v,[],rfl,hv,rfl⟩
  |cons p ds ih=>
   intro ps h
   obtain⟨k',d'⟩:=p
   obtain⟨v',r,rfl,h1,h2⟩:=h
   exact⟨v',_,rfl,h1,ih h2⟩
 unfold dX eD
 rw[any h]
 split
 ·exact mp h
 ·exact ap h
theorem nL{k:List Key}:∀{ds:List (List (Sum Int Str)×D)} {ps:List (List Key×V)},RDt K H O ds ps->(∀d,cH ds k=some d->∃v,dW ps k=some v/\RD K H O d v)/\(cH ds k).isSome=(dW ps k).isSome
 |[],ps,h=>by
  rw[RDt]at h;subst h
  exact⟨λd e=>(by cases e),rfl⟩
 |(k',d')::ds,ps,h=>by
  obtain⟨v,r,rfl,h1,h2⟩:=h
  have ih:=nL (k:=k) h2
  by_cases e:k'=k
  ·subst e
   have e1:cH ((k',d')::ds) k'=some d':=by simp[cH,cY]
   rw[e1,mP (p:=(k',v)) rfl]
   exact⟨λd z=>(by cases z;exact⟨v,rfl,h1⟩),rfl⟩
  ·have e1:cH ((k',d')::ds) k=cH ds k:=by simp[cH,cY,e]
   rw[e1,mQ (p:=(k',v)) e]
   exact ih
theorem Ie{k:List Key}(hv:RD K H O d v){ds:List (List (Sum Int Str)×D)}{ps:List (List Key×V)}(h:RDt K H O ds ps):RDt K H O (iJ ds k d) (eD ps k v):=by
 have any:∀{ds:List (List (Sum Int Str)×D)} {ps:List (List Key×V)},RDt K H O ds ps->(ds.any λkv=>decide (kv.1=k))=(ps.any λkv=>decide (kv.1=k)):=by
  intro ds
  induction ds with
  |nil=>intro ps h;rw[RDt]at h;subst h;rfl
  |cons p ds ih=>
   intro ps h
   obtain⟨k',d'⟩:=p
   obtain⟨v',r,rfl,h1,h2⟩:=h
   rw[iC,iC,ih h2]
 have mp:∀{ds:List (List (Sum Int Str)×D)} {ps:List (List Key×V)},RDt K H O ds ps->RDt K H O (ds.map (λkv=>if kv.1=k then(kv.1,d)else kv)) (ps.map (λkv=>if kv.1=k then(kv.1,v)else kv)):=by
  intro ds
  induction ds with
  |nil=>intro ps h;rw[RDt]at h;subst h;exact rfl
  |cons p ds ih=>
   intro ps h
   obtain⟨k',d'⟩:=p
   obtain⟨v',r,rfl,h1,h2⟩:=h
   rw[aL,aL]
   by_cases e:k'=k
   ·rw[if_pos e,if_pos e];exact⟨v,_,rfl,hv,ih h2⟩
   ·rw[if_neg e,if_neg e];exact⟨v',_,rfl,h1,ih h2⟩
 have ap:∀{ds:List (List (Sum Int Str)×D)} {ps:List (List Key×V)},RDt K H O ds ps->RDt K H O (ds++[(k,d)]) (ps++[(k,v)]):=by
  intro ds
  induction ds with
  |nil=>intro ps h;rw[RDt]at h;subst h;exact⟨v,[],rfl,hv,rfl⟩
  |cons p ds ih=>
   intro ps h
   obtain⟨k',d'⟩:=p
   obtain⟨v',r,rfl,h1,h2⟩:=h
   exact⟨v',_,rfl,h1,ih h2⟩
 unfold iJ eD
 rw[any h]
 split
 ·exact mp h
 ·exact ap h
theorem nM{k:Key}(h:eR d=some k)(r:RR K H O d v):v=kV k:=by
 cases d with
 |int i=>cases h;exact r.rd rfl
 |str i=>cases h;exact r.rd rfl
 |non=>cases h
 |bl _=>cases h
 |tup _=>cases h
 |lst _=>cases h
 |dct _=>cases h
 |tdc _=>cases h
 |cnt _ _=>cases h
theorem AK:∀{ds:List D} {ks:List Key},dG ds=some ks->kZ ds=some ks/\∀k∈ks,∃i,k=.inl i
 |[],ks,h=>by cases h;exact⟨rfl,λk hk=>by cases hk⟩
 |.int i::r,ks,h=>by
  rw[dG]at h
  cases e:dG r with
  |none=>rw[e]at h;cases h
  |some q=>
   rw[e]at h
   cases h
   obtain⟨h1,h2⟩:=AK e
   refine⟨by rw[kZ,h1];rfl,λk hk=>?_⟩
   rcases bU.mp hk with rfl|hk
   ·exact⟨i,rfl⟩
   ·exact h2 k hk
 |.non::_,_,h | .bl _::_,_,h | .str _::_,_,h | .tup _::_,_,h | .lst _::_,_,h | .dct _::_,_,h | .tdc _::_,_,h | .cnt _ _::_,_,h=>by cases h
theorem AM:∀{ds:List D} {ks:List Key} {vs:List V},kZ ds=some ks->RDs K H O ds vs->vs=ks.map kV
 |[],ks,vs,h,r=>by
  cases h
  rw[RDs]at r;subst r;rfl
 |d::ds,ks,vs,h,r=>by
  obtain⟨v,q,rfl,r1,r2⟩:=r
  rw[kZ]at h
  cases e1:eR d with
  |none=>rw[e1]at h;cases h
  |some k=>
   rw[e1]at h
   cases e2:kZ ds with
   |none=>rw[e2]at h;cases h
   |some ks'=>
    rw[e2]at h
    cases h
    rw[nM e1 r1.rr,AM e2 r2];rfl
theorem lE{ks:List Key}{b:Addr}(h:dG ds=some ks)(w:RDs K H O ds xs)(q:TupV K H b xs):H b=some (.tup (ks.map kV)):=by
 obtain⟨h1,h2⟩:=AK h
 have e:=AM h1 w
 subst e
 rcases q with q|⟨⟨ss,hne,e⟩,_⟩
 ·exact q
 ·exfalso
  cases ss with
  |nil=>exact hne rfl
  |cons x ss=>
   cases ks with
   |nil=>cases e
   |cons k ks=>
    obtain⟨i,rfl⟩:=h2 k bF
    injection e with e _
    cases e
theorem fZ{α:Type}{o:Option α}{a:α}(h:Res.of o=.ok a):o=some a:=by
 cases o with
 |none=>cases h
 |some b=>cases h;rfl
theorem Sees.inj(I:Inv X pins σ H s){d':D}(h:Sees X H s d w)(h':Sees X H s d' w):d=d':=by
 cases h with
 |non=>cases h';rfl
 |bl b=>cases h';rfl
 |int i t=>cases h';rfl
 |str x t=>cases h';rfl
 |tup ds a xs its q w r p=>
  cases h' with
  |tup ds' _ xs' its' q' w' r' p'=>have:=I.tuple_inj q q';subst this;rw[RDs.inj I w w']
  |lst ds' _ xs' its' q' w' r' p'=>exact(pL I q' q).elim
  |dct ds' _ ps' q' w'=>exact(pN I q' q).elim
  |tdc ds' _ ps' q' w'=>exact(pP I q' q).elim
  |cnt n cl _ b q'=>exact(pQ I q' q).elim
 |dct ds a ps q w=>
  cases h' with
  |dct ds' _ ps' q' w'=>have:=pU q q';cases this;rw[RDk.inj I w w']
  |tup ds' _ xs' its' q' w' r' p'=>exact(pN I q q').elim
  |lst ds' _ xs' its' q' w' r' p'=>exact(pM I q q').elim
  |tdc ds' _ ps' q' w'=>have:=pU q q';cases this
  |cnt n cl _ b q'=>exact(pS q' q).elim
 |tdc ds a ps q w=>
  cases h' with
  |tdc ds' _ ps' q' w'=>have:=pU q q';cases this;rw[RDt.inj I w w']
  |tup ds' _ xs' its' q' w' r' p'=>exact(pP I q q').elim
  |lst ds' _ xs' its' q' w' r' p'=>exact(pO I q q').elim
  |cnt n cl _ b q'=>exact(pT q' q).elim
  |dct ds' _ ps' q' w'=>have:=pU q q';cases this
 |lst ds a xs its q w r p=>
  cases h' with
  |lst ds' _ xs' its' q' w' r' p'=>have:=I.list_inj q q';subst this;rw[RDs.inj I w w']
  |tup ds' _ xs' its' q' w' r' p'=>exact(pL I q q').elim
  |dct ds' _ ps' q' w'=>exact(pM I q' q).elim
  |tdc ds' _ ps' q' w'=>exact(pO I q' q).elim
  |cnt n cl _ b q'=>exact(pR I q' q).elim
 |cnt n cl a b q=>
  cases h' with
  |cnt n' cl' _ b' q'=>obtain⟨z1,z2⟩:=AI q q';rw[z1,z2]
  |tup ds' _ xs' its' q' w' r' p'=>exact(pQ I q q').elim
  |lst ds' _ xs' its' q' w' r' p'=>exact(pR I q q').elim
  |dct ds' _ ps' q' w'=>exact(pS q q').elim
  |tdc ds' _ ps' q' w'=>exact(pT q q').elim
open Classical in
noncomputable def eG(X:Cx)(H:Hp)(s:Shared)(x:D)(w:Value):Bool:=decide (∃d,Sees X H s d w/\D.eqb d x=true)
theorem AN(I:Inv X pins σ H s)(sd:Sees X H s d w):eG X H s x w=D.eqb d x:=by
 classical
 unfold eG
 by_cases h:D.eqb d x=true
 ·rw[h];simp only[decide_eq_true_eq];exact⟨d,sd,h⟩
 ·have h':D.eqb d x=false:=by simpa using h
  rw[h']
  simp only[decide_eq_false_iff_not]
  rintro⟨d',sd',h''⟩
  rw[Sees.inj I sd' sd]at h''
  exact h h''
theorem nN(I:Inv X pins σ H s){ux:Value}{n:Nat}{A:Around}(hx:Sees X H s x ux)(fx:D.pl n x=true)(hu:A.units+n<cLine) :
 ∀{ds:List D} {xs:List V} {us:List Value},RDs X.K H no ds xs->Vals xs us->D.pls (n+1) ds=true->(∀w∈us,SeqAt.EqAt A s w ux (eG X H s x w))/\us.any (eG X H s x)=D.mem x ds
 |[],xs,us,w,r,f=>by
  rw[RDs]at w;subst w;cases r
  exact⟨λw h=>absurd h List.not_mem_nil,rfl⟩
 |d::ds,xs,us,w,r,f=>by
  obtain⟨v,ys,rfl,e1,e2⟩:=w
  rw[sH,aD]at f
  cases r with
  |cons a1 r1=>
   have ih:=nN I hx fx hu e2 r1 f.2
   have sd:=nI I e1 a1
   refine⟨λw hw=>?_,?_⟩
   ·rcases bU.mp hw with rfl|hw
    ·rw[AN I sd]
     exact eqAt_D I n d x A w ux sd hx f.1 fx hu
    ·exact ih.1 w hw
   ·rw[iC,D.mem,ih.2,AN I sd]
theorem Ig{x:V}(r:RD K H no d x):decide (x=.non)=D.isNon d:=by
 cases d with
 |non=>cases (show x=.non from r);rfl
 |bl b=>cases (show x=.bl b from r);rfl
 |int b=>cases (show x=.int b from r);rfl
 |str b=>cases (show x=.str b from r);rfl
 |tup ds=>obtain⟨a,xs,rfl,_⟩:=r;rfl
 |lst ds=>obtain⟨a,xs,rfl,_⟩:=r;rfl
 |dct ds=>obtain⟨a,xs,rfl,_⟩:=r;rfl
 |tdc ds=>obtain⟨a,xs,rfl,_⟩:=r;rfl
 |cnt _ _=>obtain⟨a,xs,rfl,_⟩:=r;rfl
theorem AO{x:V}(r:RR K H O d x):decide (x=.non)=D.isNon d:=by
 rcases r with r|⟨a,rfl,h⟩
 ·exact Ig (r.weak λ_ z=>z.elim)
 ·cases d<;>first|rfl|exact h.elim
theorem lF(o:CmpOp)(hroom:fP X):OpR X (compareOp o) (rD2 X.K (D.cmp o) false):=by
 intro pins s σ H x y v u Q I rx ry h
 obtain⟨O,d1,d2,d,r1,r2,ev,tr,k⟩:=h
 have hroom':X.A.units+64<cLine:=hroom
 have kk:∀b,d=.bl b->Q (.bl b) H:=λb e=>k _ H (Same.refl H) (by subst e;exact rfl) λz=>by cases z
 have s1:=tF I r1 rx
 have s2:=tF I r2 ry
 unfold D.cmp at ev
 split at ev
 ·obtain⟨c,ev⟩:=aS ev
  cases ev
  unfold D.eqOk at c
  rw[aD]at c
  exact rcAt_D I s1 s2 c.1 c.2 (by lia) X.prog X.w X.xe _ ⟨.bl _,H,I,rfl,kk _ rfl⟩
 ·obtain⟨c,ev⟩:=aS ev
  cases ev
  unfold D.eqOk at c
  rw[aD]at c
  exact IV I s1 s2 c.1 c.2 (by lia) X.prog X.w X.xe _ ⟨.bl _,H,I,rfl,kk _ rfl⟩
 ·cases ev
  cases (show x=_ from r1.rd rfl)
  cases (show y=_ from r2.rd rfl)
  exact op_lt pins s σ H _ _ v u Q I rx ry ⟨_,_,rfl,rfl,kk _ rfl⟩
 ·obtain⟨n1,e1,ev⟩:=Res.bind_ok ev
  obtain⟨n2,e2,ev⟩:=Res.bind_ok ev
  cases ev
  cases s1 with
  |lst ds a xs its q w r p=>
   cases s2 with
   |lst ds2 a2 xs2 its2 q2 w2 r2 p2=>
    have h1:IntsAre its n1:=sS (by rw[<-nK e1 w];exact r)
    have h2:IntsAre its2 n2:=sS (by rw[<-nK e2 w2];exact r2)
    exact I_ p.isList p2.isList h1 h2 (by lia) ⟨.bl _,H,I,rfl,kk _ rfl⟩
 ·cases ev
  cases (show x=_ from r1.rd rfl)
  cases (show y=_ from r2.rd rfl)
  exact op_le pins s σ H _ _ v u Q I rx ry ⟨_,_,rfl,rfl,kk _ rfl⟩
 ·cases ev
  cases (show x=_ from r1.rd rfl)
  cases (show y=_ from r2.rd rfl)
  exact op_gt pins s σ H _ _ v u Q I rx ry ⟨_,_,rfl,rfl,kk _ rfl⟩
 ·cases ev
  cases (show x=_ from r1.rd rfl)
  cases (show y=_ from r2.rd rfl)
  exact op_ge pins s σ H _ _ v u Q I rx ry ⟨_,_,rfl,rfl,kk _ rfl⟩
 ·cases ev
  cases (show y=_ from r2.rd rfl)
  have e:decide (x=.non)=D.isNon d1:=AO r1
  exact op_isN pins s σ H _ _ v u Q I rx ry ⟨rfl,by rw[e];exact kk _ rfl⟩
 ·cases ev
  cases (show y=_ from r2.rd rfl)
  have e:decide (x=.non)=D.isNon d1:=AO r1
  exact GE pins s σ H _ _ v u Q I rx ry ⟨rfl,by rw[e];exact kk _ rfl⟩
 ·cases ev
  cases (show x=_ from r1.rd rfl)
  cases (show y=_ from r2.rd rfl)
  cases rx
  cases ry
  exact is_bool (kU I (kk _ rfl) rfl)
 ·cases ev
  cases (show x=_ from r1.rd rfl)
  cases (show y=_ from r2.rd rfl)
  cases rx
  cases ry
  exact isnot_bool (kU I (kk _ rfl) rfl)
 ·obtain⟨b,e1,ev⟩:=Res.bind_ok ev
  cases ev
  unfold D.inn at e1
  split at e1
  ·obtain⟨c,e1⟩:=aS e1
   cases e1
   rw[aD]at c
   cases s2 with
   |lst ds a xs its q w r p=>
    have t:=nN I (n:=29) (A:=X.A.in1) s1 c.2 (by show X.A.units+1+29<cLine;lia) w r c.1
    refine SeqAt.in_listAt (eG X H s d1) p.isList (λw hw=>t.1 w (by simpa using hw)) ⟨.bl _,H,I,rfl,?_⟩
    rw[show its.toArray.any (eG X H s d1)=its.any (eG X H s d1) by simp,t.2]
    exact kk _ rfl
  ·obtain⟨c,e1⟩:=aS e1
   cases e1
   rw[aD]at c
   cases s2 with
   |tup ds a xs its q w r p=>
    have t:=nN I (n:=29) (A:=X.A.in1) s1 c.2 (by show X.A.units+1+29<cLine;lia) w r c.1
    refine SeqAt.in_tupleAt (eG X H s d1) p (λw hw=>t.1 w (by simpa using hw)) ⟨.bl _,H,I,rfl,?_⟩
    rw[show its.toArray.any (eG X H s d1)=its.any (eG X H s d1) by simp,t.2]
    exact kk _ rfl
  ·obtain⟨key,e2,e1⟩:=Res.bind_ok e1
   cases e1
   obtain⟨a,ps,rfl,q,w⟩:=r2.dct
   cases ry
   have ex:=nM (fZ e2) r1
   subst ex
   refine d_in (by lia) I (.inl ⟨ps,key,q,rfl,rfl⟩) rx λs' I'=>⟨.bl _,H,I',rfl,?_⟩
   rw[<-(pW (k:=key) w).2]
   exact kk _ rfl
  ·split at e1
   ·obtain⟨key,e2,e1⟩:=Res.bind_ok e1
    cases e1
    obtain⟨a,ps,rfl,q,w⟩:=r2.tdc
    cases ry
    obtain⟨b',xs,rfl,tq,w1⟩:=r1.tupV
    refine d_in (by lia) I (.inr ⟨ps,key,b',q,rfl,lE (fZ e2) w1 tq,rfl⟩) rx λs' I'=>⟨.bl _,H,I',rfl,?_⟩
    rw[<-(nL (k:=key) w).2]
    exact kk _ rfl
   ·cases e1
  ·split at e1
   ·cases (show x=_ from r1.rd rfl)
    cases (show y=_ from r2.rd rfl)
    exact GD pins s σ H _ _ v u Q I rx ry ⟨_,_,rfl,rfl,by rw[zO e1];exact kk _ rfl⟩
   ·cases e1
  ·cases e1
 ·obtain⟨b,e1,ev⟩:=Res.bind_ok ev
  cases ev
  unfold D.inn at e1
  split at e1
  ·obtain⟨c,e1⟩:=aS e1
   cases e1
   rw[aD]at c
   cases s2 with
   |lst ds a xs its q w r p=>
    have t:=nN I (n:=29) (A:=X.A.in1) s1 c.2 (by show X.A.units+1+29<cLine;lia) w r c.1
    refine SeqAt.notIn_listAt (eG X H s d1) p.isList (λw hw=>t.1 w (by simpa using hw)) ⟨.bl _,H,I,rfl,?_⟩
    rw[show its.toArray.any (eG X H s d1)=its.any (eG X H s d1) by simp,t.2]
    exact kk _ rfl
  ·obtain⟨c,e1⟩:=aS e1
   cases e1
   rw[aD]at c
   cases s2 with
   |tup ds a xs its q w r p=>
    have t:=nN I (n:=29) (A:=X.A.in1) s1 c.2 (by show X.A.units+1+29<cLine;lia) w r c.1
    refine SeqAt.notIn_tupleAt (eG X H s d1) p (λw hw=>t.1 w (by simpa using hw)) ⟨.bl _,H,I,rfl,?_⟩
    rw[show its.toArray.any (eG X H s d1)=its.any (eG X H s d1) by simp,t.2]
    exact kk _ rfl
  ·obtain⟨key,e2,e1⟩:=Res.bind_ok e1
   cases e1
   obtain⟨a,ps,rfl,q,w⟩:=r2.dct
   cases ry
   have ex:=nM (fZ e2) r1
   subst ex
   refine yS (by lia) I (.inl ⟨ps,key,q,rfl,rfl⟩) rx λs' I'=>⟨.bl _,H,I',rfl,?_⟩
   rw[<-(pW (k:=key) w).2]
   exact kk _ rfl
  ·split at e1
   ·obtain⟨key,e2,e1⟩:=Res.bind_ok e1
    cases e1
    obtain⟨a,ps,rfl,q,w⟩:=r2.tdc
    cases ry
    obtain⟨b',xs,rfl,tq,w1⟩:=r1.tupV
    refine yS (by lia) I (.inr ⟨ps,key,b',q,rfl,lE (fZ e2) w1 tq,rfl⟩) rx λs' I'=>⟨.bl _,H,I',rfl,?_⟩
    rw[<-(nL (k:=key) w).2]
    exact kk _ rfl
   ·cases e1
  ·split at e1
   ·cases (show x=_ from r1.rd rfl)
    cases (show y=_ from r2.rd rfl)
    exact GF pins s σ H _ _ v u Q I rx ry ⟨_,_,rfl,rfl,by rw[zO e1];exact kk _ rfl⟩
   ·cases e1
  ·cases e1
 ·cases ev
theorem ixN_eq(n:Nat)(i:Int):Tr.ixN n i=L2.ixN n i:=rfl
theorem AQ{i:Int}(w:RDs K H O ds xs)(h:Tr.atI ds i=some d):∃v,L2.atI xs i=some v/\RD K H O d v:=by
 unfold Tr.atI at h
 unfold L2.atI
 rw[w.length]
 rw[ixN_eq]at h
 cases e:L2.ixN ds.length i with
 |none=>rw[e]at h;cases h
 |some j=>
  rw[e]at h
  exact w.get h
theorem d_ix{value slice:Expr}{pins:List (Addr×Obj)}{s:Shared}{σ:L2.St}{H:Hp}{a:Addr}{y v0:V}{u:Value}{Q:VK}(I:Inv X pins σ H s)(g:iG H a y (some v0))(ry:RelV y u)(hroom:fP X)(q:Q v0 H)
 (hs:subscripted slice false (.ref a) u=operate [.ref a,u] (getItem (.ref a) u)):wpAny (model X.prog X.w) X.A (subscriptTail value slice (.ref a) u) (EP X pins σ Q) X.xe s:=by
 have hroom':X.A.units+64<cLine:=hroom
 have hT:=Gz I g
 unfold subscriptTail
 refine wpAny_bind ?_
 rw[getitemInPython_of_ne hT.not_modules]
 refine wpAny_bind (wpAny_specialOf hT PySem.F.slot_dict_getitem.lookup ?_)
 have fin:wpAny (model X.prog X.w) X.A (subscripted slice false (.ref a) u) (λr su=>wpAny (model X.prog X.w) X.A (letTemporaryGo value (.ref a) r>>=λ_=>pure r) (EP X pins σ Q) X.xe su) X.xe s:=by
  rw[hs]
  exact wpAny_operating (Gw (by lia) I g ry λw' s3 I3 rw'=>wpAny_bind (wpAny_letTemporaryGo (wpAny_pure ⟨v0,H,I3,rw',q⟩)))
 first
  |exact wpAny_pure (wpAny_bind fin)
  |exact wpAny_bind (wpAny_pure (wpAny_bind fin))
  |exact wpAny_bind fin
theorem ixr(hroom:fP X):IxR X (rD2 X.K D.ix false):=by
 intro value slice pins s σ H x y v u Q I rx ry h hs
 obtain⟨O,d1,d2,d,r1,r2,ev,tr,k⟩:=h
 have kk:∀w,RD X.K H O d w->Q w H:=λw r=>k w H (Same.refl H) r λz=>by cases z
 unfold D.ix at ev
 split at ev
 ·obtain⟨a1,xs1,rfl,q1,w1⟩:=r1.lst
  cases (show y=_ from r2.rd rfl)
  rename_i ds i
  cases e:Tr.atI ds i with
  |none=>rw[e]at ev;cases ev
  |some d0=>
   rw[e]at ev;cases ev
   obtain⟨w,h1,h2⟩:=AQ w1 e
   exact Gb value slice pins s σ H _ _ v u Q I rx ry ⟨a1,xs1,_,w,rfl,rfl,q1,h1,kk w h2⟩ hs
 ·obtain⟨a1,xs1,rfl,q1,w1⟩:=r1.tup
  cases (show y=_ from r2.rd rfl)
  rename_i ds i
  cases e:Tr.atI ds i with
  |none=>rw[e]at ev;cases ev
  |some d0=>
   rw[e]at ev;cases ev
   obtain⟨w,h1,h2⟩:=AQ w1 e
   exact ix_tup value slice pins s σ H _ _ v u Q I rx ry ⟨a1,xs1,_,w,rfl,rfl,q1,h1,kk w h2⟩ hs
 ·rename_i z i
  obtain⟨c,ev⟩:=aS ev
  cases (show x=.str z from r1.rd rfl)
  cases (show y=.int i from r2.rd rfl)
  cases e:Tr.atI z.cps.toList i with
  |none=>rw[e]at ev;cases ev
  |some c0=>
   rw[e]at ev;cases ev
   exact ix_str value slice pins s σ H _ _ v u Q I rx ry ⟨z,i,c0,rfl,rfl,by rw[<-fO];exact of_decide_eq_true c,e,kk _ rfl⟩ hs
 ·rename_i kvs y0
  obtain⟨key,e2,ev⟩:=Res.bind_ok ev
  obtain⟨a,ps,rfl,q,w⟩:=r1.dct
  cases rx
  have ex:=nM (fZ e2) r2
  subst ex
  have hroom':X.A.units+64<cLine:=hroom
  obtain⟨v0,h1,h2⟩:=(pW (k:=key) w).1 _ (fZ ev)
  have g:iG H a (kV key) (some v0):=.inl ⟨ps,key,q,rfl,h1.symm⟩
  exact d_ix I g ry hroom (kk v0 h2) hs
 ·rename_i kvs ks
  obtain⟨key,e2,ev⟩:=Res.bind_ok ev
  obtain⟨a,ps,rfl,q,w⟩:=r1.tdc
  cases rx
  obtain⟨b',xs,rfl,tq,w1⟩:=r2.tupV
  obtain⟨v0,h1,h2⟩:=(nL (k:=key) w).1 _ (fZ ev)
  have g:iG H a (.ref b') (some v0):=.inr ⟨ps,key,b',q,rfl,lE (fZ e2) w1 tq,h1.symm⟩
  exact d_ix I g ry hroom (kk v0 h2) hs
 ·cases ev
end
end Tr
namespace Tr
open PySem PySem.Spec PyProof.Rows L2
variable{o:CmpOp}{env:Env}{e:Expr}
noncomputable def aX:Expr->Bool
 |.Starred _ _=>false
 |.Slice _ _ _ _=>false
 |.Set _ _ _=>false
 |_=>true
theorem Ih(h:aX e=true):yG e:=by
 intro o i
 cases e<;>first|rfl|(cases h)
theorem aU{es:List Expr}(h:aX e=true):starEach (e::es) env=(false,eval e env)::starEach es env:=by
 cases e<;>first|rfl|(cases h)
theorem gA{pos:Pos}{env:Env}:∀{es:List Expr},es.all aX=true->(backTo pos (starEach es env)).any (·.1)=false
 |[],_=>rfl
 |e::es,h=>by
  rw[gP,aD]at h
  have ih:=gA (pos:=pos) (env:=env) h.2
  rw[aU h.1]
  show(false||(backTo pos (starEach es env)).any (·.1))=false
  rw[ih];rfl
theorem pX(h:aX e=true):behindInMarks o e=false:=by
 cases e<;>first|rfl|(cases h)
theorem AR(h:aX e=true):∀x,foldedSetIterable e env x=pure x:=by
 intro x
 cases e<;>first|rfl|(cases h)
section
variable{T:Tab}{cf:Nat->List D->Res D}{X:Cx}{x y z:E}{p q r:Expr}{pos:Pos}{es:List Expr}
theorem se_bin{o:Operator}(ha:SR T cf X x p)(hb:SR T cf X y q):SE T cf X (.bin o x y) (.BinOp p o q pos):=
 tB (f:=D.bin o) (λe=>rfl) (λh1 h2=>pe_op (Ia o _ (by cases o<;>first|(intro _;rfl)|(intro z;cases z))) h1 h2) ha hb
theorem se_cmp(hR:fP X)(hm:aX q=true)(ha:SR T cf X x p)(hb:SR T cf X y q):SE T cf X (.cmp o x y) (.Compare p [o] [q] pos):=
 tB (f:=D.cmp o) (λe=>rfl) (λh1 h2=>GG (lF o hR) h1 h2 (pX hm)) ha hb
theorem se_ix(hR:fP X)(hm:aX q=true)(ha:SR T cf X x p)(hb:SR T cf X y q):SE T cf X (.ix x y) (.Subscript p q pos):=
 tB (f:=D.ix) (λe=>rfl) (λh1 h2=>pe_ix (ixr hR) h1 h2 (Ih hm)) ha hb
theorem Ij{X:Cx}:SlR X (λx lo hi H Q=>∃a xs,x=.ref a/\SqT X.K H a xs/\(HT.sIx xs.length 0 lo=0/\HT.sIx xs.length xs.length hi=xs.length)/\Q (.ref a) H):=by
 intro pins s σ H x v vl vu lo hi sl Q I rx hs pl pu h
 obtain⟨a,xs,rfl,hx,hw,q⟩:=h
 cases rx
 obtain⟨its,r,ht,hz⟩:=I.tuple hx
 have hlen:its.toArray.size=xs.length:=by rw[bI];exact r.length.symm
 refine⟨"tuple", _,PyProof.Rows.slot_tuple_getitem.lookup,ht.typeIs,?_⟩
 obtain⟨os,hos,hcs,hds⟩:=id hs
 have hTs:s.TypeIs (.ref sl) "slice" := ⟨os,hos,hcs⟩
 have fin:EP X pins σ Q (.ref a) s:=⟨.ref a,H,I,rfl,q⟩
 unfold getItem
 try with_reducible refine wpAny_holding ?_
 first|refine wpAny_bind (wpAny_pure ?_)|skip
 refine wpAny_bind (wpAny_sequenceKey ht.typeIs (by decide) ?_)
 refine wpAny_bind (wpAny_callSpecial?_slot (name:=Str.ofString "__getitem__") ht.typeIs PyProof.Rows.slot_tuple_getitem
  (wpAny_call_entry PyProof.Rows.slot_tuple_getitem ht.typeIs entry_tuple_getitem ?_ (args_tuple_getitem _ _)))
 show wpAny _ _ (Builtin.Tuple.tupleItemsOf (.ref a)>>=_) _ _ s
 refine wpAny_bind (tupleItemsOf_ ht ?_)
 refine wpAny_bind (wpAny_typeOf hTs ?_)
 rw[if_pos (by decide)]
 refine wpAny_bind (HT.sliceApplied_gen hs pl pu ?_)
 have hyes:(((HT.sIx its.toArray.size 0 lo:Nat):Int)==0&&(1:Int)==1&&(HT.sIx its.toArray.size its.toArray.size hi-HT.sIx its.toArray.size 0 lo)==its.toArray.size)=true:=by
  rw[hlen,hw.1,hw.2];simp
 show wpAny _ _ (if(((HT.sIx its.toArray.size 0 lo:Nat):Int)==0&&(1:Int)==1&&(HT.sIx its.toArray.size its.toArray.size hi-HT.sIx its.toArray.size 0 lo)==its.toArray.size)=true then _ else _) _ _ s
 rw[if_pos hyes]
 refine wpAny_bind (m:=Builtin.Tuple.tupleIsExact (.ref a)) ?_
 unfold Builtin.Tuple.tupleIsExact
 refine wpAny_bind (wpAny_typeOf ht.typeIs (wpAny_pure ?_))
 rw[if_pos (by decide)]
 refine wpAny_bind (wpAny_rule ?_)
 first
  |exact wpAny_pure ⟨_,rfl,wpAny_pure fin⟩
  |exact wpAny_bind (wpAny_pure ⟨_,rfl,wpAny_pure fin⟩)
  |exact wpAny_bind (wpAny_pure (wpAny_pure ⟨_,rfl,wpAny_pure fin⟩))
  |trace_state
end
end Tr
namespace Tr
open PySem PySem.Spec PyProof.Rows L2
variable{o o':CmpOp}{d:D}{a b:Expr}{H:Hp}{rest:List Expr}{ta tb:TE}
section
variable{T:Tab}{cf:Nat->List D->Res D}{X:Cx}{x y z:E}{p q r:Expr}{pos pos':Pos}{es:List Expr}
theorem AS(n d:Nat)(o:Option Int):Tr.sIx n d o=HT.sIx n d o:=by cases o<;>rfl
theorem slr:SlR X (λv lo hi H Q=>∃O d0 d,RR X.K H O d0 v/\D.sl d0 lo hi=.ok d/\(∀a,O a->∃o,H a=some o)/\∀w H',Same H H'->RD X.K H' O d w->NewL X.K H H' O d w->Q w H'):=by
 intro pins s σ H x v vl vu lo hi sl Q I rx hs pl pu h
 obtain⟨O,d0,d,r0,ev,tr,k⟩:=h
 unfold D.sl at ev
 split at ev
 ·cases ev
  obtain⟨a,xs,rfl,q0,w0⟩:=r0.lst
  refine Ge pins s σ H _ v vl vu _ _ sl Q I rx hs pl pu ⟨a,xs,rfl,q0,λp hp=>?_⟩
  have z:=kA (w0.cut lo hi) hp tr
  exact k _ _ (bK hp _) z.1 z.2
 ·cases ev
  obtain⟨a,xs,rfl,qv,w0⟩:=r0.tupV
  have q0:=qv.sq
  by_cases hw:HT.sIx xs.length 0 lo=0/\HT.sIx xs.length xs.length hi=xs.length
  ·refine Ij pins s σ H _ v vl vu _ _ sl Q I rx hs pl pu ⟨a,xs,rfl,q0,hw,?_⟩
   refine k _ _ (Same.refl H) ⟨a,xs,rfl,qv,?_⟩ (NewL.still rfl)
   unfold Tr.cut
   rw[<-w0.length,AS,AS,hw.1,hw.2,rL,xC,lZ (by rw[w0.length];exact aK _)]
   exact w0
  ·refine sl_tup pins s σ H _ v vl vu _ _ sl Q I rx hs pl pu ⟨a,xs,rfl,q0,hw,λp hp=>?_⟩
   exact k _ _ (bK hp _) (kB (w0.cut lo hi) hp) (NewL.still rfl)
 ·obtain⟨c,ev⟩:=aS ev
  cases ev
  cases (show x=_ from r0.rd rfl)
  exact sl_str pins s σ H _ v vl vu _ _ sl Q I rx hs pl pu ⟨_,rfl,by rw[<-fO];exact of_decide_eq_true c,k _ H (Same.refl H) rfl (NewL.still rfl)⟩
 ·cases ev
noncomputable def SO(T:Tab)(cf:Nat->List D->Res D)(X:Cx)(x:E)(p:Option Expr):Prop:=∀H_h O0,PO X p (λσ H Q=>∃O own e d o,Fm X.K H_h O0 H O own e σ/\evE T cf x e=.ok d/\d.part=.ok o/\∀H',Same H H'->Q o H')
theorem Ik:SO T cf X .omit none:=λH_h O0 pins s σ H Q I ⟨O,own,e,d,o,F,ev,ep,k⟩=>by
 rw[HG]at ev;cases ev;cases ep
 exact G8 pins s σ H Q I (k H (Same.refl H))
theorem Il(h:SE T cf X x p):SO T cf X x (some p):=λH_h O0 pins s σ H Q I ⟨O,own,e,d,o,F,ev,ep,k⟩=>by
 rw[evalPart_some]
 refine thn (h H_h O0 pins s σ H (λv H'=>Same H H'/\RD X.K H' O d v) I ⟨O,own,e,d,F,ev,λv H' s' r _=>⟨s',r⟩⟩) λu s1 ⟨v,H1,I1,r1,s',r⟩=>?_
 unfold D.part at ep
 split at ep
 ·cases ep
  cases (show v=_ from r)
  cases r1
  exact⟨none,H1,I1,.none,k H1 s'⟩
 ·cases ep
  cases (show v=_ from r)
  obtain⟨t,rfl⟩:=r1
  exact⟨_,H1,I1,.int _ t,k H1 s'⟩
 ·cases ep
theorem se_sl{lo hi:Option Expr}(ha:SR T cf X x p)(hl:SO T cf X y lo)(hh:SO T cf X z hi):SE T cf X (.sl x y z) (.Subscript p (.Slice lo hi none pos') pos):=λH_h O0=>by
 refine PE.imp (λσ H Q hq=>?_) (G9 slr (ha H_h O0) (hl H_h O0) (hh H_h O0))
 obtain⟨O,own,e,d,F,ev,k⟩:=hq
 rw[xE_sl]at ev
 obtain⟨d1,e1,ev⟩:=Res.bind_ok ev
 obtain⟨d2,e2,ev⟩:=Res.bind_ok ev
 obtain⟨o2,e2',ev⟩:=Res.bind_ok ev
 obtain⟨d3,e3,ev⟩:=Res.bind_ok ev
 obtain⟨o3,e3',ev⟩:=Res.bind_ok ev
 refine⟨O,own,e,d1,F,e1,λv1 H1 s1 r1=>⟨O,own,e,d2,o2,F.grow s1,e2,e2',λH2 s2=>⟨O,own,e,d3,o3,(F.grow s1).grow s2,e3,e3',λH3 s3=>?_⟩⟩⟩
 refine⟨O,d1,d,(r1.same s2).same s3,ev,((F.grow s1).grow (s2.trans s3)).trk,λw H' s4 r4 n4=>?_⟩
 exact k w H' ((s1.trans (s2.trans s3)).trans s4) r4 λ_=>n4.back (s1.trans (s2.trans s3))
theorem AU{a:E}{e:Nv}{ds:List D}(h:evA T cf a e=.ok ds):ds.length<=1000:=by
 cases a with
 |anil=>(first|rw[jZ]at h|rw[pB]at h);cases h;exact fU _
 |acons a r=>
  (first|rw[jZ]at h|rw[pB]at h)
  obtain⟨d1,e1,h⟩:=Res.bind_ok h
  obtain⟨d2,e2,h⟩:=Res.bind_ok h
  obtain⟨c,h⟩:=aS h
  cases h
  have:=of_decide_eq_true c
  rw[aN];lia
 |_=>exact absurd (show(Res.no:Res (List D))=Res.ok ds from h) (λz=>by cases z)
theorem sav_nil:SAv T cf X .anil []:=λH_h O0 pos pins s σ H Q I ⟨O,own,e,ds,F,ev,k⟩=>by
 rw[jZ]at ev;cases ev
 exact eZ pos pins s σ H Q I (k [] H (Same.refl H) rfl λj d v _ z=>by cases z)
theorem Im(hp:aX p=true)(ha:SE T cf X x p)(hr:SAv T cf X y es):SAv T cf X (.acons x y) (p::es):=λH_h O0 pos pins s σ H Q I ⟨O,own,e,ds,F,ev,k⟩=>by
 rw[pB]at ev
 obtain⟨d1,e1,ev⟩:=Res.bind_ok ev
 obtain⟨d2,e2,ev⟩:=Res.bind_ok ev
 obtain⟨c,ev⟩:=aS ev
 cases ev
 refine dU (ha H_h O0) (hr H_h O0) (aU hp) pos pins s σ H Q I ⟨O,own,e,d1,F,e1,λv1 H1 s1 r1 n1=>⟨O,own,e,d2,F.grow s1,e2,λvs H2 s2 r2 n2=>?_⟩⟩
 refine k (v1::vs) H2 (s1.trans s2) ⟨v1,vs,rfl,r1.same s2,r2⟩ λj d v hf hd hv=>?_
 cases j with
 |zero=>cases hd;cases hv;exact(n1 hf).same s2
 |succ j=>exact(n2 j d v hf hd hv).back s1
theorem Io:SAr T cf X .anil []:=sav_nil.sr
theorem Ip(hp:aX p=true)(ha:SR T cf X x p)(hr:SAr T cf X y es):SAr T cf X (.acons x y) (p::es):=λH_h O0 pos pins s σ H Q I ⟨O,own,e,ds,F,ev,k⟩=>by
 rw[pB]at ev
 obtain⟨d1,e1,ev⟩:=Res.bind_ok ev
 obtain⟨d2,e2,ev⟩:=Res.bind_ok ev
 obtain⟨c,ev⟩:=aS ev
 cases ev
 refine dU (ha H_h O0) (hr H_h O0) (aU hp) pos pins s σ H Q I ⟨O,own,e,d1,F,e1,λv1 H1 s1 r1=>⟨O,own,e,d2,F.grow s1,e2,λvs H2 s2 r2=>?_⟩⟩
 exact k (v1::vs) H2 (s1.trans s2) ⟨v1,vs,rfl,r1.same s2,r2⟩
theorem AV{n:Nat}(h:n<=1000):n<=sizeLine:=kM (Gv h)
theorem se_tup{k:Nat}(ha:SAv T cf X x es):SE T cf X (.tup x) (.Tuple es k pos):=λH_h O0=>by
 refine PE.imp (λσ H Q hq=>?_) (pe_tup (ha H_h O0))
 obtain⟨O,own,e,d,F,ev,k⟩:=hq
 rw[nA]at ev
 obtain⟨ds,e1,ev⟩:=Res.bind_ok ev
 cases ev
 refine⟨O,own,e,ds,F,e1,λvs H1 s1 r1 _=>⟨by rw[r1.length];exact AV (AU e1),λp hp=>?_⟩⟩
 exact k _ _ (s1.trans (bK hp _)) (kB r1 hp) (λz=>by cases z)
theorem se_lst(ha:SAv T cf X x es):SE T cf X (.lst x) (.List es pos):=λH_h O0=>by
 refine PE.imp (λσ H Q hq=>?_) (pe_lst (ha H_h O0))
 obtain⟨O,own,e,d,F,ev,k⟩:=hq
 rw[nB]at ev
 obtain⟨ds,e1,ev⟩:=Res.bind_ok ev
 cases ev
 refine⟨O,own,e,ds,F,e1,λvs H1 s1 r1 _=>⟨by rw[r1.length];exact AV (AU e1),λp hp=>?_⟩⟩
 have z:=kA r1 hp (F.grow s1).trk
 exact k _ _ (s1.trans (bK hp _)) z.1 λ_=>z.2.back s1
theorem AW{α β:Type}{xs:List α}{ds:List β}(h:xs.length=ds.length):(!ds.isEmpty)=!xs.isEmpty:=by
 cases xs<;>cases ds<;>first|rfl|(simp at h)
theorem pY{K:PySem.W.Frag}{O:Addr->Prop}{v:V}{k:Bool}(r:RR K H O d v)(h:d.truth=.ok k):mM K v H k:=by
 unfold D.truth at h
 split at h
 ·cases h;cases (show v=_ from r.rd rfl);exact(rfl:false=false)
 ·cases h;cases (show v=_ from r.rd rfl);exact(rfl:k=k)
 ·cases h;cases (show v=_ from r.rd rfl);exact rfl
 ·obtain⟨c,h⟩:=aS h
  cases h;cases (show v=_ from r.rd rfl);exact⟨by rw[<-fO];exact of_decide_eq_true c,rfl⟩
 ·cases h
  obtain⟨a,xs,rfl,q,w⟩:=r.tup
  refine .inr (.inl ⟨xs,q,?_⟩)
  exact AW w.length
 ·cases h
  obtain⟨a,xs,rfl,q,w⟩:=r.lst
  refine .inl ⟨xs,q,?_⟩
  exact AW w.length
 ·cases h
 ·cases h
 ·cases h
theorem AX(ha:SR T cf X x p)(he:∀whole,isTrue p X.env whole=(do let v<-whole;standAt p.pos;holding [v] (truthy v))):ST T cf X x p:=λH_h O0=>
 PT.imp (λσ H Q ⟨O,own,e,d,k,F,ev,et,q⟩=>⟨O,own,e,d,F,ev,λv H' s r=>⟨k,pY r et,q H' s⟩⟩) (GL (ha H_h O0) he)
theorem tM{a b:D}(h:D.cmp o a b=.ok d):∃k,d=.bl k:=by
 unfold D.cmp at h
 split at h<;>first
  |(obtain⟨_,h⟩:=aS h;cases h;exact⟨_,rfl⟩)
  |(cases h;exact⟨_,rfl⟩)
  |(obtain⟨_,_,h⟩:=Res.bind_ok h;cases h;exact⟨_,rfl⟩)
  |(obtain⟨_,_,h⟩:=Res.bind_ok h;obtain⟨_,_,h⟩:=Res.bind_ok h;cases h;exact⟨_,rfl⟩)
  |cases h
theorem st_cmp(hR:fP X)(hm:aX q=true)(ha:SR T cf X x p)(hb:SR T cf X y q):ST T cf X (.cmp o x y) (.Compare p [o] [q] pos):=λH_h O0=>by
 refine PT.imp (λσ H Q hq=>?_) (GH (lF o hR) (ha H_h O0) (hb H_h O0) (pX hm))
 obtain⟨O,own,e,d,k,F,ev,et,qk⟩:=hq
 rw[sP]at ev
 obtain⟨d1,e1,ev⟩:=Res.bind_ok ev
 obtain⟨d2,e2,ev⟩:=Res.bind_ok ev
 obtain⟨k',rfl⟩:=tM ev
 cases et
 refine⟨O,own,e,d1,F,e1,λv1 H1 s1 r1=>⟨O,own,e,d2,F.grow s1,e2,λv2 H2 s2 r2=>?_⟩⟩
 refine⟨O,d1,d2,_,r1.same s2,r2,ev,(F.grow (s1.trans s2)).trk,λv H' s3 r3 _=>?_⟩
 exact⟨k,r3,qk H' ((s1.trans s2).trans s3)⟩
theorem Iq(ha:PE X a ta)(hb:PE X (.BoolOp .And (b::rest) pos) tb) :
 PE X (.BoolOp .And (a::b::rest) pos) (λσ H Q=>ta σ H λx H1=>∃c,mM X.K x H1 c/\if c=true then tb σ H1 Q else Q x H1):=by
 intro pins s σ H Q I h
 refine BoolOp_and (thn (ha pins s σ H _ I h) λv s1 ⟨x,H1,I1,r1,c,tc,q1⟩=>?_)
 refine thn (oX pins s1 σ H1 x v (λb H2=>b=c/\H2=H1) I1 r1 ⟨c,tc,rfl,rfl⟩) λb s2 ⟨H2,I2,e1,e2⟩=>?_
 subst e1 e2
 cases b with
 |true=>exact hb pins s2 σ H2 Q I2 q1
 |false=>exact⟨x,H2,I2,r1,q1⟩
theorem pe_orV(ha:PE X a ta)(hb:PE X (.BoolOp .Or (b::rest) pos) tb) :
 PE X (.BoolOp .Or (a::b::rest) pos) (λσ H Q=>ta σ H λx H1=>∃c,mM X.K x H1 c/\if c=true then Q x H1 else tb σ H1 Q):=by
 intro pins s σ H Q I h
 refine BoolOp_or (thn (ha pins s σ H _ I h) λv s1 ⟨x,H1,I1,r1,c,tc,q1⟩=>?_)
 refine thn (oX pins s1 σ H1 x v (λb H2=>b=c/\H2=H1) I1 r1 ⟨c,tc,rfl,rfl⟩) λb s2 ⟨H2,I2,e1,e2⟩=>?_
 subst e1 e2
 cases b with
 |false=>exact hb pins s2 σ H2 Q I2 q1
 |true=>exact⟨x,H2,I2,r1,q1⟩
theorem AY(ha:SE T cf X x p)(hb:SE T cf X y (.BoolOp .And (q::rest) pos)):SE T cf X (.and x y) (.BoolOp .And (p::q::rest) pos):=λH_h O0=>by
 refine PE.imp (λσ H Q hq=>?_) (Iq (ha H_h O0) (hb H_h O0))
 obtain⟨O,own,e,d,F,ev,k⟩:=hq
 rw[zA]at ev
 obtain⟨d1,e1,ev⟩:=Res.bind_ok ev
 obtain⟨c,e2,ev⟩:=Res.bind_ok ev
 refine⟨O,own,e,d1,F,e1,λv1 H1 s1 r1 _=>⟨c,pY r1.rr e2,?_⟩⟩
 cases c with
 |true=>
  rw[if_pos rfl]at ev⊢
  exact⟨O,own,e,d,F.grow s1,ev,λv H' s' r _=>k v H' (s1.trans s') r (λz=>by cases z)⟩
 |false=>
  rw[if_neg aJ]at ev⊢
  cases ev
  exact k v1 H1 s1 r1 (λz=>by cases z)
theorem AZ(ha:SE T cf X x p)(hb:SE T cf X y (.BoolOp .Or (q::rest) pos)):SE T cf X (.or x y) (.BoolOp .Or (p::q::rest) pos):=λH_h O0=>by
 refine PE.imp (λσ H Q hq=>?_) (pe_orV (ha H_h O0) (hb H_h O0))
 obtain⟨O,own,e,d,F,ev,k⟩:=hq
 rw[zB]at ev
 obtain⟨d1,e1,ev⟩:=Res.bind_ok ev
 obtain⟨c,e2,ev⟩:=Res.bind_ok ev
 refine⟨O,own,e,d1,F,e1,λv1 H1 s1 r1 _=>⟨c,pY r1.rr e2,?_⟩⟩
 cases c with
 |false=>
  rw[if_neg aJ]at ev⊢
  exact⟨O,own,e,d,F.grow s1,ev,λv H' s' r _=>k v H' (s1.trans s') r (λz=>by cases z)⟩
 |true=>
  rw[if_pos rfl]at ev⊢
  cases ev
  exact k v1 H1 s1 r1 (λz=>by cases z)
theorem A0{op:BoolOp}(h:SE T cf X x p):SE T cf X x (.BoolOp op [p] pos):=λH_h O0=>pe_one (h H_h O0)
theorem A1(ha:ST T cf X x p)(hv:SR T cf X x p):SE T cf X (.not x) (.UnaryOp .Not p pos):=λH_h O0=>by
 intro pins s σ H Q I ⟨O,own,e,d,F,ev,k⟩
 rw[zC]at ev
 obtain⟨d1,e1,ev⟩:=Res.bind_ok ev
 obtain⟨c,e2,ev⟩:=Res.bind_ok ev
 cases ev
 refine UnaryOp_ (thn (hv H_h O0 pins s σ H (λv1 H1=>Same H H1/\RR X.K H1 O d1 v1) I ⟨O,own,e,d1,F,e1,λv1 H1 s1 r1=>⟨s1,r1⟩⟩) λv s1 ⟨x1,H1,I1,r1,s1',rr⟩=>?_)
 refine not_of ?_
 exact thn (oX pins s1 σ H1 x1 v (λb H2=>b=c/\H2=H1) I1 r1 ⟨c,pY rr e2,rfl,rfl⟩) λb s2 ⟨H2,I2,e3,e4⟩=>by
  subst e3 e4
  exact⟨.bl (!b),H2,I2,rfl,k _ H2 s1' rfl (λz=>by cases z)⟩
theorem st_not(ha:ST T cf X x p):ST T cf X (.not x) (.UnaryOp .Not p pos):=λH_h O0=>by
 refine PT.imp (λσ H Q hq=>?_) (pt_not (ha H_h O0))
 obtain⟨O,own,e,d,k,F,ev,et,qk⟩:=hq
 rw[zC]at ev
 obtain⟨d1,e1,ev⟩:=Res.bind_ok ev
 obtain⟨c,e2,ev⟩:=Res.bind_ok ev
 cases ev
 cases et
 exact⟨O,own,e,d1,c,F,e1,e2,λH' s=>qk H' s⟩
noncomputable def SW(T:Tab)(cf:Nat->List D->Res D)(X:Cx)(x:E)(p:Expr):Prop:=∀H_h O0,PW X p (tT T cf X.K H_h O0 x)
theorem SW.st(h:SW T cf X x p):ST T cf X x p:=λH_h O0=>(h H_h O0).pt
theorem PW.imp{t t':TT}(h:∀σ H Q,t' σ H Q->t σ H Q)(hp:PW X p t):PW X p t':=λw pins s σ H Q I q=>hp w pins s σ H Q I (h σ H Q q)
theorem Ir(ha:ST T cf X x p):SW T cf X x (.BoolOp .And [p] pos):=λH_h O0=>Fe (ha H_h O0)
theorem sw_or1(ha:ST T cf X x p):SW T cf X x (.BoolOp .Or [p] pos):=λH_h O0=>pw_or1 (ha H_h O0)
theorem A2(ha:ST T cf X x p)(hb:SW T cf X y (.BoolOp .And (q::rest) pos)):SW T cf X (.and x y) (.BoolOp .And (p::q::rest) pos):=λH_h O0=>by
 refine PW.imp (λσ H Q hq=>?_) (pw_and (ha H_h O0) (hb H_h O0))
 obtain⟨O,own,e,d,k,F,ev,et,qk⟩:=hq
 rw[zA]at ev
 obtain⟨d1,e1,ev⟩:=Res.bind_ok ev
 obtain⟨c,e2,ev⟩:=Res.bind_ok ev
 refine⟨O,own,e,d1,c,F,e1,e2,λH1 s1=>?_⟩
 cases c with
 |true=>
  rw[if_pos rfl]at ev⊢
  exact⟨O,own,e,d,k,F.grow s1,ev,et,λH' s'=>qk H' (s1.trans s')⟩
 |false=>
  rw[if_neg aJ]at ev⊢
  cases ev
  rw[e2]at et;cases et
  exact qk H1 s1
theorem A3(ha:ST T cf X x p)(hb:SW T cf X y (.BoolOp .Or (q::rest) pos)):SW T cf X (.or x y) (.BoolOp .Or (p::q::rest) pos):=λH_h O0=>by
 refine PW.imp (λσ H Q hq=>?_) (pw_or (ha H_h O0) (hb H_h O0))
 obtain⟨O,own,e,d,k,F,ev,et,qk⟩:=hq
 rw[zB]at ev
 obtain⟨d1,e1,ev⟩:=Res.bind_ok ev
 obtain⟨c,e2,ev⟩:=Res.bind_ok ev
 refine⟨O,own,e,d1,c,F,e1,e2,λH1 s1=>?_⟩
 cases c with
 |false=>
  rw[if_neg aJ]at ev⊢
  exact⟨O,own,e,d,k,F.grow s1,ev,et,λH' s'=>qk H' (s1.trans s')⟩
 |true=>
  rw[if_pos rfl]at ev⊢
  cases ev
  rw[e2]at et;cases et
  exact qk H1 s1
theorem se_ife(hc:ST T cf X x p)(ha:SE T cf X y q)(hb:SE T cf X z r):SE T cf X (.ife x y z) (.IfExp p q r pos):=λH_h O0=>by
 refine PE.imp (λσ H Q hq=>?_) (Ff (hc H_h O0) (ha H_h O0) (hb H_h O0))
 obtain⟨O,own,e,d,F,ev,k⟩:=hq
 rw[zE]at ev
 obtain⟨d1,e1,ev⟩:=Res.bind_ok ev
 obtain⟨c,e2,ev⟩:=Res.bind_ok ev
 refine⟨O,own,e,d1,c,F,e1,e2,λH1 s1=>?_⟩
 cases c with
 |true=>
  rw[if_pos rfl]at ev⊢
  exact⟨O,own,e,d,F.grow s1,ev,λv H' s' r _=>k v H' (s1.trans s') r (λz=>by cases z)⟩
 |false=>
  rw[if_neg aJ]at ev⊢
  exact⟨O,own,e,d,F.grow s1,ev,λv H' s' r _=>k v H' (s1.trans s') r (λz=>by cases z)⟩
theorem Iu{c:Expr}{tA ta tb:TT}(hc:PT X c tA)(ha:PT X a ta)(hb:PT X b tb):PT X (.IfExp c a b pos) (λσ H Q=>tA σ H λk H1=>if k=true then ta σ H1 Q else tb σ H1 Q):=by
 intro pins s σ H Q I h
 show wpAny _ _ (isTrue c X.env (eval c X.env)>>=λk=>if k=true then isTrue a X.env (eval a X.env)else isTrue b X.env (eval b X.env)) _ _ s
 refine wpAny_bind (thn (hc pins s σ H _ I h) λk s1 ⟨H1,I1,q1⟩=>?_)
 cases k with
 |true=>exact ha pins s1 σ H1 Q I1 q1
 |false=>exact hb pins s1 σ H1 Q I1 q1
theorem st_ife(hc:ST T cf X x p)(ha:ST T cf X y q)(hb:ST T cf X z r):ST T cf X (.ife x y z) (.IfExp p q r pos):=λH_h O0=>by
 refine PT.imp (λσ H Q hq=>?_) (Iu (hc H_h O0) (ha H_h O0) (hb H_h O0))
 obtain⟨O,own,e,d,k,F,ev,et,qk⟩:=hq
 rw[zE]at ev
 obtain⟨d1,e1,ev⟩:=Res.bind_ok ev
 obtain⟨c,e2,ev⟩:=Res.bind_ok ev
 refine⟨O,own,e,d1,c,F,e1,e2,λH1 s1=>?_⟩
 cases c with
 |true=>
  rw[if_pos rfl]at ev⊢
  exact⟨O,own,e,d,k,F.grow s1,ev,et,λH' s'=>qk H' (s1.trans s')⟩
 |false=>
  rw[if_neg aJ]at ev⊢
  exact⟨O,own,e,d,k,F.grow s1,ev,et,λH' s'=>qk H' (s1.trans s')⟩
theorem A4{H_h:Hp}{O0:Addr->Prop}{σ:L2.St}{Q:VK}(h:tE T cf X.K H_h O0 (.chain o o' x y z) σ H Q) :
 rX (rD2 X.K (D.cmp o) false) (rD2 X.K (D.cmp o') false) (tR T cf X.K H_h O0 x) (tR T cf X.K H_h O0 y) (tR T cf X.K H_h O0 z) σ H Q:=by
 obtain⟨O,own,e,d,F,ev,k⟩:=h
 (first|rw[sP]at ev|rw[sQ]at ev)
 obtain⟨d1,e1,ev⟩:=Res.bind_ok ev
 obtain⟨d2,e2,ev⟩:=Res.bind_ok ev
 obtain⟨d3,e3,ev⟩:=Res.bind_ok ev
 obtain⟨c,rfl⟩:=tM e3
 refine⟨O,own,e,d1,F,e1,λv1 H1 s1 r1=>⟨O,own,e,d2,F.grow s1,e2,λv2 H2 s2 r2=>?_⟩⟩
 refine⟨O,d1,d2,_,r1.same s2,r2,e3,(F.grow (s1.trans s2)).trk,λv H3 s3 r3 _=>⟨c,r3,?_⟩⟩
 have s123:=(s1.trans s2).trans s3
 cases c with
 |true=>
  rw[if_pos rfl]
  obtain⟨d4,e4,ev⟩:=Res.bind_ok ev
  refine⟨O,own,e,d4,F.grow s123,e4,λv4 H4 s4 r4=>?_⟩
  exact⟨O,d2,d4,d,(r2.same s3).same s4,r4,ev,(F.grow (s123.trans s4)).trk,λv H' s5 r5 n5=>k v H' ((s123.trans s4).trans s5) r5 λz=>by cases z⟩
 |false=>
  rw[if_neg aJ]
  cases ev
  exact k _ H3 s123 rfl λz=>by cases z
theorem Iv(hR:fP X)(hm:aX r=true)(ha:SR T cf X x p)(hb:SR T cf X y q)(hc:SR T cf X z r):SE T cf X (.chain o o' x y z) (.Compare p [o,o'] [q,r] pos):=λH_h O0=>
 PE.imp (λσ H Q h=>A4 h) (GI (lF o hR) (lF o' hR) (ha H_h O0) (hb H_h O0) (hc H_h O0) (pX hm))
theorem Iw(hR:fP X)(hm:aX r=true)(ha:SR T cf X x p)(hb:SR T cf X y q)(hc:SR T cf X z r):ST T cf X (.chain o o' x y z) (.Compare p [o,o'] [q,r] pos):=λH_h O0=>by
 refine PT.imp (λσ H Q hq=>?_) (GJ (lF o hR) (lF o' hR) (ha H_h O0) (hb H_h O0) (hc H_h O0) (pX hm))
 obtain⟨O,own,e,d,k,F,ev,et,qk⟩:=hq
 have bl:∃b,d=.bl b:=by
  rw[sQ]at ev
  obtain⟨d1,e1,ev⟩:=Res.bind_ok ev
  obtain⟨d2,e2,ev⟩:=Res.bind_ok ev
  obtain⟨d3,e3,ev⟩:=Res.bind_ok ev
  split at ev
  ·obtain⟨d4,e4,ev⟩:=Res.bind_ok ev
   exact tM ev
  ·cases ev;exact⟨_,rfl⟩
  ·cases ev
 obtain⟨b,rfl⟩:=bl
 cases et
 exact A4 ⟨O,own,e,_,F,ev,λv H' s' r' _=>⟨k,r',qk H' s'⟩⟩
theorem se_neg(ha:SR T cf X x p):SE T cf X (.neg x) (.UnaryOp .USub p pos):=λH_h O0=>by
 refine PE.imp (λσ H Q hq=>?_) (pe_un un_neg (ha H_h O0))
 obtain⟨O,own,e,d,F,ev,k⟩:=hq
 (first|rw[yZ]at ev|rw[zD]at ev)
 obtain⟨d1,e1,ev⟩:=Res.bind_ok ev
 split at ev
 ·cases ev
  refine⟨O,own,e,_,F,e1,λv1 H1 s1 r1=>⟨_,r1.rd rfl,k _ H1 s1 rfl λz=>by cases z⟩⟩
 ·cases ev
end
end Tr
namespace Tr
open PySem PySem.Spec PyProof.Rows L2
variable{O O0:Addr->Prop}{b:Bt}{d:D}{H H_h:Hp}{σ:L2.St}{ds:List D}{vs:List V}{f:Nat}{pm pn:Pos}{K:PySem.W.Frag}{n:Str}{Q:VK}
section
variable{T:Tab}{cf:Nat->List D->Res D}{X:Cx}{x y z:E}{p q r:Expr}{pos pos':Pos}{es:List Expr}
noncomputable def A5(d:D)(od:Option Addr)(H:Hp):Prop:=match d with
 |.int v=>∃dx,od=some dx/\H dx=some (.xd [("at", .int v)])
 |_=>od=none
noncomputable def spD(K:PySem.W.Frag)(F:List D->Res D)(fr:Bool):Sp:=λvs H Q E=>∃O ds,Trk K H O/\RDs K H O ds vs /\
 ((∃d,F ds=.ok d/\∀v H',Same H H'->RD K H' O d v->(fr=true->NewR K H H' O d v)->Q v H')\/∃c d,F ds=.err c d/\∀od H',Same H H'->A5 d od H'->E (cvK K c) od H')
noncomputable def nP(T:Tab)(cf:Nat->List D->Res D)(X:Cx)(f:Nat)(n:Str):Prop:=
 ∃k a fd ps,FnOk X.prog X.w X.K X.mg X.base (CXE X.prog X.w) k a fd ps (spD X.K (cf f) (T.fresh f))/\Room k X.A/\X.mg n=some (.ref a)/\PySem.W.keepIn X.K (.ref a)=true/\Binds X.K fd ps []
theorem Iy(h:tE T cf X.K H_h O0 (.call f x) σ H Q):sC (spD X.K (cf f) (T.fresh f)) [] E0 (tAv T cf X.K H_h O0 x) σ H Q:=by
 obtain⟨O,own,e,d,F,ev,k⟩:=h
 rw[zF]at ev
 obtain⟨ds,e1,ev⟩:=Res.bind_ok ev
 refine⟨O,own,e,ds,F,e1,λvs H1 s1 r1 _=>?_⟩
 dsimp only
 rw[gN]
 refine⟨O,ds,⟨(F.grow s1).trk,(F.grow s1).tab⟩,r1,.inl ⟨d,ev,λv H' s2 r2 n2=>k v H' (s1.trans s2) r2 λfr=>(n2 fr).1.back s1⟩⟩
theorem Iz (hd:nP T cf X f n) (hg:Gl X n) (hdb:(n==("__debug__" : Str))=false) (hp:(p::es).all aX=true) (ha:SAv T cf X x (p::es)):SE T cf X (.call f x) (.Call (.Name n pn) (p::es) [] pos):=λH_h O0=>by
 obtain⟨k,a,fd,ps,Fk,hr,hm,hk,hb⟩:=hd
 rw[gP,aD]at hp
 exact PE.imp (λσ H Q h=>Iy h) (GY Fk hr hg hm hk hb .nil pF (ha H_h O0) hdb (aU hp.1) (gA hp.2))
theorem JA (hd:nP T cf X f n) (hg:Gl X n) (hdb:(n==("__debug__" : Str))=false):SE T cf X (.call f .anil) (.Call (.Name n pn) [] [] pos):=λH_h O0=>by
 obtain⟨k,a,fd,ps,Fk,hr,hm,hk,hb⟩:=hd
 refine PE.imp (λσ H Q h=>?_) (GZ Fk hr hg hm hk hb .nil pF hdb)
 obtain⟨O,own,e,d,F,ev,k⟩:=h
 rw[zF]at ev
 obtain⟨ds,e1,ev⟩:=Res.bind_ok ev
 rw[jZ]at e1;cases e1
 exact⟨O,[],⟨F.trk,F.tab⟩,rfl,.inl ⟨d,ev,λv H' s2 r2 n2=>k v H' s2 r2 λfr=>(n2 fr).1⟩⟩
noncomputable def TabF(T:Tab)(cf:Nat->List D->Res D)(X:Cx)(n:Str)(fs:List Nat):Prop:=
 ∃(a:Addr)(xs:List V),X.mg n=some (.ref a)/\(∀H,SqT X.K H a xs)/\xs.length=fs.length/\∀(j f:Nat),fs[j]?=some f->∃(ad:Addr)(m:Str),xs[j]?=some (V.ref ad)/\X.mg m=some (.ref ad)/\nP T cf X f m
noncomputable def TabS(X:Cx)(n:Str)(ss:List Str):Prop:=∃a,X.mg n=some (.ref a)/\ModS X.K a ss
theorem tO:∀(lo:Int)(n:Nat),RDs K H O (bQ lo n) ((aC n).map λi:Nat=>V.int (lo+(i:Nat)))
 |lo,0=>rfl
 |lo,n+1=>by
  rw[bQ,lY,aL,dQ]
  refine⟨_,_,rfl,by show V.int _=V.int _;simp,?_⟩
  have e:(aC n).map ((λi:Nat=>V.int (lo+(i:Nat)))∘FK)=(aC n).map λi:Nat=>V.int (lo+1+(i:Nat)):=by
   apply iU
   intro i _
   simp only[Function.comp]
   congr 1
   push_cast
   lia
  rw[e]
  exact tO (lo+1) n
theorem JB {pos2:Pos} (hh:X.calm=true) (hm1:X.mg "list" = none) (hm2:X.mg "range" = none) (hg1:Gl X "list") (hg2:Gl X "range") (hp:aX p=true) (ha:SE T cf X x p) :
 SE T cf X (.lrng x) (.Call (.Name "list" pn) [.Call (.Name "range" pm) [p] [] pos2] [] pos):=λH_h O0=>by
 refine PE.imp (λσ H Q hq=>?_) (jV (Hg hh) hg1 hm1 (by decide +kernel) (dU (jV zR hg2 hm2 (by decide +kernel) (dU (ha H_h O0) eZ (aU hp)) (by decide) (by decide) (aU hp) rfl) eZ rfl) (by decide) (by decide) rfl rfl)
 obtain⟨O,own,e,d,F,ev,k⟩:=hq
 (first|rw[nA]at ev|rw[nB]at ev|rw[HL]at ev|rw[nC]at ev)
 obtain⟨d1,e1,ev1⟩:=Res.bind_ok ev
 refine⟨O,own,e,d1,F,e1,λv1 H1 s1 r1 _=>?_⟩
 cases d1 with
 |int n=>
  have ev1:aE (bN n&&decide (n<=(big:Nat))) (.ok (D.lst (bQ 0 n.toNat)))=.ok d:=ev1
  obtain⟨c,ev2⟩:=aS ev1
  cases ev2
  rw[aD,decide_eq_true_eq]at c
  have c1:=c.1
  simp only[bN,aD,decide_eq_true_eq]at c1
  cases (show v1=.int n from r1)
  refine⟨n,rfl,λp hpn=>⟨p,n,rfl,bA,c1.1,c1.2,by rw[<-fO];exact c.2,λl hl=>?_⟩⟩
  have F1:=(F.grow s1).grow (bK hpn (.rng 0 n))
  have z:=kA (K:=X.K) (O:=O) (ds:=bQ 0 n.toNat) (tO 0 n.toNat) hl F1.trk
  exact k _ _ ((s1.trans (bK hpn _)).trans (bK hl _)) z.1 λ_=>z.2.back (s1.trans (bK hpn _))
 |non=>cases ev1
 |bl _=>cases ev1
 |str _=>cases ev1
 |tup _=>cases ev1
 |lst _=>cases ev1
 |dct _=>cases ev1
 |tdc _=>cases ev1
 |cnt _ _=>cases ev1
noncomputable def rB(K:PySem.W.Frag)(f:List D->Res D)(fr:Bool):List V->Hp->VK->Prop:=λvs H Q=>∃O ds d,RRs K H O ds vs/\f ds=.ok d/\(∀a,O a->∃o,H a=some o)/\∀v H',Same H H'->RD K H' O d v->(fr=true->NewL K H H' O d v)->Q v H'
theorem rr1(h:RRs K H O [d] vs):∃v,vs=[v]/\RR K H O d v:=by
 obtain⟨v,r,rfl,h1,h2⟩:=h
 rw[RRs]at h2;subst h2
 exact⟨v,rfl,h1⟩
theorem JC (hh:X.calm=true):cM X (.builtin "sum") (λxs H Q=>∃(a:Addr) (ns:List Int),xs=[.ref a]/\SqL X.K H a (ns.map V.int)/\Q (.int ns.sum) H):=by
 intro pins s σ H xs us Q I r h
 obtain⟨a,ns,rfl,hq,q⟩:=h
 obtain⟨u,rfl,rx⟩:=fL r
 cases rx
 obtain⟨its,r',pl,hz⟩:=I.list hq
 have hi:IntsAre its ns:=G7 r'
 have hall:=hi.allInts
 obtain⟨ys,hys⟩:=hall.items
 have hn:(numsOf its.toArray.toList)=ns:=by rw[show its.toArray.toList=its by simp];exact hi.numsOf
 refine sum_intListG (xs:=ys) (I.ok.hd hh) (by rw[<-hys];exact pl.isList) λh' tk t' hk=>?_
 refine⟨.int ns.sum,H,I.kept (t':=tk) hk,⟨t',?_⟩,q⟩
 rw[hys,nums_intItems]at hn
 rw[preSum_eq,lZ (by simp),<-hn]
noncomputable def Bt.val:Bt->Value
 |.len=>.builtin "len"
 |.sum=>.builtin "sum"
 |.tuple=>.type "tuple"
 |.list=>.type "list"
 |.int=>.type "int"
 |.max=>.builtin "max"
 |.all=>.builtin "all"
noncomputable def Bt.nm:Bt->Str
 |.len => "len"
 |.sum => "sum"
 |.tuple => "tuple"
 |.list => "list"
 |.int => "int"
 |.max => "max"
 |.all => "all"
theorem lG(h:b.run ds=.ok d)(hb:∀d1 d2,b.two d1 d2=.no):∃d0,ds=[d0]/\b.one d0=.ok d:=by
 unfold Bt.run at h
 split at h
 ·exact⟨_,rfl,h⟩
 ·rw[hb]at h;cases h
 ·cases h
theorem JD(h:b.run ds=.ok d):(∃d0,ds=[d0]/\b.one d0=.ok d)\/∃d1 d2,ds=[d1,d2]/\b.two d1 d2=.ok d:=by
 unfold Bt.run at h
 split at h
 ·exact .inl ⟨_,rfl,h⟩
 ·exact .inr ⟨_,_,rfl,h⟩
 ·cases h
theorem rr2{d':D}(h:RRs K H O [d,d'] vs):∃v v',vs=[v,v']/\RR K H O d v/\RR K H O d' v':=by
 obtain⟨v,r,rfl,h1,h2⟩:=h
 obtain⟨v',rfl,h3⟩:=rr1 h2
 exact⟨v,v',rfl,h1,h3⟩
theorem bt_len:cM X (.builtin "len") (rB X.K (Bt.run .len) false):=by
 intro pins s σ H xs us Q I rv h
 obtain⟨O,ds,d,rr,ev,tr,k⟩:=h
 obtain⟨d0,rfl,ev⟩:=lG ev (λ_ _=>rfl)
 obtain⟨v,rfl,r1⟩:=rr1 rr
 have ev:D.len d0=.ok d:=ev
 unfold D.len at ev
 split at ev
 ·cases ev
  obtain⟨a,ys,rfl,q1,w1⟩:=r1.lst
  exact yH pins s σ H _ us Q I rv ⟨a,ys,rfl,.inl q1,k _ H (Same.refl H) (by rw[w1.length];exact rfl) (λz=>by cases z)⟩
 ·cases ev
  obtain⟨a,ys,rfl,q1,w1⟩:=r1.tup
  exact yH pins s σ H _ us Q I rv ⟨a,ys,rfl,.inr q1,k _ H (Same.refl H) (by rw[w1.length];exact rfl) (λz=>by cases z)⟩
 ·obtain⟨c,ev⟩:=aS ev
  cases ev
  cases (show v=_ from r1.rd rfl)
  exact Gf pins s σ H _ us Q I rv ⟨_,rfl,by rw[<-fO];exact of_decide_eq_true c,k _ H (Same.refl H) rfl (λz=>by cases z)⟩
 ·cases ev
  obtain⟨a,ps,rfl,q1,w1⟩:=r1.dct
  obtain⟨u,rfl,ru⟩:=fL rv
  cases ru
  exact d_len I q1 λt s' I'=>⟨.int _,H,I',⟨t,rfl⟩,k _ H (Same.refl H) (by rw[w1.length];exact rfl) (λz=>by cases z)⟩
 ·cases ev
theorem bt_sum (hh:X.calm=true):cM X (.builtin "sum") (rB X.K (Bt.run .sum) false):=by
 intro pins s σ H xs us Q I rv h
 obtain⟨O,ds,d,rr,ev,tr,k⟩:=h
 obtain⟨d0,rfl,ev⟩:=lG ev (λ_ _=>rfl)
 obtain⟨v,rfl,r1⟩:=rr1 rr
 have ev:D.sum d0=.ok d:=ev
 unfold D.sum at ev
 split at ev
 ·obtain⟨ns,e1,ev⟩:=Res.bind_ok ev
  cases ev
  obtain⟨a,ys,rfl,q1,w1⟩:=r1.lst
  have e:=nK e1 w1
  subst e
  exact JC hh pins s σ H _ us Q I rv ⟨a,ns,rfl,q1,k _ H (Same.refl H) rfl (λz=>by cases z)⟩
 ·cases ev
theorem JE:cM X (.type "tuple") (rB X.K (Bt.run .tuple) false):=by
 intro pins s σ H xs us Q I rv h
 obtain⟨O,ds,d,rr,ev,tr,k⟩:=h
 obtain⟨d0,rfl,ev⟩:=lG ev (λ_ _=>rfl)
 obtain⟨v,rfl,r1⟩:=rr1 rr
 have ev:D.tuple d0=.ok d:=ev
 unfold D.tuple at ev
 split at ev
 ·cases ev
  obtain⟨a,ys,rfl,q1,w1⟩:=r1.lst
  exact yJ pins s σ H _ us Q I rv ⟨a,ys,rfl,.inl ⟨q1,λl hl=>k _ _ (bK hl _) (kB w1 hl) (λz=>by cases z)⟩⟩
 ·cases ev
  obtain⟨a,ys,rfl,q1,w1⟩:=r1.tupV
  exact yJ pins s σ H _ us Q I rv ⟨a,ys,rfl,.inr ⟨q1.sq,k _ H (Same.refl H) ⟨a,ys,rfl,q1,w1⟩ (λz=>by cases z)⟩⟩
 ·cases ev
theorem JF:cM X (.type "list") (rB X.K (Bt.run .list) true):=by
 intro pins s σ H xs us Q I rv h
 obtain⟨O,ds,d,rr,ev,tr,k⟩:=h
 obtain⟨d0,rfl,ev⟩:=lG ev (λ_ _=>rfl)
 obtain⟨v,rfl,r1⟩:=rr1 rr
 have ev:D.list d0=.ok d:=ev
 unfold D.list at ev
 split at ev
 ·cases ev
  obtain⟨a,ys,rfl,q1,w1⟩:=r1.lst
  refine yI pins s σ H _ us Q I rv ⟨a,ys,rfl,.inl q1,λl hl=>?_⟩
  have z:=kA w1 hl tr
  exact k _ _ (bK hl _) z.1 (λ_=>z.2)
 ·cases ev
  obtain⟨a,ys,rfl,q1,w1⟩:=r1.tup
  refine yI pins s σ H _ us Q I rv ⟨a,ys,rfl,.inr q1,λl hl=>?_⟩
  have z:=kA w1 hl tr
  exact k _ _ (bK hl _) z.1 (λ_=>z.2)
 ·cases ev
theorem bt_int:cM X (.type "int") (rB X.K (Bt.run .int) false):=by
 intro pins s σ H xs us Q I rv h
 obtain⟨O,ds,d,rr,ev,tr,k⟩:=h
 obtain⟨d0,rfl,ev⟩:=lG ev (λ_ _=>rfl)
 obtain⟨v,rfl,r1⟩:=rr1 rr
 have ev:D.toInt d0=.ok d:=ev
 unfold D.toInt at ev
 split at ev
 ·cases ev
  cases (show v=_ from r1.rd rfl)
  exact xW pins s σ H _ us Q I rv (.inl ⟨_,rfl,k _ H (Same.refl H) rfl (λz=>by cases z)⟩)
 ·cases ev
  cases (show v=_ from r1.rd rfl)
  exact xW pins s σ H _ us Q I rv (.inr ⟨_,rfl,k _ H (Same.refl H) rfl (λz=>by cases z)⟩)
 ·obtain⟨c,ev⟩:=aS ev
  cases ev
  rw[aD,decide_eq_true_eq]at c
  cases (show v=_ from r1.rd rfl)
  exact H_ pins s σ H _ us Q I rv ⟨_,rfl,c.1,c.2,k _ H (Same.refl H) rfl (λz=>by cases z)⟩
 ·cases ev
theorem bt_max (hc:X.calm=true):cM X (.builtin "max") (rB X.K (Bt.run .max) false):=by
 intro pins s σ H xs us Q I rv h
 obtain⟨O,ds,d,rr,ev,tr,k⟩:=h
 rcases JD ev with⟨d0,rfl,ev⟩|⟨d1,d2,rfl,ev⟩
 ·cases ev
 obtain⟨v,v',rfl,r1,r2⟩:=rr2 rr
 have ev:D.max2 d1 d2=.ok d:=ev
 unfold D.max2 at ev
 split at ev
 ·cases ev
  cases (show v=_ from r1.rd rfl)
  cases (show v'=_ from r2.rd rfl)
  exact GN hc pins s σ H _ us Q I rv ⟨_,_,rfl,k _ H (Same.refl H) rfl (λz=>by cases z)⟩
 ·cases ev
theorem A6:∀{ds:List D} {ns:List Bool} {xs:List V},gT ds=.ok ns->RDs K H O ds xs->xs=ns.map V.bl
 |[],ns,xs,h,w=>by
  rw[gT]at h;cases h
  rw[RDs]at w;subst w;rfl
 |.bl i::r,ns,xs,h,w=>by
  rw[gT]at h
  obtain⟨q,h1,h⟩:=Res.bind_ok h
  cases h
  obtain⟨v,ys,rfl,e1,e2⟩:=w
  cases (show v=_ from e1)
  rw[A6 h1 e2];rfl
 |.non::_,_,_,h,_ | .int _::_,_,_,h,_ | .str _::_,_,_,h,_ | .tup _::_,_,_,h,_ | .lst _::_,_,_,h,_ | .dct _::_,_,_,h,_ | .tdc _::_,_,_,h,_ | .cnt _ _::_,_,_,h,_=>by
  rw[gT]at h<;>first|cases h|(intros;rename_i z;cases z)
theorem bt_all (hc:X.calm=true):cM X (.builtin "all") (rB X.K (Bt.run .all) false):=by
 intro pins s σ H xs us Q I rv h
 obtain⟨O,ds,d,rr,ev,tr,k⟩:=h
 obtain⟨d0,rfl,ev⟩:=lG ev (λ_ _=>rfl)
 obtain⟨v,rfl,r1⟩:=rr1 rr
 have ev:D.all d0=.ok d:=ev
 unfold D.all at ev
 split at ev
 ·obtain⟨ns,e1,ev⟩:=Res.bind_ok ev
  cases ev
  obtain⟨a,ys,rfl,q1,w1⟩:=r1.lst
  have e:=A6 e1 w1
  subst e
  exact Tr.Hd pins s σ H _ us Q I rv ⟨a,ns,rfl,q1,hc,k _ H (Same.refl H) rfl (λz=>by cases z)⟩
 ·cases ev
theorem tcb_of(h:tE T cf X.K H_h O0 (.bt b x) σ H Q):tCB (rB X.K (Bt.run b) (cP T (.bt b x))) (tAr T cf X.K H_h O0 x) σ H Q:=by
 obtain⟨O,own,e,d,F,ev,k⟩:=h
 rw[xE_bt]at ev
 obtain⟨ds,e1,ev⟩:=Res.bind_ok ev
 refine⟨O,own,e,ds,F,e1,λvs H1 s1 r1=>?_⟩
 refine⟨O,ds,d,r1,ev,(F.grow s1).trk,λv H' s2 r2 n2=>k v H' (s1.trans s2) r2 λfr=>(n2 fr).back s1⟩
noncomputable def Bt.use:Bt->Bool
 |_=>true
theorem se_bt(hu:b.use=true)(hh:X.calm=true)(hn:n=b.nm)(hm:X.mg b.nm=none)(hg:Gl X n)(hp:(p::es).all aX=true)(ha:SAr T cf X x (p::es)):SE T cf X (.bt b x) (.Call (.Name n pn) (p::es) [] pos):=λH_h O0=>by
 subst hn
 rw[gP,aD]at hp
 refine PE.imp (λσ H Q h=>tcb_of h) ?_
 cases b with
 |len=>exact mO bt_len hg hm PySem.boot_len (ha H_h O0) (by decide) (by decide) (aU hp.1) (gA hp.2)
 |sum=>exact mO (bt_sum hh) hg hm PyProof.Rows.boot_sum (ha H_h O0) (by decide) (by decide) (aU hp.1) (gA hp.2)
 |tuple=>exact jV JE hg hm PyProof.Rows.boot_tuple (ha H_h O0) (by decide) (by decide) (aU hp.1) (gA hp.2)
 |list=>exact jV JF hg hm PyProof.Rows.boot_list (ha H_h O0) (by decide) (by decide) (aU hp.1) (gA hp.2)
 |int=>exact jV bt_int hg hm PyProof.Rows.boot_int (ha H_h O0) (by decide) (by decide) (aU hp.1) (gA hp.2)
 |max=>exact mO (bt_max hh) hg hm (by decide +kernel) (ha H_h O0) (by decide) (by decide) (aU hp.1) (gA hp.2)
 |all=>exact mO (bt_all hh) hg hm (by decide +kernel) (ha H_h O0) (by decide) (by decide) (aU hp.1) (gA hp.2)
noncomputable def Ty.nm:Ty->String
 |.int => "int"
 |.bool => "bool"
 |.str => "str"
 |.tuple => "tuple"
 |.list => "list"
theorem JG (K:PySem.W.Frag) (t:Ty):PySem.W.kitOne K (.type "NoneType") (.type t.nm)=some (D.isTy .non t):=by cases t<;>rfl
theorem kit_bl (K:PySem.W.Frag) (t:Ty) (b:Bool):PySem.W.kitOne K (.type "bool") (.type t.nm)=some (D.isTy (.bl b) t):=by cases t<;>rfl
theorem JH (K:PySem.W.Frag) (t:Ty) (i:Int):PySem.W.kitOne K (.type "int") (.type t.nm)=some (D.isTy (.int i) t):=by cases t<;>rfl
theorem JI (K:PySem.W.Frag) (t:Ty) (x:Str):PySem.W.kitOne K (.type "str") (.type t.nm)=some (D.isTy (.str x) t):=by cases t<;>rfl
theorem JJ (K:PySem.W.Frag) (t:Ty) (x:List D):PySem.W.kitOne K (.type "tuple") (.type t.nm)=some (D.isTy (.tup x) t):=by cases t<;>rfl
theorem JK (K:PySem.W.Frag) (t:Ty) (x:List D):PySem.W.kitOne K (.type "list") (.type t.nm)=some (D.isTy (.lst x) t):=by cases t<;>rfl
theorem isi_D (t:Ty):cM X (.builtin "isinstance") (λxs H Q=>∃O d v,xs=[v,.ty t.nm]/\RR X.K H O d v/\d.isDct=false/\Q (.bl (d.isTy t)) H):=by
 intro pins s σ H xs us Q I rv h
 obtain⟨O,d,v,rfl,r,nd,q⟩:=h
 obtain⟨u,w,rfl,r1,r2⟩:=xV rv
 cases (show w=_ from r2)
 have fin:∀tk,EP X pins σ Q (.bool (d.isTy t)) {s with toks:=tk}:=λtk=>⟨.bl (d.isTy t),H,I.tok tk,rfl,q⟩
 have sn:=tF I r r1
 cases sn with
 |dct ds a ps q w=>cases nd
 |tdc ds a ps q w=>cases nd
 |cnt n cl a b q=>cases nd
 |non=>exact PySem.W.kia_one PySem.W.kitx_none I.kIn True.intro (JG _ t) (λz=>nomatch z) fin
 |bl b=>exact PySem.W.kia_one PySem.W.kitx_bool I.kIn True.intro (kit_bl _ t b) (λz=>nomatch z) fin
 |int i tk=>exact PySem.W.kia_one PySem.W.kitx_int I.kIn True.intro (JH _ t i) (λz=>nomatch z) fin
 |str x tk=>exact PySem.W.kia_one PySem.W.kitx_str I.kIn True.intro (JI _ t x) (λz=>nomatch z) fin
 |tup ds a xs its q w r p=>
  obtain⟨o,h1,h2,_⟩:=p
  exact PySem.W.kia_one PySem.W.kitx_tuple I.kIn ⟨o,h1,h2⟩ (JJ _ t ds) (λz=>nomatch z) fin
 |lst ds a xs its q w r p=>
  obtain⟨o,h1,h2,_⟩:=p.isList
  exact PySem.W.kia_one PySem.W.kitx_list I.kIn ⟨o,h1,h2⟩ (JK _ t ds) (λz=>nomatch z) fin
theorem JL(t:Ty):bootBuiltins (Str.ofString t.nm)=some (.type t.nm):=by
 cases t
 ·exact PyProof.Rows.boot_int
 ·exact PyProof.Rows.boot_bool
 ·exact PyProof.Rows.boot_str
 ·exact PyProof.Rows.boot_tuple
 ·exact PyProof.Rows.boot_list
theorem se_isi {t:Ty} {m:Str} (hn:n = "isinstance") (hm':m=Str.ofString t.nm) (h0:X.mg "isinstance" = none) (h1:X.mg (Str.ofString t.nm)=none) (hg:Gl X n) (hg':Gl X m) (hp:aX p=true) (ha:SR T cf X x p) :
 SE T cf X (.isi x t) (.Call (.Name n pn) [p,.Name m pm] [] pos):=λH_h O0=>by
 subst hn hm'
 have ht:PE X (.Name (Str.ofString t.nm) pm) (tC (.ty t.nm)):=Fd hg' h1 (JL t) rfl (by cases t<;>decide) (by cases t<;>decide)
 refine PE.imp (λσ H Q hq=>?_) (mO (isi_D t) hg h0 PyProof.Rows.boot_isinstance (dU (ha H_h O0) (dU ht eZ (aU rfl)) (aU hp)) (by decide) (by decide) (aU hp) (gA rfl))
 obtain⟨O,own,e,d,F,ev,k⟩:=hq
 rw[xE_isi]at ev
 obtain⟨d1,e1,ev⟩:=Res.bind_ok ev
 obtain⟨c,ev⟩:=aS ev
 cases ev
 refine⟨O,own,e,d1,F,e1,λv1 H1 s1 r1=>?_⟩
 exact⟨O,d1,v1,rfl,r1,by simpa using c,k _ H1 s1 rfl (λz=>by cases z)⟩
noncomputable def pZ:Expr->Bool
 |.Name _ _=>true
 |.Constant _ _ _=>true
 |.Subscript _ _ _=>true
 |.BinOp _ _ _ _=>true
 |_=>false
theorem base_of {e:Expr} {nm:Str} {env:Env} (h:pZ e=true) (hn:(nm==("__class__" : Str))=false):attributeBase e nm env (eval e env)=eval e env:=by
 cases e<;>first|(cases h;done)|rfl
end
end Tr
namespace Tr
open PySem PySem.Spec PyProof.Rows L2
variable{a:Addr}{env:Env}{e:Expr}{g:G}{H:Hp}{ds:List D}{is:List Nat}{ps:List Stmt}{i:Nat}{apos cpos dpos pn px:Pos}{K:PySem.W.Frag}{n:Str}{t':TS}
inductive Pin where
 |dv (d:D) (v:V)|fr (a:Addr) (o:Obj) (u:HO)
noncomputable def PinOk(K:PySem.W.Frag)(H:Hp)(O:Addr->Prop):Pin->Prop
 |.dv d v=>RD K H O d v
 |.fr a o u=>H a=some (.frz o u)
noncomputable def lH(K:PySem.W.Frag)(H:Hp)(O:Addr->Prop):Pin->Prop
 |.dv d v=>RR K H O d v
 |.fr a o u=>H a=some (.frz o u)
section
variable{K:PySem.W.Frag}{H H':Hp}{O O':Addr->Prop}{p:Addr}{t:Pin}
theorem PinOk.rr(h:PinOk K H O t):lH K H O t:=by
 cases t with
 |dv d v=>exact RD.rr h
 |fr a o u=>exact h
theorem PinOk.same(h:PinOk K H O t)(s:Same H H'):PinOk K H' O t:=by
 cases t with
 |dv d v=>exact RD.same s h
 |fr a o u=>exact s _ _ h
theorem PinOk.new(h:PinOk K H O t)(hp:H p=none):PinOk K H (cW O p) t:=by
 cases t with
 |dv d v=>exact RD.new hp h
 |fr a o u=>exact h
theorem PinOk.weak(h:PinOk K H O t)(s:∀a,O' a->O a):PinOk K H O' t:=by
 cases t with
 |dv d v=>exact RD.weak s h
 |fr a o u=>exact h
theorem PinOk.updM{o o':HO}(h:PinOk K H O t)(hO:O p)(hp:H p=some o)(hm:gG o):PinOk K (L2.upd H p o') O t:=by
 cases t with
 |dv d v=>exact RD.updM hO hp hm h
 |fr a o1 u=>exact(eF (K:=K) hO hp hm).2.2 a o1 u h
theorem PinOk.upd{ys zs:List V}(h:PinOk K H O t)(hO:O p)(hp:H p=some (.lst ys)):PinOk K (L2.upd H p (.lst zs)) O t:=h.updM hO hp trivial
end
noncomputable def Wk1(K:PySem.W.Frag)(J:It)(d0:D)(v0:V)(ds:List D):Prop:=∀i H O,RR K H O d0 v0 ->
 (i<ds.length->J.go i H)/\(ds.length<=i->J.stop i H)/\∀x H' d,ds[i]?=some d->J.yld i H x H'->Same H H'/\RD K H' O d x
noncomputable def Wk(K:PySem.W.Frag)(J:It)(srs:List Pin)(ds:List D):Prop:=∀i H O,(∀t∈srs,lH K H O t) ->
 (i<ds.length->J.go i H)/\(ds.length<=i->J.stop i H)/\∀x H' d,ds[i]?=some d->J.yld i H x H'->Same H H'/\RD K H' O d x
theorem Wk1.wk{J:It}{d0:D}{v0:V}(h:Wk1 K J d0 v0 ds):Wk K J [.dv d0 v0] ds:=λi H O r=>h i H O (r (.dv d0 v0) (dE.mpr rfl))
theorem nQ{O:Addr->Prop}{rd:Bool}{R:It->Hp->Prop}(k:∀J H' srs,Same H H'->(∀t∈srs,lH K H' O t)->(rd=false->∀t∈srs,PinOk K H' O t)->Wk K J srs ds->R J H') :
 ∀J H' d0 v0,Same H H'->RR K H' O d0 v0->(rd=false->RD K H' O d0 v0)->Wk1 K J d0 v0 ds->R J H':=λJ H' d0 v0 s r rv w=>
 k J H' [.dv d0 v0] s (λt ht=>by rw[dE.mp ht];exact r) (λz t ht=>by rw[dE.mp ht];exact rv z) w.wk
noncomputable def tI(T:Tab)(cf:Nat->List D->Res D)(K:PySem.W.Frag)(H_h:Hp)(O0:Addr->Prop)(x:E)(rd:Bool):TI:=λσ H R=>∃O own e ds,Fm K H_h O0 H O own e σ/\evI T cf x e=.ok ds /\
 ∀J H' srs,Same H H'->(∀t∈srs,lH K H' O t)->(rd=false->∀t∈srs,PinOk K H' O t)->Wk K J srs ds->R J H'
noncomputable def SI(T:Tab)(cf:Nat->List D->Res D)(X:Cx)(tg:Expr)(x:E)(rd:Bool)(p:Expr):Prop:=∀H_h O0,PI X tg p (tI T cf X.K H_h O0 x rd)
section
variable{T:Tab}{cf:Nat->List D->Res D}{X:Cx}{x y z:E}{p q r tg:Expr}{pos pos':Pos}{es:List Expr}
theorem JM:Wk1 K (Itl K a) (.lst ds) (.ref a) ds:=by
 intro i H O r
 obtain⟨a',xs,e,q,w⟩:=r.lst
 cases e
 have hl:=w.length
 refine⟨λh=>?_,λh=>⟨xs,q,by lia⟩,λx H' d hd y=>?_⟩
 ·obtain⟨v,h1,h2⟩:=w.get (aP h)
  exact⟨xs,v,q,h1⟩
 ·obtain⟨rfl,y⟩:=y
  refine⟨Same.refl _,?_⟩
  obtain⟨v,h1,h2⟩:=w.get hd
  have:=(y xs q).symm.trans h1
  cases this
  exact h2
theorem wk_tup:Wk1 K (Itt K a) (.tup ds) (.ref a) ds:=by
 intro i H O r
 obtain⟨a',xs,e,q,w⟩:=r.tup
 cases e
 have hl:=w.length
 refine⟨λh=>?_,λh=>⟨xs,q,by lia⟩,λx H' d hd y=>?_⟩
 ·obtain⟨v,h1,h2⟩:=w.get (aP h)
  exact⟨xs,v,q,h1⟩
 ·obtain⟨rfl,y⟩:=y
  refine⟨Same.refl _,?_⟩
  obtain⟨v,h1,h2⟩:=w.get hd
  have:=(y xs q).symm.trans h1
  cases this
  exact h2
theorem tP(lo:Int):∀n,(bQ lo n).length=n
 |0=>rfl
 |n+1=>by rw[bQ,aN,tP (lo+1) n]
theorem A7:∀(lo:Int)(n i:Nat),i<n->(bQ lo n)[i]?=some (.int (lo+i))
 |lo,0,i,h=>absurd h (jS _)
 |lo,n+1,0,_=>by rw[bQ];simp
 |lo,n+1,i+1,h=>by
  rw[bQ,FN,A7 (lo+1) n i (by lia)]
  congr 2
  push_cast
  lia
theorem A8{lo:Int}{n:Nat}:Wk1 K (Itr lo n) .non .non (bQ lo n):=by
 intro i H O r
 rw[tP]
 refine⟨λh=>h,λh=>h,λx H' d hd y=>?_⟩
 obtain⟨rfl,rfl⟩:=y
 refine⟨Same.refl _,?_⟩
 by_cases hi:i<n
 ·rw[A7 lo n i hi]at hd
  cases hd
  exact rfl
 ·rw[jR (by rw[tP];lia)]at hd
  cases hd
theorem si_seq{rd:Bool}(ha:SR T cf X x p)(hv:rd=false->SE T cf X x p):SI T cf X tg (.seq x) rd p:=by
 intro H_h O0 pins s σ H R I h
 obtain⟨O,own,e,ds,F,ev,k⟩:=h
 replace k:=nQ k
 rw[xI_seq]at ev
 obtain⟨d1,e1,ev⟩:=Res.bind_ok ev
 have main:∀{u:Value} {s1:Shared} {v:V} {H1:Hp},Inv X pins σ H1 s1->RelV v u->Same H H1->RR X.K H1 O d1 v->(rd=false->RD X.K H1 O d1 v)->wpAny (model X.prog X.w) X.A (pyIter u) (PIE X pins σ tg R) X.xe s1:=by
  intro u s1 v H1 I1 r1 s1' rr rv
  unfold D.items at ev
  split at ev
  ·cases ev
   obtain⟨a,xs,e,q1,w1⟩:=rr.lst
   subst e
   cases r1
   obtain⟨its,r',pl,hz⟩:=I1.list q1
   refine wpAny_pyIter_list pl.isList ?_
   refine⟨s1.heap.objs.size,[s1.heap.objs.size],_,Itl X.K a,H1,rfl,I1.kept (t':=s1.toks) λb u e=>Heap.get?_push_of_some _ e,Fu a _,⟨_,Heap.get?_push_size _ rfl,rfl,rfl⟩,λb hb=>?_,k _ H1 _ _ s1' rr rv JM⟩
   rcases bU.mp hb with rfl|hb
   ·exact I1.fpOk (aK _) (I1.hok.fresh (aK _))
   ·cases hb
  ·cases ev
   obtain⟨a,xs,e,q1,w1⟩:=rr.tup
   subst e
   cases r1
   obtain⟨its,r',pl,hz⟩:=I1.tuple q1
   refine wpAny_pyIter_tuple pl ?_
   refine⟨s1.heap.objs.size,[s1.heap.objs.size],_,Itt X.K a,H1,rfl,I1.kept (t':=s1.toks) λb u e=>Heap.get?_push_of_some _ e,Fv a _,⟨_,Heap.get?_push_size _ rfl,rfl,rfl⟩,λb hb=>?_,k _ H1 _ _ s1' rr rv wk_tup⟩
   rcases bU.mp hb with rfl|hb
   ·exact I1.fpOk (aK _) (I1.hok.fresh (aK _))
   ·cases hb
  ·cases ev
 cases rd with
 |true=>exact thn (ha H_h O0 pins s σ H (λv H1=>Same H H1/\RR X.K H1 O d1 v) I ⟨O,own,e,d1,F,e1,λv H' s' r=>⟨s',r⟩⟩) λu s1 ⟨v,H1,I1,r1,s1',rr⟩=>main I1 r1 s1' rr (λz=>by cases z)
 |false=>exact thn (hv rfl H_h O0 pins s σ H (λv H1=>Same H H1/\RD X.K H1 O d1 v) I ⟨O,own,e,d1,F,e1,λv H' s' r _=>⟨s',r⟩⟩) λu s1 ⟨v,H1,I1,r1,s1',rr⟩=>main I1 r1 s1' rr.rr (λ_=>rr)
theorem si_rng {rd:Bool} (hn:n = "range") (hg:Gl X n) (hm:X.mg "range" = none) (hp:aX p=true) (ha:SE T cf X x p):SI T cf X tg (.rng x) rd (.Call (.Name n pn) [p] [] pos):=by
 intro H_h O0 pins s σ H R I h
 subst hn
 obtain⟨O,own,e,ds,F,ev,k⟩:=h
 replace k:=nQ k
 rw[zH]at ev
 obtain⟨d1,e1,ev⟩:=Res.bind_ok ev
 refine Fx hg hm (dU (ha H_h O0) eZ (aU hp)) (aU hp) pins s σ H R I ⟨O,own,e,d1,F,e1,λv H' s' r _=>?_⟩
 split at ev
 ·obtain⟨c,ev⟩:=aS ev
  cases ev
  cases (show v=_ from r)
  simp only[bN,aD,decide_eq_true_eq]at c
  exact⟨_,rfl,c.1,c.2,k _ H' .non .non s' (.inl rfl) (λ_=>rfl) A8⟩
 ·cases ev
theorem JN {rd:Bool} (hn:n = "range") (hg:Gl X n) (hm:X.mg "range" = none) (hp:aX p=true) (hq:aX q=true) (ha:SE T cf X x p) (hb:SE T cf X y q):SI T cf X tg (.rng2 x y) rd (.Call (.Name n pn) [p,q] [] pos):=by
 intro H_h O0 pins s σ H R I h
 subst hn
 obtain⟨O,own,e,ds,F,ev,k⟩:=h
 replace k:=nQ k
 rw[zI]at ev
 obtain⟨d1,e1,ev⟩:=Res.bind_ok ev
 split at ev
 ·obtain⟨d2,e2,ev⟩:=Res.bind_ok ev
  split at ev
  ·obtain⟨c,ev⟩:=aS ev
   cases ev
   simp only[bN,aD,decide_eq_true_eq]at c
   refine Fy hg hm (dU (ha H_h O0) (dU (hb H_h O0) eZ (aU hq)) (aU hp)) (by rw[aU hp,aU hq];rfl) (aU hq) pins s σ H R I ⟨O,own,e,_,F,e1,λv H1 s1 r1 _=>⟨O,own,e,_,F.grow s1,e2,λv2 H2 s2 r2 _=>?_⟩⟩
   cases (show v=_ from r1)
   cases (show v2=_ from r2)
   exact⟨_,_,rfl,⟨c.1.1,c.1.2,c.2.1,c.2.2⟩,k _ H2 .non .non (s1.trans s2) (.inl rfl) (λ_=>rfl) A8⟩
  ·cases ev
 ·cases ev
noncomputable def Ft(K:PySem.W.Frag)(H_h:Hp)(O0:Addr->Prop)(ts:List Pin)(e:Nv)(σ:L2.St)(H:Hp):Prop:=∃O own,Fm K H_h O0 H O own e σ/\∀t∈ts,PinOk K H O t
noncomputable def tG(K:PySem.W.Frag)(H_h:Hp)(O0:Addr->Prop)(g:G):TG:=λv σ H Q=>∃O own e d e',Fm K H_h O0 H O own e σ/\RD K H O d v/\g.put d e=.ok e'/\∀σ' own',(∀j a,own' j=some a->own j=some a)->Fm K H_h O0 H O own' e' σ'->Q σ' H
noncomputable def SG(X:Cx)(g:G)(tg:Expr):Prop:=∀H_h O0,PG X tg (tG X.K H_h O0 g)
theorem PG.imp{t t':TG}(h:∀v σ H Q,t' v σ H Q->t v σ H Q)(hp:PG X tg t):PG X tg t':=λpins s σ H v u Q I r q=>hp pins s σ H v u Q I r (h v σ H Q q)
theorem A9{own:Nat->Option Addr}:∀j a,(λj=>if j=i then none else own j) j=some a->own j=some a:=λj a h=>by
 dsimp only at h
 by_cases hj:j=i
 ·rw[if_pos hj]at h;cases h
 ·rw[if_neg hj]at h;exact h
theorem sg_one(hN:X.N.Nodup)(hi:X.N[i]?=some n)(hx:Loc X.env.scope n)(hf:X.fn n=true\/X.env.scope.names.lookup n=some .local):SG X (.one i) (.Name n pos):=λH_h O0=>
 PG.imp (λv σ H Q ⟨O,own,e,d,e',F,r,ev,k⟩=>by
  cases ev
  exact k _ _ A9 (F.setV i r)) (xR hN hi hx hf)
noncomputable def tGs(K:PySem.W.Frag)(H_h:Hp)(O0:Addr->Prop)(is:List Nat):TGs:=λvs σ H Q=>∃O own e ds e',Fm K H_h O0 H O own e σ/\RDs K H O ds vs/\dY is ds e=.ok e'/\∀σ' own',(∀j a,own' j=some a->own j=some a)->Fm K H_h O0 H O own' e' σ'->Q σ' H
noncomputable def SGs(X:Cx)(is:List Nat)(tgs:List Expr):Prop:=∀H_h O0,PGs X tgs (tGs X.K H_h O0 is)
theorem PGs.imp{tgs:List Expr}{t t':TGs}(h:∀v σ H Q,t' v σ H Q->t v σ H Q)(hp:PGs X tgs t):PGs X tgs t':=λpins s σ H v u Q I r q=>hp pins s σ H v u Q I r (h v σ H Q q)
theorem JO:SGs X [] []:=λH_h O0=>PGs.imp (λvs σ H Q ⟨O,own,e,ds,e',F,r,ev,k⟩=>by
 cases ds with
 |nil=>
  simp only[dY]at ev
  cases ev
  rw[RDs]at r
  exact⟨r,k _ _ (λ_ _ h=>h) F⟩
 |cons d ds=>simp only[dY]at ev;cases ev) Fo
theorem JP{pos:Pos}{es:List Expr}:(assignEach (.Name n pos::es) env).map (·.2)=assign (.Name n pos) env::(assignEach es env).map (·.2):=rfl
theorem JQ(hN:X.N.Nodup)(hi:X.N[i]?=some n)(hx:Loc X.env.scope n)(hf:X.fn n=true\/X.env.scope.names.lookup n=some .local)(h:SGs X is es):SGs X (i::is) (.Name n pos::es):=λH_h O0=>
 PGs.imp (λvs σ H Q ⟨O,own,e,ds,e',F,r,ev,k⟩=>by
  cases ds with
  |nil=>simp only[dY]at ev;cases ev
  |cons d ds=>
   rw[dY]at ev
   obtain⟨v,vr,rfl,r1,r2⟩:=r
   exact⟨v,vr,rfl,O,_,_,ds,e',F.setV i r1,r2,ev,λσ' own' h=>k σ' own' λj a q=>A9 j a (h j a q)⟩) (Fp (xR hN hi hx hf) (h H_h O0) JP)
noncomputable def nR:List Expr->Bool
 |[]=>true
 |.Name _ _::r=>nR r
 |_=>false
theorem JR:∀{es:List Expr},nR es=true->(assignEach es env).length=es.length:=by
 intro es
 induction es with
 |nil=>intro _;rfl
 |cons e es ih=>
  intro h
  cases e with
  |Name n pos=>
   show((false,assign (.Name n pos) env)::assignEach es env).length=_
   rw[aN,ih h,aN]
  |_=>exact absurd h aJ
theorem JS:∀{es:List Expr},nR es=true->(assignEach es env).findIdx? (·.1)=none:=by
 intro es
 induction es with
 |nil=>intro _;rfl
 |cons e es ih=>
  intro h
  cases e with
  |Name n pos=>
   show((false,assign (.Name n pos) env)::assignEach es env).findIdx? (·.1)=none
   rw[List.findIdx?_cons,ih h];rfl
  |_=>exact absurd h aJ
theorem A_:∀{is:List Nat} {ds:List D} {e e':Nv},dY is ds e=.ok e'->ds.length=is.length
 |[],[],_,_,_=>rfl
 |[],_::_,_,_,h=>by simp only[dY]at h;cases h
 |_::_,[],_,_,h=>by simp only[dY]at h;cases h
 |i::is,d::ds,e,e',h=>by
  rw[dY]at h
  rw[aN,aN,A_ h]
theorem JT{k:Nat}(hc:X.calm=true)(hn:nR es=true)(hl:es.length=is.length)(h:SGs X is es):SG X (.many is) (.Tuple es k pos):=λH_h O0=>
 PG.imp (λv σ H Q ⟨O,own,e,d,e',F,r,ev,k⟩=>by
  cases d with
  |tup ds=>
   have ev:dY is ds e=.ok e':=ev
   obtain⟨a,xs,rfl,q,w⟩:=r
   exact⟨a,xs,rfl,q.sq,by rw[w.length,A_ ev,<-hl],O,own,e,ds,e',F,w,ev,k⟩
  |non=>cases ev
  |bl _=>cases ev
  |int _=>cases ev
  |str _=>cases ev
  |lst _=>cases ev
  |dct _=>cases ev
  |tdc _=>cases ev
  |cnt _ _=>cases ev) (pg_tup (n:=es.length) hc (h H_h O0) (JR hn) (JS hn))
noncomputable def Ends.to(K:PySem.W.Frag)(H_h:Hp)(O0:Addr->Prop)(ts:List Pin)(D':Ends):Out->Prop
 |.nx e'=>∀σ' H',Ft K H_h O0 ts e' σ' H'->D'.nx σ' H'
 |.bk e'=>∀σ' H',Ft K H_h O0 ts e' σ' H'->D'.bk σ' H'
 |.ct e'=>∀σ' H',Ft K H_h O0 ts e' σ' H'->D'.ct σ' H'
 |.rt d fr=>∀v H',Same H_h H'->RD K H' O0 d v->(fr=true->NewR K H_h H' O0 d v)->D'.rt v H'
 |.rr d a j b k=>∀v H',Same H_h H'->RD K H' (λc=>O0 c\/c=a\/c=b) d v->OwnAt K H' (λc=>O0 c\/c=a\/c=b) a (.dct j)->OwnAt K H' (λc=>O0 c\/c=a\/c=b) b (.dct k)->D'.rt v H'
noncomputable def tS(T:Tab)(cf:Nat->List D->Res D)(K:PySem.W.Frag)(H_h:Hp)(O0:Addr->Prop)(x:S):TS:=λD' σ H=>∃ts e out,Ft K H_h O0 ts e σ H/\exS T cf x e=.ok out/\Ends.to K H_h O0 ts D' out
noncomputable def SS(T:Tab)(cf:Nat->List D->Res D)(X:Cx)(x:S)(p:Stmt):Prop:=∀H_h O0,PS X p (tS T cf X.K H_h O0 x)
noncomputable def SB(T:Tab)(cf:Nat->List D->Res D)(X:Cx)(x:S)(p:List Stmt):Prop:=∀H_h O0,PSs X p (tS T cf X.K H_h O0 x)
theorem PS.imp{st:Stmt}{t:TS}(h:∀D' σ H,t' D' σ H->t D' σ H)(hp:PS X st t):PS X st t':=λpins s σ H D' I q=>hp pins s σ H D' I (h D' σ H q)
theorem PSs.imp{st:List Stmt}{t:TS}(h:∀D' σ H,t' D' σ H->t D' σ H)(hp:PSs X st t):PSs X st t':=λpins s σ H D' I q=>hp pins s σ H D' I (h D' σ H q)
variable{a b c:S}{st:Stmt}{sts:List Stmt}
theorem Aa{pins:List (Addr×Obj)}{σ:L2.St}{s:Shared}{p:Addr}{u:HO}(I:Inv X pins σ H s)(h:H p=some u)(hu:(∃ps,u=.dK ps)\/∃ps,u=.dT ps):∃ob,Inv X pins σ (L2.upd H p (.frz ob u)) s:=by
 rcases hu with⟨ps,rfl⟩|⟨ps,rfl⟩
 ·obtain⟨o,_,_,_,I2⟩:=freeze I h
  exact⟨o,I2⟩
 ·obtain⟨o,_,_,_,I2⟩:=zU I h
  exact⟨o,I2⟩
theorem sb_nil:SB T cf X .nil []:=λH_h O0=>PSs.imp (λD' σ H ⟨ts,e,out,F,ev,k⟩=>by
 rw[xS_nil]at ev;cases ev
 exact k σ H F) Fg
theorem JU(h1:SS T cf X a st)(h2:SB T cf X b sts):SB T cf X (.cons a b) (st::sts):=λH_h O0=>by
 refine PSs.imp (λD' σ H hq=>?_) (oR (h1 H_h O0) (h2 H_h O0))
 obtain⟨ts,e,out,F,ev,k⟩:=hq
 rw[pC]at ev
 obtain⟨o1,e1,ev⟩:=Res.bind_ok ev
 refine⟨ts,e,o1,F,e1,?_⟩
 cases o1 with
 |nx e'=>exact λσ' H' F'=>⟨ts,e',out,F',ev,k⟩
 |rt d fr=>cases ev;exact k
 |rr _ _ _ _ _=>cases ev;exact k
 |bk e'=>cases ev;exact k
 |ct e'=>cases ev;exact k
theorem JV(h2:SB T cf X b sts):SB T cf X (.cons (.sealed i) b) sts:=λH_h O0 pins s σ H D' I hq=>by
 obtain⟨ts,e,out,⟨O,own,F,tt⟩,ev,k⟩:=hq
 (first|rw[pC]at ev|rw[zK]at ev)
 obtain⟨o1,e1,ev⟩:=Res.bind_ok ev
 (first|rw[pC]at e1|rw[zK]at e1)
 obtain⟨l,e2,e1⟩:=Res.bind_ok e1
 cases e1
 cases hd:l.isDct with
 |false=>
  obtain⟨O',own',F',sub⟩:=F.seal i (Sl.ownA_ok e2) hd
  exact h2 H_h O0 pins s σ H D' I ⟨ts,_,out,⟨O',own',F',λt ht=>(tt t ht).weak sub⟩,ev,k⟩
 |true=>
  obtain⟨p,u,g1,g2,g3,g4,g5⟩:=F.sealD i (Sl.ownA_ok e2) hd
  obtain⟨ob,I2⟩:=Aa I g1 g2
  obtain⟨⟨own',F'⟩,_⟩:=g5 ob
  exact h2 H_h O0 pins s σ _ D' I2 ⟨ts,_,out,⟨_,own',F',λt ht=>((tt t ht).updM g4.1 g1 g4.2).weak λ_ z=>z.1⟩,ev,k⟩
theorem ss_brk:SS T cf X .brk (.Break pos):=λH_h O0=>PS.imp (λD' σ H ⟨ts,e,out,F,ev,k⟩=>by
 rw[xS_brk]at ev;cases ev
 exact k σ H F) Fj
theorem ss_cnt:SS T cf X .cnt (.Continue pos):=λH_h O0=>PS.imp (λD' σ H ⟨ts,e,out,F,ev,k⟩=>by
 rw[xS_cnt]at ev;cases ev
 exact k σ H F) Fl
theorem ss_ret(h:SE T cf X x p):SS T cf X (.ret x) (.Return (some p) pos):=λH_h O0=>by
 refine PS.imp (λD' σ H hq=>?_) (rW (h H_h O0))
 obtain⟨ts,e,out,⟨O,own,F,tt⟩,ev,k⟩:=hq
 rw[xS_ret]at ev
 obtain⟨d,e1,ev⟩:=Res.bind_ok ev
 cases ev
 refine⟨O,own,e,d,F,e1,λv H' s' r n=>k v H' (F.same.trans s') (r.weak F.sub) λfr=>?_⟩
 rw[aD,bM]at fr
 exact NewR.of (((n fr.1).back F.same).weak F.sub) fr.2
theorem JW (hN:X.N[i]?=some n) (hv:Vis X.env.scope n) (hd:(n==("__debug__" : Str))=false) (hc:(n==("__classdict__" : Str))=false):SS T cf X (.retO i) (.Return (some (.Name n pos')) pos):=λH_h O0 pins s σ H D' I hq=>by
 obtain⟨ts,e,out,⟨O,own,F,tt⟩,ev,k⟩:=hq
 rw[HN]at ev
 obtain⟨l,e1,ev⟩:=Res.bind_ok ev
 cases ev
 cases hz:l.isDct with
 |false=>
  rw[hz]at k
  have q:=F.sl i
  rw[Sl.ownA_ok e1]at q
  obtain⟨p,e2,e3,h1⟩:=q
  have hn:=F.new i p e2
  have nO:¬O0 p:=λz=>by
   obtain⟨o,w⟩:=F.trk0.1 p z
   rw[hn.2]at w;cases w
  exact rW (fV hN hv hd hc) pins s σ H D' I ⟨.ref p,eS e3,k _ H F.same (OwnAt.rd nO hz (h1.weak F.sub)) λ_=>⟨λ_=>⟨p,rfl,hn.2,h1.weak λb hb=>hb.elim (F.sub b) λz=>z▸hn.1⟩,λ_ a r z=>by subst z;exact h1.elim⟩⟩
 |true=>
  rw[hz]at k
  obtain⟨p,u,g1,g2,g3,g4,g5⟩:=F.sealD i (Sl.ownA_ok e1) hz
  obtain⟨ob,I2⟩:=Aa I g1 g2
  obtain⟨⟨own',F'⟩,rd⟩:=g5 ob
  exact rW (fV hN hv hd hc) pins s σ _ D' I2 ⟨.ref p,eS g3,k _ _ F'.same (rd.weak F'.sub) λz=>by cases z⟩
noncomputable def dC:Expr->Bool
 |.ListComp _ _ _ _=>false
 |.SetComp _ _ _ _=>false
 |.DictComp _ _ _ _ _=>false
 |_=>true
noncomputable def qA:Expr->Bool
 |.Tuple _ _ _=>false
 |_=>true
theorem gX{t:Option Expr}{l:Nat}(h:dC e=true):swapsWith e t l env=pure false:=by
 cases e<;>first|rfl|(cases h)
theorem JX{tg:Expr}(h:qA e=true):swappedStores [tg] e env=pure none:=by
 cases tg<;>first|rfl|(cases e<;>first|rfl|(cases h;done))
theorem JY{tg:Expr}(h:aX tg=true):(assignEach [tg] env).map (·.2)=[assign tg env]:=by
 cases tg<;>first|rfl|(cases h)
theorem ss_asg(hx:dC p=true)(ht:qA p=true)(hq:aX tg=true)(h:SE T cf X x p)(hg:SG X g tg):SS T cf X (.asg g x) (.Assign [tg] p pos):=λH_h O0=>by
 refine PS.imp (λD' σ H hq=>?_) (ps_asg (h H_h O0) (hg H_h O0) (gX hx) (JX ht) (JY hq))
 obtain⟨ts,e,out,⟨O,own,F,tt⟩,ev,k⟩:=hq
 rw[pD]at ev
 obtain⟨d,e1,ev⟩:=Res.bind_ok ev
 obtain⟨e2,e3,ev⟩:=Res.bind_ok ev
 cases ev
 refine⟨O,own,e,d,F,e1,λv H' s' r n=>⟨O,own,e,d,e2,F.grow s',r,e3,λσ' own' _ F'=>?_⟩⟩
 exact k σ' H' ⟨O,own',F',λt ht=>(tt t ht).same s'⟩
theorem JZ(hx:dC p=true)(hN:X.N.Nodup)(hi:X.N[i]?=some n)(hl:Loc X.env.scope n)(hf:X.fn n=true\/X.env.scope.names.lookup n=some .local)(h:SE T cf X x p):SS T cf X (.asgO i x) (.Assign [.Name n pos'] p pos):=λH_h O0=>by
 refine PS.imp (λD' σ H hq=>?_) (mL hN hi hl (h H_h O0) (gX hx) hf)
 obtain⟨ts,e,out,⟨O,own,F,tt⟩,ev,k⟩:=hq
 rw[pE]at ev
 obtain⟨d,e1,ev⟩:=Res.bind_ok ev
 split at ev
 ·obtain⟨c,ev⟩:=aS ev
  cases ev
  refine⟨O,own,e,_,F,e1,λv H' s' r n=>?_⟩
  obtain⟨p,rfl,h2,h3⟩:=n c rfl
  exact k _ H' ⟨_,_,F.setO s' i h2 h3,λt ht=>((tt t ht).new h2).same s'⟩
 ·obtain⟨c,ev⟩:=aS ev
  cases ev
  refine⟨O,own,e,_,F,e1,λv H' s' r n=>?_⟩
  obtain⟨p,rfl,h2,h3⟩:=n c rfl
  exact k _ H' ⟨_,_,F.setO s' i h2 h3,λt ht=>((tt t ht).new h2).same s'⟩
 ·obtain⟨c,ev⟩:=aS ev
  cases ev
  refine⟨O,own,e,_,F,e1,λv H' s' r n=>?_⟩
  obtain⟨p,rfl,h2,h3⟩:=n c rfl
  exact k _ H' ⟨_,_,F.setO s' i h2 h3,λt ht=>((tt t ht).new h2).same s'⟩
 ·cases ev
theorem J0(hN:X.N.Nodup)(hi:X.N[i]?=some n)(hl:Loc X.env.scope n)(hf:X.fn n=true\/X.env.scope.names.lookup n=some .local):SS T cf X (.newD i) (.Assign [.Name n pos'] (.Dict [] [] dpos) pos):=λH_h O0=>by
 refine PS.imp (λD' σ H hq=>?_) (mL hN hi hl HB (gX rfl) hf)
 obtain⟨ts,e,out,⟨O,own,F,tt⟩,ev,k⟩:=hq
 rw[HS]at ev
 cases ev
 intro p hp
 exact k _ _ ⟨_,_,F.setO (bK hp _) i hp (IT (ds:=[]) (ps:=[]) rfl hp),λt ht=>((tt t ht).new hp).same (bK hp _)⟩
theorem J1(hN:X.N.Nodup)(hi:X.N[i]?=some n)(hl:Loc X.env.scope n)(hf:X.fn n=true\/X.env.scope.names.lookup n=some .local):SS T cf X (.newT i) (.Assign [.Name n pos'] (.Dict [] [] dpos) pos):=λH_h O0=>by
 refine PS.imp (λD' σ H hq=>?_) (mL hN hi hl yV (gX rfl) hf)
 obtain⟨ts,e,out,⟨O,own,F,tt⟩,ev,k⟩:=hq
 rw[HU]at ev
 cases ev
 intro p hp
 exact k _ _ ⟨_,_,F.setO (bK hp _) i hp (IU (ds:=[]) (ps:=[]) rfl hp),λt ht=>((tt t ht).new hp).same (bK hp _)⟩
theorem ss_ite{qs:List Stmt}(hc:ST T cf X x p)(ha:SB T cf X a ps)(hb:SB T cf X b qs):SS T cf X (.ite x a b) (.If p ps qs pos):=λH_h O0=>by
 refine PS.imp (λD' σ H hq=>?_) (ps_if (hc H_h O0) (ha H_h O0) (hb H_h O0))
 obtain⟨ts,e,out,⟨O,own,F,tt⟩,ev,k⟩:=hq
 rw[sR]at ev
 obtain⟨d,e1,ev⟩:=Res.bind_ok ev
 obtain⟨c,e2,ev⟩:=Res.bind_ok ev
 refine⟨O,own,e,d,c,F,e1,e2,λH1 s1=>?_⟩
 cases c with
 |true=>rw[if_pos rfl]at ev⊢;exact⟨ts,e,out,⟨O,own,F.grow s1,λt ht=>(tt t ht).same s1⟩,ev,k⟩
 |false=>rw[if_neg aJ]at ev⊢;exact⟨ts,e,out,⟨O,own,F.grow s1,λt ht=>(tt t ht).same s1⟩,ev,k⟩
theorem ss_for(hp:PassesOwn (model X.prog X.w) X.A X.env X.xe)(hc:X.calm=true)(hq:aX p=true)(hi:SI T cf X tg x false p)(hg:SG X g tg)(hb:SB T cf X b ps):SS T cf X (.forS g x b) (.For tg p ps [] pos):=λH_h O0=>by
 refine PS.imp (λD' σ H hq=>?_) (ps_for hp hc (hi H_h O0) (hg H_h O0) (hb H_h O0) (AR hq))
 obtain⟨ts,e,out,⟨O,own,F,tt⟩,ev,k⟩:=hq
 rw[HQ]at ev
 obtain⟨ds,e1,ev⟩:=Res.bind_ok ev
 refine⟨O,own,e,ds,F,e1,λJ H1 srs s1 rr rv wk=>?_⟩
 refine⟨λi m σ H=>m=ds.length-i/\i<=ds.length/\∃e',Ft X.K H_h O0 (srs++ts) e' σ H/\aO (λd e0=>do let e1<-g.put d e0;exS T cf b e1) (ds.drop i) e'=.ok out,⟨ds.length,by simp,fU _,e,⟨O,own,F.grow s1,λt ht=>?_⟩,by simpa using ev⟩,?_⟩
 ·rcases eO.mp ht with ht|ht
  ·exact rv rfl t ht
  ·exact(tt t ht).same s1
 rintro i m σ2 H2 ⟨rfl,hi',e',⟨O2,own2,F2,t2⟩,ev2⟩
 obtain⟨w1,w2,w3⟩:=wk i H2 O2 λt ht=>(t2 t (rG _ ht)).rr
 by_cases hlt:i<ds.length
 ·refine .inr ⟨w1 hlt,λσ' H'=>∃e',Ft X.K H_h O0 (srs++ts) e' σ' H'/\aO (λd e0=>do let e1<-g.put d e0;exS T cf b e1) (ds.drop (i+1)) e'=.ok out,λσ' H' n=>⟨ds.length-(i+1),by lia,rfl,hlt,n⟩,λv H' y=>?_⟩
  obtain⟨s3,r3⟩:=w3 v H' _ (aP hlt) y
  rw[xB hlt,aO]at ev2
  obtain⟨o1,ev3,ev4⟩:=Res.bind_ok ev2
  obtain⟨e3,ev5,ev6⟩:=Res.bind_ok ev3
  refine⟨O2,own2,e',_,e3,F2.grow s3,r3,ev5,λσ' own' _ F'=>?_⟩
  refine⟨srs++ts,e3,o1,⟨O2,own',F',λt ht=>(t2 t ht).same s3⟩,ev6,?_⟩
  have down:∀{e'':Nv} {σ'':L2.St} {H'':Hp},Ft X.K H_h O0 (srs++ts) e'' σ'' H''->Ft X.K H_h O0 ts e'' σ'' H'':=λ⟨O',own',F',t'⟩=>⟨O',own',F',λt ht=>t' t (fT _ ht)⟩
  cases o1 with
  |nx e4=>exact λσ'' H'' F''=>⟨e4,F'',ev4⟩
  |ct e4=>exact λσ'' H'' F''=>⟨e4,F'',ev4⟩
  |bk e4=>cases ev4;exact λσ'' H'' F''=>k σ'' H'' (down F'')
  |rt d fr=>cases ev4;exact k
  |rr _ _ _ _ _=>cases ev4;exact k
 ·have e4:i=ds.length:=by lia
  subst e4
  refine .inl ⟨w2 (aK _),?_⟩
  rw[Ny,aO]at ev2
  cases ev2
  exact k σ2 H2 ⟨O2,own2,F2,λt ht=>t2 t (fT _ ht)⟩
theorem ss_whl{n:Nat}(hp:PassesOwn (model X.prog X.w) X.A X.env X.xe)(hc:ST T cf X x p)(hb:SB T cf X b ps):SS T cf X (.whl n x b) (.While p ps [] pos):=λH_h O0=>by
 refine PS.imp (λD' σ H hq=>?_) (Fq hp (hc H_h O0) (hb H_h O0))
 obtain⟨ts,e,out,F,ev,k⟩:=hq
 rw[xS_whl]at ev
 refine⟨λm σ H=>∃e',Ft X.K H_h O0 ts e' σ H/\eE (λe0=>do let x<-evE T cf x e0;x.truth) (λe0=>exS T cf b e0) m e'=.ok out,⟨n,e,F,ev⟩,?_⟩
 rintro m σ2 H2 ⟨e',⟨O2,own2,F2,t2⟩,ev2⟩
 cases m with
 |zero=>rw[eE]at ev2;cases ev2
 |succ m=>
  rw[eE]at ev2
  obtain⟨c,ev3,ev4⟩:=Res.bind_ok ev2
  obtain⟨d,ev5,ev6⟩:=Res.bind_ok ev3
  refine⟨O2,own2,e',d,c,F2,ev5,ev6,λH3 s3=>?_⟩
  have F3:Ft X.K H_h O0 ts e' σ2 H3:=⟨O2,own2,F2.grow s3,λt ht=>(t2 t ht).same s3⟩
  cases c with
  |true=>
   dsimp only
   rw[if_pos rfl]at ev4⊢
   obtain⟨o1,ev7,ev8⟩:=Res.bind_ok ev4
   refine⟨λσ' H'=>∃e',Ft X.K H_h O0 ts e' σ' H'/\eE (λe0=>do let x<-evE T cf x e0;x.truth) (λe0=>exS T cf b e0) m e'=.ok out,λσ' H' n=>⟨m,oH m,n⟩,?_⟩
   refine⟨ts,e',o1,F3,ev7,?_⟩
   cases o1 with
   |nx e4=>exact λσ'' H'' F''=>⟨e4,F'',ev8⟩
   |ct e4=>exact λσ'' H'' F''=>⟨e4,F'',ev8⟩
   |bk e4=>cases ev8;exact k
   |rt d fr=>cases ev8;exact k
   |rr _ _ _ _ _=>cases ev8;exact k
  |false=>
   dsimp only
   rw[if_neg aJ]at ev4⊢
   cases ev4
   exact k σ2 H3 F3
theorem ss_app {nm:Str} (hN:X.N[i]?=some n) (hv:Vis X.env.scope n) (hd:(n==("__debug__" : Str))=false) (hc:(n==("__classdict__" : Str))=false) (hnm:nm = "append") (hline:(apos.endLine==cpos.line)=true) (hp:aX p=true) (h:SE T cf X x p) :
 SS T cf X (.app i x) (.Expr (.Call (.Attribute (.Name n px) nm apos) [p] [] cpos) pos):=λH_h O0=>by
 subst hnm
 refine PS.imp (λD' σ H hq=>?_) (oS (yL PySem.F.plainAttrs_list PySem.F.slot_list_append PySem.F.type_list_append yN (fV hN hv hd hc) (dU (h H_h O0) eZ (aU hp)) rfl (by rw[aU hp];rfl) hline (aU hp) rfl) rfl)
 obtain⟨ts,e,out,⟨O,own,F,tt⟩,ev,k⟩:=hq
 rw[xS_app]at ev
 obtain⟨d,e1,ev⟩:=Res.bind_ok ev
 obtain⟨l,e2,ev⟩:=Res.bind_ok ev
 obtain⟨c,ev⟩:=aS ev
 cases ev
 obtain⟨q0,xs0,f1,f2,f3,f4,f5⟩:=F.mut i (Sl.own_ok e2)
 refine⟨.ref q0,eS f1,.inl ⟨rfl,xs0,.of f2⟩,O,own,e,d,F,e1,λv H' s' r _=>?_⟩
 obtain⟨q1,xs1,g1,g2,g3,g4,g5⟩:=(F.grow s').mut i (Sl.own_ok e2)
 have eq:q1=q0:=by rw[f1]at g1;cases g1;rfl
 subst eq
 refine⟨q1,xs1,v,rfl,rfl,g2,by rw[g3.length,<-fO];exact of_decide_eq_true c,?_⟩
 exact k _ _ ⟨O,own,g5 _ _ (g3.append ⟨v,[],rfl,r,rfl⟩),λt ht=>((tt t ht).same s').upd g4 g2⟩
theorem ss_rev {nm:Str} (hN:X.N[i]?=some n) (hv:Vis X.env.scope n) (hd:(n==("__debug__" : Str))=false) (hc:(n==("__classdict__" : Str))=false) (hnm:nm = "reverse") (hline:(apos.endLine==cpos.line)=true) :
 SS T cf X (.rev i) (.Expr (.Call (.Attribute (.Name n px) nm apos) [] [] cpos) pos):=λH_h O0=>by
 subst hnm
 refine PS.imp (λD' σ H hq=>?_) (oS (pe_bm0 PySem.F.plainAttrs_list PySem.F.slot_list_reverse PySem.F.type_list_reverse Gm (fV hN hv hd hc) rfl hline) rfl)
 obtain⟨ts,e,out,⟨O,own,F,tt⟩,ev,k⟩:=hq
 rw[xS_rev]at ev
 obtain⟨l,e2,ev⟩:=Res.bind_ok ev
 cases ev
 obtain⟨q0,xs0,f1,f2,f3,f4,f5⟩:=F.mut i (Sl.own_ok e2)
 refine⟨.ref q0,eS f1,.inl ⟨rfl,xs0,.of f2⟩,q0,xs0,rfl,rfl,f2,?_⟩
 exact k _ _ ⟨O,own,f5 _ _ f3.reverse,λt ht=>(tt t ht).upd f4 f2⟩
theorem ss_ext {nm:Str} (hN:X.N[i]?=some n) (hv:Vis X.env.scope n) (hd:(n==("__debug__" : Str))=false) (hc:(n==("__classdict__" : Str))=false) (hnm:nm = "extend") (hline:(apos.endLine==cpos.line)=true) (hp:aX p=true) (h:SE T cf X x p) :
 SS T cf X (.ext i x) (.Expr (.Call (.Attribute (.Name n px) nm apos) [p] [] cpos) pos):=λH_h O0=>by
 subst hnm
 refine PS.imp (λD' σ H hq=>?_) (oS (yL PySem.F.plainAttrs_list PySem.F.slot_list_extend PySem.F.type_list_extend Gj (fV hN hv hd hc) (dU (h H_h O0) eZ (aU hp)) rfl (by rw[aU hp];rfl) hline (aU hp) rfl) rfl)
 obtain⟨ts,e,out,⟨O,own,F,tt⟩,ev,k⟩:=hq
 rw[zL]at ev
 obtain⟨d,e1,ev⟩:=Res.bind_ok ev
 split at ev
 ·obtain⟨l,e2,ev⟩:=Res.bind_ok ev
  obtain⟨c,ev⟩:=aS ev
  rw[aD]at c
  cases ev
  obtain⟨q0,xs0,f1,f2,f3,f4,f5⟩:=F.mut i (Sl.own_ok e2)
  refine⟨.ref q0,eS f1,.inl ⟨rfl,xs0,.of f2⟩,O,own,e,_,F,e1,λv H' s' r nl=>?_⟩
  obtain⟨b,rfl,hb0,zs,hb1,hb2⟩:=nl c.1 rfl
  obtain⟨q1,xs1,g1,g2,g3,g4,g5⟩:=(F.grow s').mut i (Sl.own_ok e2)
  have eq:q1=q0:=by rw[f1]at g1;cases g1;rfl
  subst eq
  refine⟨q1,b,xs1,zs,rfl,rfl,g2,hb1,by rw[g3.length,hb2.length,<-fO];exact of_decide_eq_true c.2,?_⟩
  exact k _ _ ⟨O,own,g5 _ _ (g3.append (hb2.weak λ_ z=>.inl z)),λt ht=>((tt t ht).same s').upd g4 g2⟩
 ·cases ev
theorem J2 {tpos:Pos} (hR:fP X) (hN:X.N[i]?=some n) (hv:Vis X.env.scope n) (hd:(n==("__debug__" : Str))=false) (hc:(n==("__classdict__" : Str))=false) (hx:dC p=true) (hk:SE T cf X y q) (h:SE T cf X x p) :
 SS T cf X (.dput i y x) (.Assign [.Subscript (.Name n px) q tpos] p pos):=λH_h O0=>by
 have hR':X.A.units+64<cLine:=hR
 refine PS.imp (λD' σ H hq=>?_) (yT (by lia) (fV hN hv hd hc) (hk H_h O0) (h H_h O0) (gX hx))
 obtain⟨ts,e,out,⟨O,own,F,tt⟩,ev,k⟩:=hq
 rw[HR]at ev
 obtain⟨d,e1,ev⟩:=Res.bind_ok ev
 obtain⟨l,e2,ev⟩:=Res.bind_ok ev
 obtain⟨dk,e3,ev⟩:=Res.bind_ok ev
 obtain⟨key,e4,ev⟩:=Res.bind_ok ev
 obtain⟨c,ev⟩:=aS ev
 cases ev
 refine⟨O,own,e,d,F,e1,λv H1 s1 r1 _=>?_⟩
 obtain⟨q1,xs1,g1,g2,g3,g4,g5⟩:=(F.grow s1).mutD i (Sl.ownD_ok e2)
 refine⟨.ref q1,eS g1,O,own,e,dk,F.grow s1,e3,λvk H2 s2 r2 _=>?_⟩
 have ex:=nM (fZ e4) r2.rr
 subst ex
 obtain⟨q2,xs2,f1,f2,f3,f4,f5⟩:=((F.grow s1).grow s2).mutD i (Sl.ownD_ok e2)
 have eq:q2=q1:=by rw[g1]at f1;cases f1;rfl
 subst eq
 refine⟨q2,_,rfl,DPut.k f2 (by rw[f3.length,<-fO];exact of_decide_eq_true c),?_⟩
 exact k _ _ ⟨O,own,f5 _ _ (Ib (r1.same s2) f3),λt ht=>(((tt t ht).same s1).same s2).updM f4 f2 trivial⟩
theorem J3:SS T cf X .never st:=λH_h O0=>PS.imp (λD' σ H ⟨ts,e,out,F,ev,k⟩=>by
 rw[HW]at ev;cases ev) Fn
theorem ss_aug{o:Operator}(hN:X.N.Nodup)(hi:X.N[i]?=some n)(hl:Loc X.env.scope n)(hf:X.fn n=true\/X.env.scope.names.lookup n=some .local)(h:SE T cf X x p)(ho:o=.Add\/o=.Sub) :
 SS T cf X (.aug i o x) (.AugAssign (.Name n pos') o p pos):=λH_h O0=>by
 have main:∀(g:Int->Int->Int),PIp X o (rI0 λa b=>.int (g a b))->(∀a b,D.aug o (.int a) (.int b)=.ok (.int (g a b)))->PS X (.AugAssign (.Name n pos') o p pos) (tS T cf X.K H_h O0 (.aug i o x)):=by
  intro g hg hx
  refine PS.imp (λD' σ H hq=>?_) (ps_aug hN hi hl (h H_h O0) hg hf)
  obtain⟨ts,e,out,⟨O,own,F,tt⟩,ev,k⟩:=hq
  rw[xS_aug]at ev
  obtain⟨d,e1,ev⟩:=Res.bind_ok ev
  obtain⟨dy,e2,ev⟩:=Res.bind_ok ev
  obtain⟨dz,e3,ev⟩:=Res.bind_ok ev
  cases ev
  have q:=F.sl i
  cases hs:e.at i with
  |no=>rw[hs]at e1;cases e1
  |o _=>rw[hs]at e1;cases e1
  |t _=>rw[hs]at e1;cases e1
  |r _ _=>rw[hs]at e1;cases e1
  |n d0=>
   rw[hs]at e1 q
   cases e1
   obtain⟨v,_,⟨rfl,_⟩|⟨ds,a,xs,rfl,_⟩⟩:=q
   ·unfold D.aug at e3;split at e3<;>first|contradiction|(cases e3;done)
   ·unfold D.aug at e3;split at e3<;>first|contradiction|(cases e3;done)
  |v d0=>
   rw[hs]at e1 q
   cases e1
   obtain⟨v,f1,f2⟩:=q
   cases d with
   |int a=>
    cases dy with
    |int b=>
     rw[hx]at e3
     cases e3
     cases (show v=.int a from f2)
     refine⟨.int a,eS f1,O,own,e,_,F,e2,λv2 H1 s1 r1 _=>?_⟩
     cases (show v2=.int b from r1)
     exact⟨a,b,rfl,rfl,k _ H1 ⟨O,_,(F.grow s1).setV i (d:=.int (g a b)) rfl,λt ht=>(tt t ht).same s1⟩⟩
    |_=>rcases ho with rfl|rfl<;>cases e3
   |_=>rcases ho with rfl|rfl<;>cases e3
 rcases ho with rfl|rfl
 ·exact main (·+·) (λpins s σ H x y v u Q I rx ry q=>GB pins s σ H x y v u Q I rx ry q) (λ_ _=>rfl)
 ·exact main (· - ·) (λpins s σ H x y v u Q I rx ry q=>GC pins s σ H x y v u Q I rx ry q) (λ_ _=>rfl)
theorem ss_exp(hs:swapsWith p none pos.line X.env=pure false)(h:SE T cf X x p):SS T cf X (.exp x) (.Expr p pos):=λH_h O0=>by
 refine PS.imp (λD' σ H hq=>?_) (oS (h H_h O0) hs)
 obtain⟨ts,e,out,⟨O,own,F,tt⟩,ev,k⟩:=hq
 rw[xS_exp]at ev
 obtain⟨d,e1,ev⟩:=Res.bind_ok ev
 cases ev
 exact⟨O,own,e,d,F,e1,λv H' s' r _=>k _ _ ⟨O,own,F.grow s',λt ht=>(tt t ht).same s'⟩⟩
end
end Tr
namespace Tr
open PySem PySem.Spec PyProof.Rows L2
section
variable{T:Tab}{cf:Nat->List D->Res D}{X:Cx}{x y z:E}{p q r tg:Expr}{pos pos':Pos}{es:List Expr}{a b c:S}{st:Stmt}{sts:List Stmt}
end
noncomputable def eI(cells:List (Str×Addr)):List (Str×NameKind)->List (Str×Addr)->List (Str×Addr)
 |[],cs=>cs
 |(n,k)::r,cs=>eI cells r (if(k==.free)=true then(match cells.lookup n with|some c=>(n,c)::cs|none=>cs)else cs)
theorem Ab{env:Env}:∀(names:List (Str×NameKind))(cs:List (Str×Addr)),(∀x∈names,x.2=.free->∃c,env.cells.lookup x.1=some c) ->
 (forIn names cs (λ(x:Str×NameKind) (r:List (Str×Addr))=>(if(x.2==.free)=true then(do let c<-cellOf env x.1;pure (ForInStep.yield ((x.1,c)::r)))else pure (ForInStep.yield r):Sem _)))=pure (eI env.cells names cs)
 |[],cs,_=>rfl
 |(n,k)::r,cs,h=>by
  rw[Nz]
  have ih:=Ab (env:=env) r
  by_cases hk:(k==NameKind.free)=true
  ·have hk':k=.free:=by simpa using hk
   obtain⟨c,hc⟩:=h (n,k) (bF ..) hk'
   simp only at hc
   simp only[hk,if_true]
   unfold cellOf
   rw[hc]
   show(do let r<-(pure (ForInStep.yield ((n,c)::cs)):Sem _);_)=_
   rw[eI,if_pos hk,hc]
   exact ih _ λx hx=>h x (bG _ hx)
  ·simp only[hk,if_false,jQ]
   rw[eI,if_neg hk]
   exact ih _ λx hx=>h x (bG _ hx)
theorem J4{scope:Scope}{env:Env}(h:∀x∈scope.names,x.2=.free->∃c,env.cells.lookup x.1=some c):closureFor scope env=pure (eI env.cells scope.names []):=by
 have:=Ab (env:=env) scope.names [] h
 unfold closureFor
 rw[<-this]
 first|rfl|simp
theorem Ac{cells:List (Str×Addr)}:∀{names:List (Str×NameKind)} {cs:List (Str×Addr)} {n:Str} {c:Addr},(n,c)∈eI cells names cs->(n,c)∈cs\/((n,NameKind.free)∈names/\cells.lookup n=some c)
 |[],_,_,_,h=>.inl h
 |(m,k)::r,cs,n,c,h=>by
  rw[eI]at h
  rcases Ac h with g|⟨h1,h2⟩
  ·clear h
   split at g
   ·rename_i hk
    have hk':k=.free:=by simpa using hk
    subst hk'
    split at g
    ·rename_i c' hc
     rcases bU.mp g with e|g
     ·cases e
      exact .inr ⟨bF ..,hc⟩
     ·exact .inl g
    ·exact .inl g
   ·exact .inl g
  ·exact .inr ⟨bG _ h1,h2⟩
theorem Ad{cells:List (Str×Addr)}:∀{names:List (Str×NameKind)} {cs:List (Str×Addr)} {x:Str×Addr},x∈cs->x∈eI cells names cs
 |[],_,_,h=>h
 |(m,k)::r,cs,x,h=>by
  rw[eI]
  refine Ad ?_
  split
  ·split
   ·exact bG _ h
   ·exact h
  ·exact h
theorem tQ{cells:List (Str×Addr)}:∀{names:List (Str×NameKind)} {cs:List (Str×Addr)} {n:Str} {c:Addr},(n,NameKind.free)∈names->cells.lookup n=some c->(n,c)∈eI cells names cs
 |[],_,_,_,h,_=>by cases h
 |(m,k)::r,cs,n,c,h,hc=>by
  rw[eI]
  rcases bU.mp h with e|h
  ·cases e
   refine Ad ?_
   rw[if_pos (by simp),hc]
   exact bF ..
  ·exact tQ h hc
theorem Ae{l:List (Str×Addr)}{n:Str}{c:Addr}(h:(n,c)∈l):∃c',l.lookup n=some c':=by
 induction l with
 |nil=>cases h
 |cons x l ih=>
  obtain⟨m,d⟩:=x
  rw[kQ]
  by_cases e:(n==m)=true
  ·rw[e];exact⟨d,rfl⟩
  ·have e':(n==m)=false:=by simpa using e
   rw[e']
   rcases bU.mp h with z|z
   ·cases z;simp at e
   ·exact ih z
theorem Af{env:Env}:∀{names:List (Str×NameKind)} {x:Str},(∀y∈names,y.2≠.cell) ->
 ((names.map λ(n,k)=>if(k==NameKind.free&&env.scope.kind==.function&&env.kindOf n==some .cell)then(n,NameKind.cell)else(n,k)).lookup x=some .cell \/
  (names.map λ(n,k)=>if(k==NameKind.free&&env.scope.kind==.function&&env.kindOf n==some .cell)then(n,NameKind.cell)else(n,k)).lookup x=some .free)->(x,NameKind.free)∈names
 |[],_,_,h=>by rcases h with h|h<;>cases h
 |(n,k)::r,x,hc,h=>by
  have hk:=hc (n,k) (bF ..)
  have ih:=@Af env r x λy hy=>hc y (bG _ hy)
  rw[aL]at h
  dsimp only at h
  by_cases hx:(x==n)=true
  ·have hx':x=n:=by simpa using hx
   subst hx'
   refine bU.mpr (.inl ?_)
   by_cases z:(k==NameKind.free&&env.scope.kind==.function&&env.kindOf x==some .cell)=true
   ·have:k=.free:=by
     cases k<;>first|rfl|(exact absurd z (by simp))
    rw[this]
   ·rw[if_neg z]at h
    simp only[kQ,beq_self_eq_true]at h
    rcases h with h|h
    ·cases h;exact absurd rfl hk
    ·cases h;rfl
  ·have hx':(x==n)=false:=by simpa using hx
   refine bG _ (ih ?_)
   by_cases z:(k==NameKind.free&&env.scope.kind==.function&&env.kindOf n==some .cell)=true
   ·rw[if_pos z]at h
    simpa only[kQ,hx']using h
   ·rw[if_neg z]at h
    simpa only[kQ,hx']using h
variable{h1 h2:Heap}{H:Hp}
theorem Ag{env:Env}:∀{names:List (Str×NameKind)} {x:Str},
 (names.map λ(n,k)=>if(k==NameKind.free&&env.scope.kind==.function&&env.kindOf n==some .cell)then(n,NameKind.cell)else(n,k)).lookup x=some .local->names.lookup x=some .local
 |[],_,h=>by cases h
 |(n,k)::r,x,h=>by
  have ih:=@Ag env r x
  rw[aL]at h
  dsimp only at h
  by_cases z:(k==NameKind.free&&env.scope.kind==.function&&env.kindOf n==some .cell)=true
  ·rw[if_pos z]at h
   by_cases hx:(x==n)=true
   ·simp only[kQ,hx]at h;cases h
   ·have hx':(x==n)=false:=by simpa using hx
    simp only[kQ,hx']at h⊢
    exact ih h
  ·rw[if_neg z]at h
   by_cases hx:(x==n)=true
   ·simp only[kQ,hx]at h⊢;exact h
   ·have hx':(x==n)=false:=by simpa using hx
    simp only[kQ,hx']at h⊢
    exact ih h
noncomputable def cxC(X:Cx)(scope:Scope)(C:Addr)(Nc:List Str)(s2:Shared)(H2:Hp)(fp:List Addr):Cx where
 prog:=X.prog
 w:=X.w
 K:=X.K
 mg:=X.mg
 base:=X.base
 A:=X.A
 N:=Nc
 sh:=s2
 H_h:=H2
 env:=compEnvC scope (eI X.env.cells scope.names []) C X.env
 outer:=X.stack
 stack:=X.stack
 ex:=fp
 fn:=λn=>scope.names.lookup n==some .local
 calm:=X.calm
 pn:=[]
 xe:=λ_ _=>False
set_option genInjectivity false in
structure ScopeC(X:Cx)(scope:Scope):Prop where
 kind:scope.kind=.function
 cell:∀y∈scope.names,y.2≠.cell
 names:∀x∈scope.names,x.2=.local->scope.names.lookup x.1=some .local
 nd:∀x∈scope.names,x.2=.free->scope.names.lookup x.1≠some .local
 free:∀x∈scope.names,x.2=.free->X.env.kindOf x.1=some .cell\/X.env.kindOf x.1=some .free
section
variable{X:Cx}{scope:Scope}{C:Addr}{Nc:List Str}{s2:Shared}{H2:Hp}{fp:List Addr}{pins:List (Addr×Obj)}{σ:L2.St}
theorem iN{x:Str}{c:Addr}(h:(eI X.env.cells scope.names []).lookup x=some c):(x,NameKind.free)∈scope.names/\X.env.cells.lookup x=some c:=by
 rcases Ac (PySem.mem_of_lookup h)with z|z
 ·cases z
 ·exact z
theorem ScopeC.cells(S:ScopeC X scope)(ok:X.Ok):∀x∈scope.names,x.2=.free->∃c,X.env.cells.lookup x.1=some c:=λx hx hf=>ok.has x.1 (S.free x hx hf)
theorem cxC_ok(I:Inv X pins σ H2 s2)(S:ScopeC X scope)(hfp:∀b∈fp,gS X pins H2 b)(hfo:∀b∈fp,b<s2.heap.objs.size)(hC:s2.heap.objs.size<=C):(cxC X scope C Nc s2 H2 fp).Ok where
 mod:=I.ok.mod
 kind:=S.kind
 glob:=I.ok.glob
 blt:=I.ok.blt
 above:=hC
 inj:=λx y c h1 h2=>I.ok.inj x y c (iN h1).2 (iN h2).2
 has:=λx h=>by
  have hf:=Af (env:=X.env) S.cell h
  obtain⟨c,hc⟩:=S.cells I.ok (x,.free) hf rfl
  exact Ae (tQ hf hc)
 cab:=λx c h1 h2=>by
  have h1':scope.names.lookup x=some .local:=by simpa[cxC]using h1
  exact absurd h1' (S.nd (x,.free) (iN h2).1 rfl)
 hd:=I.ok.hd
 frames:=I.ok.frames
 stk:=.inl rfl
 exf:=λb hb=>⟨cE (dP (hfo b hb) hC),λx c h=>(hfp b hb).2.2.2.2.1 x c (iN h).2⟩
 bs:=I.bs
 bsz:=cG I.ok.bsz I.sz
 noex:=λb o e hb=>by
  rcases(hfp b hb).2.2.2.1 with z|z
  ·exact I.ok.noex b o e z
  ·exact absurd (dP (Heap.lt_size e) (cG I.ok.bsz z)) (jN _)
 exfs:=λb hb z=>by
  rcases bU.mp (I.stkSub b z)with z|z
  ·exact(hfp b hb).2.1 z
  ·exact(hfp b hb).2.2.1 z
 funs:=I.stack
 frf:=I.stkFree
noncomputable def stC(own:Nat)(caps:List Nat)(σ:L2.St):L2.St:=aQ own none++caps.map λi=>bY σ i
set_option genInjectivity false in
structure CapsOk(X:Cx)(scope:Scope)(own:Nat)(caps:List Nat)(Nc:List Str):Prop where
 len:Nc.length=own+caps.length
 nd:caps.Nodup
 cap:∀j i,caps[j]?=some i->∃n,X.N[i]?=some n/\Nc[own+j]?=some n/\(n,NameKind.free)∈scope.names
theorem J5{own:Nat}{caps:List Nat}{j:Nat}{v:V}(h:(stC own caps σ)[j]?=some (some v)):∃k i,j=own+k/\caps[k]?=some i/\bY σ i=some v:=by
 unfold stC at h
 by_cases hj:j<own
 ·rw[jP (by rw[eB];exact hj),lV,if_pos hj]at h
  cases h
 ·rw[gE (by rw[eB];lia),eB,bX]at h
  cases e:caps[j-own]? with
  |none=>rw[e]at h;cases h
  |some i=>
   rw[e]at h
   exact⟨j-own,i,by lia,e,dJ.inj h⟩
theorem vis_of(I:Inv X pins σ H2 s2)(S:ScopeC X scope){n:Str}(h:(n,NameKind.free)∈scope.names):Vis X.env.scope n:=by
 rcases S.free _ h rfl with z|z
 ·exact .inr (.inl z)
 ·exact .inr (.inr z)
theorem invC{own:Nat}{caps:List Nat}{h1:Heap}{t1:Nat}(I:Inv X pins σ H2 s2)(S:ScopeC X scope)(P:CapsOk X scope own caps Nc)(ok:(cxC X scope C Nc s2 H2 fp).Ok)
 (keep:∀b o,s2.heap.get? b=some o->h1.get? b=some o) (hC:s2.heap.objs.size<C) (ns:h1.Ns C λ_=>none) (acc:h1.get? s2.heap.objs.size=some {cls:=.type "list", data:=.seq #[] }) :
 Inv (cxC X scope C Nc s2 H2 fp) [] (stC own caps σ) (upd H2 s2.heap.objs.size (.lst [])) {s2 with heap:=h1,toks:=t1}:=by
 have fr:H2 s2.heap.objs.size=none:=I.hok.fresh (aK _)
 have cellK:∀x c v,X.env.cells.lookup x=some c->s2.heap.IsCell c v->h1.IsCell c v:=λx c v _ ⟨o,ho,hd⟩=>⟨o,keep c o ho,hd⟩
 refine⟨ok,rfl,I.bare,Un.laid keep (aK _) fr,⟨_,ns,λi x v e1 e2 e3=>?_⟩,λx c h=>?_,?_,λx c h=>?_,λp hp=>absurd hp (by simp[cxC]),I.hok.laid keep (aK _) ?_,?_⟩
 ·obtain⟨k,i',rfl,hk,hv⟩:=J5 e2
  obtain⟨n,hn1,hn2,hn3⟩:=P.cap k i' hk
  have e1':Nc[own+k]?=some x:=e1
  rw[hn2]at e1';cases e1'
  obtain⟨m,hm,hl⟩:=I.loc
  obtain⟨u,ru,lk⟩:=hl i' _ v hn1 (eS hv) (vis_of I S hn3)
  refine⟨u,ru,?_⟩
  rcases lk with⟨kl,_⟩|⟨_,c,hc,hcell⟩
  ·rcases S.free _ hn3 rfl with z|z
   ·rw[kl]at z;cases z
   ·rw[kl]at z;cases z
  ·refine .inr ⟨?_,?_⟩
   ·rcases e3 with z|z
    ·exact absurd (Ag (env:=X.env) z) (S.nd _ hn3 rfl)
    ·exact z
   ·obtain⟨c',hc'⟩:=Ae (tQ (cs:=[]) hn3 hc)
    have:=(iN hc').2
    rw[hc]at this;cases this
    exact⟨c,hc',cellK _ c _ hc hcell⟩
 ·obtain⟨v,z⟩:=I.cell x c (iN h).2
  exact⟨v,cellK x c v (iN h).2 z⟩
 ·show upd H2 s2.heap.objs.size (.lst []) C=none
  rw[aG (wX hC)]
  exact I.hok.fresh (kM hC)
 ·obtain⟨v,z⟩:=I.cell x c (iN h).2
  rw[aG (cE z.lt)]
  exact I.freeC x c (iN h).2
 ·exact⟨fU _,[],0,.nil,acc⟩
 ·show(stC own caps σ).length=Nc.length
  unfold stC
  rw[bB,eB,aI,P.len]
theorem Un.but{fs ex:List Addr}{H':Hp}{h:Heap}{C:Addr}(u:Un fs ex H H' h h1)(hC:h.objs.size<=C)(s:Heap.SameBut C h1 h2):Un fs ex H H' h h2 where
 keep:=λb o e n hb hx=>(s.2 b (cE (dP (Heap.lt_size e) hC))).trans (u.keep b o e n hb hx)
 slot:=λb o e n hb hx=>let ⟨sl,q⟩:=u.slot b o e n hb hx;⟨sl,(s.2 b (cE (dP (Heap.lt_size e) hC))).trans q⟩
 free:=u.free
 there:=λb o e hx=>let ⟨o',q⟩:=u.there b o e hx;⟨o',(s.2 b (cE (dP (Heap.lt_size e) hC))).trans q⟩
 tups:=u.tups
 frzs:=u.frzs
 tbls:=u.tbls
theorem HOk.but{P:Program}{w:World}{C:Addr}(x:HOk P w H h1)(hC:H C=none)(s:Heap.SameBut C h1 h2):HOk P w H h2:=λb ob e=>by
 refine(x b ob e).stay (λc w' hc q=>(s.2 c ?_).trans q) (λ_ q=>q) (λ_ _ q=>q) λ_ _ _ q=>q
 rintro rfl
 rcases hc with rfl|hc
 ·rw[hC]at e;cases e
 ·rw[hC]at hc;cases hc
theorem outC{σi:L2.St}{Hi:Hp}{s':Shared}{h':Heap}(I:Inv X pins σ H2 s2)(Ic:Inv (cxC X scope C Nc s2 H2 fp) [] σi Hi s')(hfp:∀b∈fp,gS X pins H2 b)(hC:s2.heap.objs.size<=C)(sb:Heap.SameBut C s'.heap h'):Inv X pins σ Hi {s' with heap:=h' }:=by
 refine I.call' (s':={s' with heap:=h' }) (ch:=fp) Ic.os ?_ ?_ Ic.bare λb hb=>?_
 ·exact Un.but (show Un (frs X.stack) fp H2 Hi s2.heap s'.heap from Ic.base) hC sb
 ·exact HOk.but (show HOk X.prog X.w Hi s'.heap from Ic.hok) (show Hi C=none from Ic.free) sb
 ·obtain⟨_,a1,_,a3,a4,a5⟩:=hfp b hb
  exact⟨a3,a1,a4,a5⟩
end
end Tr
namespace Tr
open PySem PySem.Spec PyProof.Rows L2
variable{p:Addr}{caps:List Nat}{n:Nat}
section
variable{prog:Program}{w:World}{A:Around}{R:Result->Shared->Prop}{s:Shared}
theorem J6{elt target iter:Expr}{ifs:List Expr}{scope:Scope}{pos:Pos}{it acc:Value}{env:Env}(I:Nat->Shared->Prop)
 (turn:∀n s,I n s->wpAny (model prog w) A (pyNext it) (λr sv=>match r with
  |none=>R (.ok .next) sv
  |some v=>wpAny (model prog w) A (letOwnedTupleGo target it v) (λ_ sh=>wpAny (model prog w) A (assign target env v) (λ_ sy=>
   wpAny (model prog w) A (forIn ifs true λc r=>if r=true then do let ok<-isTrue c env (eval c env);pure (ForInStep.yield ok)else pure (ForInStep.yield r)) (λok su=>
    if ok=true then wpAny (model prog w) A (eval elt env) (λx sw=>
     wpAny (model prog w) A (call (.builtin "list.append") [acc,x]) (λ_ s_h=>∃m,m<n/\I m s_h) (λ_ _=>False) sw) (λ_ _=>False) su
    else ∃m,m<n/\I m su) (λ_ _=>False) sy) (λ_ _=>False) sh) (λ_ _=>False) sv) (λ_ _=>False) s)
 (n:Nat) (h:I n s) :
 codeAny (model prog w) A (.compLoop (.ListComp elt [⟨target,iter,ifs,0⟩] scope pos) 0 it acc env) R s:=by
 refine codeAny_loop rfl I (λn s hI=>?_) n h
 show wpAny _ A ((compTurn (.ListComp elt [⟨target,iter,ifs,0⟩] scope pos) 0 it acc env).onRaise (λx=>do noteFrame x env;theTreesLotGoes x)) _ _ s
 refine wpAny_noted ?_
 rw[compTurn_list]
 refine wpAny_bind (wpAny_standAt (wpAny_bind (wpAny_mono (turn n s hI) (λr sv h_h=>?_) λ_ _ h'=>h'.elim)))
 cases r with
 |none=>exact wpAny_pure h_h
 |some v=>
  refine wpAny_bind (wpAny_mono h_h (λ_ sh h₀=>?_) λ_ _ h'=>h'.elim)
  refine wpAny_bind (wpAny_mono h₀ (λ_ sy hhh=>wpAny_bind (wpAny_mono hhh (λok su hxx=>?_) λ_ _ h'=>h'.elim)) λ_ _ h'=>h'.elim)
  cases ok with
  |false=>exact wpAny_pure ⟨rfl,hxx⟩
  |true=>
   exact wpAny_bind (wpAny_bind (wpAny_mono hxx (λx sw h0h=>wpAny_bind (wpAny_mono h0h (λ_ s_h h0x=>wpAny_pure (wpAny_pure ⟨rfl,h0x⟩)) λ_ _ h'=>h'.elim)) λ_ _ h'=>h'.elim))
end
section
variable{K:PySem.W.Frag}{H_h H H':Hp}{O0 O O':Addr->Prop}{own:Nat->Option Addr}{e e':Nv}{σ:L2.St}
theorem Fm.updO(F:Fm K H_h O0 H O own e σ){ys zs:List V}(hO:O p)(hp:H p=some (.lst ys))(h0:H_h p=none)(hn:∀j,own j≠some p):Fm K H_h O0 (upd H p (.lst zs)) O own e σ where
 len:=F.len
 sl:=λj=>RS.map (λq=>q.upd hO hp) (λq=>q.upd hO hp) (λq=>q.updM hO hp trivial) (λq=>q.updM hO hp trivial) (λa ys ea _ q=>by
  have:a≠p:=λz=>hn j (z▸ea)
  rw[aG this];exact q) (F.sl j) (sY hO) (eF (K:=K) hO hp trivial).1
 inj:=F.inj
 same:=λb o hb=>by rw[aG (λz=>by rw[z,h0]at hb;cases hb)];exact F.same b o hb
 sub:=F.sub
 trk0:=F.trk0
 trk:=λa ha=>by
  by_cases h:a=p
  ·subst h;exact⟨_,bA⟩
  ·obtain⟨ys,q⟩:=F.trk a ha
   exact⟨ys,by rw[aG h];exact q⟩
 new:=F.new
 nw:=F.nw
theorem Fm.back(F:Fm K H_h O0 H O own e σ)(hl:e'.length=e.length)(h:∀j,e'.at j=.no\/e'.at j=e.at j):Fm K H_h O0 H O own e' σ where
 len:=hl.trans F.len
 sl:=λj=>by
  rcases h j with z|z
  ·rw[z];trivial
  ·rw[z];exact F.sl j
 inj:=F.inj
 same:=F.same
 sub:=F.sub
 trk0:=F.trk0
 trk:=F.trk
 new:=F.new
 nw:=λj d a h1 h2=>by
  rcases h j with z|z
  ·rw[z]at h1;cases h1
  ·rw[z]at h1;exact F.nw j d a h1 h2
theorem tU{e:Nv}(j:Nat):(fA n caps e).at j=.no\/∃k i,j=n+k/\caps[k]?=some i/\(fA n caps e).at j=e.at i:=by
 unfold fA
 by_cases hj:j<n
 ·left
  unfold Nv.at
  rw[jP (by rw[eB];exact hj),lV,if_pos hj];rfl
 ·cases q:caps[j-n]? with
  |none=>
   left
   unfold Nv.at
   rw[gE (by rw[eB];lia),eB,bX,q];rfl
  |some i=>
   right
   refine⟨j-n,i,by lia,q,?_⟩
   show(((aQ n Sl.no++caps.map λi=>e.at i))[j]?).getD .no=_
   rw[gE (by rw[eB];lia),eB,bX,q];rfl
theorem J7{l:List Nat}(h:l.Nodup){j k i:Nat}(h1:l[j]?=some i)(h2:l[k]?=some i):j=k:=by
 obtain⟨a,e1⟩:=cT.mp h1
 obtain⟨b,e2⟩:=cT.mp h2
 exact(Ni h).mp (e1.trans e2.symm)
theorem Fm.comp(F:Fm K H_h O0 H O own e σ)(n:Nat){caps:List Nat}(hc:caps.Nodup)(hp:H p=none){xs:List V} :
 ∃own',Fm K H_h O0 (upd H p (.lst xs)) (cW O p) own' (fA n caps e) (stC n caps σ)/\∀j,own' j≠some p:=by
 have np:∀j,own j≠some p:=λj q=>by
  obtain⟨ys,w⟩:=F.trk p (F.new j p q).1
  rw[hp]at w;cases w
 have sm:=bK hp (.lst xs)
 refine⟨λj=>if j<n then none else(caps[j-n]?).bind own,⟨?_,λj=>?_,λj k a h1 h2=>?_,F.same.trans sm,λa h=>.inl (F.sub a h),F.trk0,λa h=>?_,λj a h1=>?_,λj d a h1 h2=>?_⟩,λj h1=>?_⟩
 ·unfold fA stC
  simp
 ·rcases tU (n:=n) (caps:=caps) (e:=e) j with z|⟨k,i,rfl,hk,z⟩
  ·rw[z];trivial
  ·rw[z,if_neg (by lia),show n+k-n=k by lia,hk]
   have e1:bY (stC n caps σ) (n+k)=bY σ i:=by
    unfold stC
    unfold bY
    rw[gE (by rw[eB];lia),eB,bX,show n+k-n=k by lia,hk]
    rfl
   rw[e1]
   exact RS.map (λq=>(q.new hp).same sm) (λq=>(q.new hp).same sm) (λq=>(q.new hp).same sm) (λq=>(q.new hp).same sm) (λa ys _ _ q=>sm _ _ q) (F.sl i) (AC hp sm)
 ·by_cases hj:j<n
  ·rw[if_pos hj]at h1;cases h1
  ·by_cases hk:k<n
   ·rw[if_pos hk]at h2;cases h2
   ·rw[if_neg hj]at h1
    rw[if_neg hk]at h2
    cases q1:caps[j-n]? with
    |none=>rw[q1]at h1;cases h1
    |some i1=>
     cases q2:caps[k-n]? with
     |none=>rw[q2]at h2;cases h2
     |some i2=>
      rw[q1]at h1
      rw[q2]at h2
      have:=F.inj i1 i2 a h1 h2
      subst this
      have:=J7 hc q1 q2
      lia
 ·rcases h with h|h
  ·obtain⟨ys,q⟩:=F.trk a h
   exact⟨ys,sm _ _ q⟩
  ·subst h;exact⟨_,bA⟩
 ·by_cases hj:j<n
  ·rw[if_pos hj]at h1;cases h1
  ·rw[if_neg hj]at h1
   cases q1:caps[j-n]? with
   |none=>rw[q1]at h1;cases h1
   |some i1=>
    rw[q1]at h1
    exact⟨.inl (F.new i1 a h1).1,(F.new i1 a h1).2⟩
 ·rcases tU (n:=n) (caps:=caps) (e:=e) j with z|⟨k,i,rfl,hk,z⟩
  ·rw[z]at h1;cases h1
  ·rw[z]at h1
   refine F.nw i d a h1 ?_
   rw[<-h2]
   unfold stC
   unfold bY
   rw[gE (by rw[eB];lia),eB,bX,show n+k-n=k by lia,hk]
   rfl
 ·dsimp only at h1
  by_cases hj:j<n
  ·rw[if_pos hj]at h1;cases h1
  ·rw[if_neg hj]at h1
   cases q1:caps[j-n]? with
   |none=>rw[q1]at h1;cases h1
   |some i1=>
    rw[q1]at h1
    exact np i1 h1
noncomputable def G.below(n:Nat):G->Bool
 |.one i=>decide (i<n)
 |.many is=>is.all λi=>decide (i<n)
theorem Ah:∀{is:List Nat} {ds:List D} {e e':Nv},(is.all λi=>decide (i<n))=true->dY is ds e=.ok e'->e'.length=e.length/\∀j,n<=j->e'.at j=e.at j
 |[],[],e,e',_,h=>by rw[dY]at h;cases h;exact⟨rfl,λ_ _=>rfl⟩
 |[],_::_,_,_,_,h=>by simp only[dY]at h;cases h
 |_::_,[],_,_,_,h=>by simp only[dY]at h;cases h
 |i::is,d::ds,e,e',hb,h=>by
  rw[dY]at h
  rw[gP,aD]at hb
  obtain⟨h1,h2⟩:=Ah hb.2 h
  have hi:=of_decide_eq_true hb.1
  exact⟨by rw[h1,eQ],λj hj=>by rw[h2 j hj,gH (by lia)]⟩
theorem J8{g:G}{d:D}{e e':Nv}(hb:g.below n=true)(h:g.put d e=.ok e'):e'.length=e.length/\∀j,n<=j->e'.at j=e.at j:=by
 cases g with
 |one i=>
  have h:Res.ok (e.set i (.v d))=.ok e':=h
  cases h
  have hi:i<n:=of_decide_eq_true hb
  exact⟨eQ,λj hj=>gH (by lia)⟩
 |many is=>
  cases d with
  |tup ds=>exact Ah hb h
  |non=>cases h
  |bl _=>cases h
  |int _=>cases h
  |str _=>cases h
  |lst _=>cases h
  |dct _=>cases h
  |tdc _=>cases h
  |cnt _ _=>cases h
end
end Tr
namespace Tr
open PySem PySem.Spec PyProof.Rows L2
variable{O:Addr->Prop}{d:D}{H H':Hp}{ys zs:List V}{K:PySem.W.Frag}{v:V}
section
variable{T:Tab}{cf:Nat->List D->Res D}{X:Cx}{x y z:E}{p q r tg iter:Expr}{pos:Pos}
noncomputable def Src(K:PySem.W.Frag)(H:Hp)(O:Addr->Prop)(p:Addr)(d:D)(v:V):Prop:=RD K H O d v\/∃a,v=.ref a/\a≠p/\OwnAt K H O a d
theorem Src.rr{p:Addr}(h:Src K H O p d v):RR K H O d v:=by
 rcases h with z|⟨al,z1,z2,z3⟩
 ·exact .inl z
 ·exact .inr ⟨al,z1,z3⟩
theorem Src.same{p:Addr}(h:Src K H O p d v)(s:Same H H'):Src K H' O p d v:=by
 rcases h with z|⟨al,z1,z2,z3⟩
 ·exact .inl (z.same s)
 ·exact .inr ⟨al,z1,z2,z3.same s⟩
theorem Src.upd{p:Addr}(h:Src K H O p d v)(hO:O p)(hp:H p=some (.lst ys)):Src K (L2.upd H p (.lst zs)) O p d v:=by
 rcases h with z|⟨al,z1,z2,z3⟩
 ·exact .inl (z.upd hO hp)
 ·exact .inr ⟨al,z1,z2,z3.updM hO hp trivial z2⟩
noncomputable def PinS(K:PySem.W.Frag)(H:Hp)(O:Addr->Prop)(p:Addr):Pin->Prop
 |.dv d v=>Src K H O p d v
 |.fr a o u=>H a=some (.frz o u)
theorem PinS.rr{p:Addr}{t:Pin}(h:PinS K H O p t):lH K H O t:=by
 cases t with
 |dv d v=>exact Src.rr h
 |fr a o u=>exact h
theorem PinS.same{p:Addr}{t:Pin}(h:PinS K H O p t)(s:Same H H'):PinS K H' O p t:=by
 cases t with
 |dv d v=>exact Src.same h s
 |fr a o u=>exact s _ _ h
theorem PinS.upd{p:Addr}{t:Pin}(h:PinS K H O p t)(hO:O p)(hp:H p=some (.lst ys)):PinS K (L2.upd H p (.lst zs)) O p t:=by
 cases t with
 |dv d v=>exact Src.upd h hO hp
 |fr a o u=>
  have h:H a=some (.frz o u):=h
  show L2.upd H p (.lst zs) a=some (.frz o u)
  rw[aG (fK h hp (by intro z;cases z))];exact h
noncomputable def nS(ifs:List Expr)(cond:E)(P:Expr->Prop):Prop:=(ifs=[]/\cond=.con (.bl true))\/∃c,ifs=[c]/\P c
theorem Ai{n:Nat}{caps:List Nat}{g:G}{elt src cond:E}{pe:Expr}{ifs:List Expr}{scope:Scope}{Nc:List Str}(hc:X.calm=true)(S:ScopeC X scope)(P:CapsOk X scope n caps Nc)(hb:g.below n=true)
 (hplain:aX iter=true) (hsrc:SI T cf X tg src true iter)
 (body:∀C s2 H2 fp,(cxC X scope C Nc s2 H2 fp).Ok->SG (cxC X scope C Nc s2 H2 fp) g tg/\SE T cf (cxC X scope C Nc s2 H2 fp) elt pe/\nS ifs cond (ST T cf (cxC X scope C Nc s2 H2 fp) cond))
 {use:Option (Value->Sem Unit)} {H_h:Hp} {O0:Addr->Prop} {pins:List (Addr×Obj)} {s:Shared} {σ:L2.St} {H:Hp} {O:Addr->Prop} {own:Nat->Option Addr} {e:Nv} {d:D} {Q:Value->Shared->Prop} (I:Inv X pins σ H s) (F:Fm X.K H_h O0 H O own e σ)
 (ev:evE T cf (.comp n caps g elt src cond) e=.ok d)
 (fin:∀C s2 H2 Hi s' a,Inv X pins σ H2 s2->Same H H2->s2.heap.objs.size<C->(∀h',Heap.SameBut C s'.heap h'->Inv X pins σ Hi {s' with heap:=h' })->(∃m,s'.heap.Ns C m)->Hi C=none->Same H Hi->Fm X.K H_h O0 Hi O own e σ->RD X.K Hi O d (.ref a)->NewL X.K H Hi O d (.ref a)->a≠C ->
  compPost (model X.prog X.w) X.A X.xe use Q (.ref a) C (.ok .next) s') :
 wpAny (model X.prog X.w) X.A (comprehension (.ListComp pe [⟨tg,iter,ifs,0⟩] scope pos) scope X.env (firstIterPos [⟨tg,iter,ifs,0⟩] pos) (newList []) false (eval iter X.env) use) Q X.xe s:=by
 (first|rw[sO]at ev|rw[nB]at ev|rw[zG]at ev)
 obtain⟨ds,e1,ev⟩:=Res.bind_ok ev
 obtain⟨ys,e2,ev⟩:=Res.bind_ok ev
 obtain⟨cz,ev⟩:=aS ev
 cases ev
 have hz:=of_decide_eq_true cz
 refine wpAny_comprehension_free rfl (AR hplain) (J4 (S.cells I.ok)) S.kind S.names ?_
 refine thn (hsrc H_h O0 pins s σ H (λJ H2=>∃srs,Same H H2/\(∀t∈srs,lH X.K H2 O t)/\Wk X.K J srs ds) I ⟨O,own,e,ds,F,e1,λJ H' srs s' rr _ wk=>⟨srs,s',rr,wk⟩⟩) λv s1 h1=>thn h1 λitv s2 h2=>?_
 obtain⟨it,fp,tn,J,H2,rfl,I2,Tn,tn0,hfp,srs,s12,rr0,wk⟩:=h2
 refine wpAny_newObj_type (wpAny_newFunctionEnv S.cell (by intro y hy;simp at hy) (λh_h hns1 hsb1=>?_) S.kind)
 dsimp only at hns1 hsb1⊢
 generalize hH2:s2.heap.push {cls:=.type "list", dict:=none,data:=.seq ([]:List Value).toArray}=HP at hns1 hsb1⊢
 have hC:HP.objs.size=s2.heap.objs.size+1:=by rw[<-hH2,Heap.size_push]
 have hCl:s2.heap.objs.size<HP.objs.size:=by rw[hC];exact oH _
 have below:∀b,b<s2.heap.objs.size->b≠HP.objs.size:=λb hb=>by rw[hC];exact cE (Nat.lt_succ_of_lt hb)
 have old:∀b o,s2.heap.get? b=some o->h_h.get? b=some o:=λb o e=>hsb1.extBut b o (below b (Heap.lt_size e)) (Heap.get?_push_of_some _ (hH2▸Heap.get?_push_of_some _ e))
 have hacc:h_h.get? s2.heap.objs.size=some {cls:=.type "list", data:=.seq #[] }:=hsb1.extBut _ _ (cE hCl) (Heap.get?_push_of_some _ (hH2▸Heap.get?_push_size _ rfl))
 have hfo:∀b∈fp,b<s2.heap.objs.size:=λb hb=>let ⟨o,q,_⟩:=Tn.obj 0 _ tn0 b hb;Heap.lt_size q
 have ok:=cxC_ok (Nc:=Nc) I2 S hfp hfo (kM hCl)
 have fr:H2 s2.heap.objs.size=none:=I2.hok.fresh (aK _)
 have F2:=F.grow s12
 obtain⟨ownc,Fc,nown⟩:=F2.comp n (caps:=caps) P.nd fr (xs:=[])
 obtain⟨bg,be,bt⟩:=body HP.objs.size s2 H2 fp ok
 have I0:=invC (t1:=s2.toks+([]:List (Str×Value)).length) (fp:=fp) I2 S P ok old hCl (by simpa using hns1) hacc
 have fpn:∀{Hi:Hp} {pins':List (Addr×Obj)},(∀b∈fp,Hi b=none)->(∀b∈fp,∀p∈pins',p.1≠b)->∀b∈fp,gS (cxC X scope HP.objs.size Nc s2 H2 fp) pins' Hi b:=λhn hpp b hb=>by
  refine⟨hn b hb,(ok.exf b hb).1,ok.exfs b hb,.inl hb,(ok.exf b hb).2,λp hp=>hpp b hb p (by simpa[cxC]using hp)⟩
 let f : D → Res (Option D) := fun d => do
     let e1<-g.put d (fA n caps e)
     let c<-evE T cf cond e1
     let k<-c.truth
     if k then do let y<-evE T cf elt e1;.ok (some y)else .ok none
 have loop:∀su:Shared,su={s2 with heap:=h_h,toks:=s2.toks+([]:List (Str×Value)).length} ->
  codeAny (model X.prog X.w) X.A (.compLoop (.ListComp pe [⟨tg,iter,ifs,0⟩] scope pos) 0 (.ref it) (.ref s2.heap.objs.size) (compEnvC scope (eI X.env.cells scope.names []) HP.objs.size X.env))
   (compPost (model X.prog X.w) X.A X.xe use Q (.ref s2.heap.objs.size) HP.objs.size) su:=by
  rintro su rfl
  refine J6 (λk s'=>∃i σi Hi own' as bs,k=ds.length+1-i/\i<=ds.length/\Inv (cxC X scope HP.objs.size Nc s2 H2 fp) [] σi Hi s'/\tn i s'.heap/\(∀b∈fp,Hi b=none)/\Same H2 Hi /\
   Fm X.K H_h O0 Hi (cW O s2.heap.objs.size) own' (fA n caps e) σi/\(∀j,own' j≠some s2.heap.objs.size)/\bR f (ds.drop i)=.ok bs/\ys=as++bs/\as.length<=i /\
   (∃xs,Hi s2.heap.objs.size=some (.lst xs)/\RDs X.K Hi (cW O s2.heap.objs.size) as xs)/\∀t∈srs,PinS X.K Hi (cW O s2.heap.objs.size) s2.heap.objs.size t) ?_ (ds.length+1) ?_
  ·rintro k s' ⟨i,σi,Hi,own',as,bs,rfl,hi,Ii,tni,fri,smi,Fi,noi,evd,rfl,hal,⟨xs,hx,wx⟩,rri⟩
   have stat:∀b∈fp,gS (cxC X scope HP.objs.size Nc s2 H2 fp) [] Hi b:=fpn fri (λb _ p hp=>by cases hp)
   obtain⟨w1,w2,w3⟩:=wk i Hi (cW O s2.heap.objs.size) λt ht=>(rri t ht).rr
   by_cases hlt:i<ds.length
   ·refine thn (Tn.item (cxC X scope HP.objs.size Nc s2 H2 fp) rfl rfl rfl hc i [] s' σi Hi (λ_ _=>False) Ii stat tni (w1 hlt)) λr s4 ⟨u,hr,h4⟩=>?_
    subst hr
    refine thn h4 λ_ s5 ⟨v,H5,I5,r5,y5,tn5,fr5⟩=>?_
    obtain⟨s35,rv⟩:=w3 v H5 _ (aP hlt) y5
    have I5':=I5.pinned (fpn fr5 (λb _ p hp=>by cases hp)) (Tn.obj _ _ tn5)
    rw[xB hlt,bR]at evd
    obtain⟨o,ef,evd⟩:=Res.bind_ok evd
    obtain⟨b',eb,evd⟩:=Res.bind_ok evd
    obtain⟨e3,ep,ef⟩:=Res.bind_ok ef
    obtain⟨dc,ec,ef⟩:=Res.bind_ok ef
    obtain⟨kc,et,ef⟩:=Res.bind_ok ef
    have F5:=Fi.grow s35
    refine thn (bg H_h O0 _ s5 σi H5 v u (λσ' H'=>H'=H5/\∃own'',Fm X.K H_h O0 H5 (cW O s2.heap.objs.size) own'' e3 σ'/\∀j,own'' j≠some s2.heap.objs.size) I5' r5 ⟨_,own',_,_,e3,F5,rv,ep,λσ' own'' hle F'=>⟨rfl,own'',F',λj q=>noi j (hle j _ q)⟩⟩) λ_ s6 ⟨σ6,H6,I6,q6⟩=>?_
    obtain⟨rfl,own6,F6,no6⟩:=q6
    have tests:wpAny (model X.prog X.w) X.A (forIn ifs true λc r=>if r=true then do let ok<-isTrue c (compEnvC scope (eI X.env.cells scope.names []) HP.objs.size X.env) (eval c (compEnvC scope (eI X.env.cells scope.names []) HP.objs.size X.env));pure (ForInStep.yield ok)else pure (ForInStep.yield r))
     (λok s7=>ok=kc/\∃H7,Inv (cxC X scope HP.objs.size Nc s2 H2 fp) ([]++kT fp s5.heap) σ6 H7 s7/\Same H6 H7) (λ_ _=>False) s6:=by
     rcases bt with⟨hi0,hc0⟩|⟨c0,hi0,st0⟩
     ·subst hi0 hc0
      (first|rw[sO]at ec|rw[nB]at ec|rw[zG]at ec);cases ec;cases et
      exact wpAny_tests_nil ⟨rfl,H6,I6,Same.refl _⟩
     ·subst hi0
      refine wpAny_tests_one (thn (st0 H_h O0 _ s6 σ6 H6 (λb H'=>b=kc/\Same H6 H') I6 ⟨_,own6,e3,dc,kc,F6,ec,et,λH' s=>⟨rfl,s⟩⟩) λb s7 ⟨H7,I7,q1,q2⟩=>⟨q1,H7,I7,q2⟩)
    refine thn tests λok s7 ⟨hok,H7,I7,s57⟩=>?_
    subst hok
    have F7:=F6.grow s57
    obtain⟨pl1,pl2⟩:=J8 hb ep
    have bk:∀j,(fA n caps e).at j=.no\/(fA n caps e).at j=e3.at j:=λj=>by
     by_cases hj:n<=j
     ·exact .inr (pl2 j hj).symm
     ·rcases tU (n:=n) (caps:=caps) (e:=e) j with z|⟨k,i,rfl,_,_⟩
      ·exact .inl z
      ·exact absurd (OA n k) hj
    have keepT:∀{H8:Hp} {s8:Shared} {σ8:L2.St},Inv (cxC X scope HP.objs.size Nc s2 H2 fp) ([]++kT fp s5.heap) σ8 H8 s8->tn (i+1) s8.heap/\∀b∈fp,H8 b=none:=λI8=>
     ⟨Tn.keep _ _ _ tn5 λb hb o q=>(I8.pin (b,o) (fT _ (fT _ (oU hb q)))).1,λb hb=>by
      obtain⟨o,q,_⟩:=Tn.obj _ _ tn5 b hb
      exact(I8.pin (b,o) (fT _ (fT _ (oU hb q)))).2.1⟩
    cases ok with
    |false=>
     rw[if_neg aJ]at ef⊢
     cases ef
     cases evd
     obtain⟨t1,t2⟩:=keepT I7
     exact⟨ds.length+1-(i+1),by lia,i+1,σ6,H7,own6,as,bs,rfl,hlt,I7.unpinned,t1,t2,smi.trans (s35.trans s57),F7.back pl1.symm bk,no6,eb,rfl,OB hal,⟨xs,s57 _ _ (s35 _ _ hx),(wx.same s35).same s57⟩,λt ht=>((rri t ht).same s35).same s57⟩
    |true=>
     rw[if_pos rfl]at ef⊢
     obtain⟨dy,ey,ef⟩:=Res.bind_ok ef
     cases ef
     cases evd
     refine thn (be H_h O0 _ s7 σ6 H7 (λv H'=>Same H7 H'/\RD X.K H' (cW O s2.heap.objs.size) dy v) I7 ⟨_,own6,e3,dy,F7,ey,λv H' s r _=>⟨s,r⟩⟩) λwv s8 ⟨vy,H8,I8,r8,s78,rd8⟩=>?_
     have sm8:=s35.trans (s57.trans s78)
     have hx8:=sm8 _ _ hx
     have F8:=F7.grow s78
     have wx8:=wx.same sm8
     have h0:H_h s2.heap.objs.size=none:=(F.same.trans s12).free fr
     refine thn (yN (X:=cxC X scope HP.objs.size Nc s2 H2 fp) _ s8 σ6 H8 (.ref s2.heap.objs.size) [vy] (.ref s2.heap.objs.size) [wv] (λ_ H'=>H'=upd H8 s2.heap.objs.size (.lst (xs++[vy]))) I8 rfl (.cons r8 .nil) ⟨_,xs,vy,rfl,rfl,hx8,by rw[wx.length,<-fO];lia,rfl⟩) λ_ s9 ⟨v9,H9,I9,r9,e9⟩=>?_
     subst e9
     obtain⟨t1,t2⟩:=keepT I9
     have smU:Same H2 (upd H8 s2.heap.objs.size (.lst (xs++[vy]))):=λb o q=>by
      rw[aG (cV q fr)]
      exact sm8 _ _ (smi _ _ q)
     refine⟨ds.length+1-(i+1),by lia,i+1,σ6,_,own6,as++[dy],b',rfl,hlt,I9.unpinned,t1,t2,smU,(F8.updO (.inr rfl) hx8 h0 no6).back pl1.symm bk,no6,eb,by simp,?_,⟨xs++[vy],bA,?_⟩,λt ht=>((rri t ht).same sm8).upd (.inr rfl) hx8⟩
     ·rw[bB,gO];lia
     ·exact(wx8.append (RDs.cons rd8 RDs.nil)).upd (.inr rfl) hx8
   ·have hii:i=ds.length:=by lia
    subst hii
    refine thn (Tn.done (cxC X scope HP.objs.size Nc s2 H2 fp) rfl rfl rfl hc _ [] s' σi Hi (λ_ _=>False) Ii stat tni (w2 (aK _))) λr s4 ⟨hr,I4⟩=>?_
    subst hr
    rw[Ny,bR]at evd
    cases evd
    have nO:¬O s2.heap.objs.size:=λz=>by
     obtain⟨o,q⟩:=F2.trk _ z
     rw[fr]at q;cases q
    refine fin HP.objs.size s2 H2 Hi s4 s2.heap.objs.size I2 s12 hCl (λh' sb=>outC I2 I4 hfp (kM hCl) sb) ?_ I4.free (s12.trans smi) (F.grow (s12.trans smi)) ?_ ?_ (cE hCl)
    ·obtain⟨m,hn,_⟩:=I4.loc
     exact⟨m,hn⟩
    ·exact⟨_,xs,rfl,.inl ⟨nO,.inl hx⟩,by rw[gN];exact wx.weak λ_ z=>.inl z⟩
    ·exact λ_=>⟨_,rfl,s12.free fr,xs,hx,by rw[gN];exact wx⟩
  ·refine⟨0,_,_,ownc,[],ys,rfl,fU _,I0,Tn.keep _ _ _ tn0 λb _ o q=>old b o q,λb hb=>?_,bK fr _,Fc,nown,by simpa using e2,rfl,aK _,⟨[],bA,rfl⟩,?_⟩
   ·rw[aG (cE (hfo b hb))];exact(hfp b hb).1
   ·intro t ht
    have r0:=rr0 t ht
    cases t with
    |fr a o u=>exact bK fr _ _ _ r0
    |dv d0 v0=>
     rcases r0 with z|⟨al,z1,z2⟩
     ·exact .inl ((z.new fr).same (bK fr _))
     ·obtain⟨ob,hob,_⟩:=z2.obj
      exact .inr ⟨al,z1,cV hob fr,(z2.new fr).same (bK fr _)⟩
 exact codeAny_compStart_list (loop _ rfl) (Tn.self _ 0 _ _ _ (Tn.keep _ _ _ tn0 λb _ o q=>old b o q) (loop _ rfl))
end
end Tr
namespace Tr
open PySem PySem.Spec PyProof.Rows L2
variable{a:Addr}{es:List Expr}{kk:Nat}{K:PySem.W.Frag}
section
variable{T:Tab}{cf:Nat->List D->Res D}{X:Cx}{x y z:E}{p q r tg iter:Expr}{pos pos' pos'':Pos}
theorem Aj{n:Nat}{caps:List Nat}{g:G}{elt src cond:E}{pe:Expr}{ifs:List Expr}{scope:Scope}{Nc:List Str}(hc:X.calm=true)(S:ScopeC X scope)(P:CapsOk X scope n caps Nc)(hb:g.below n=true)
 (hplain:aX iter=true) (hsrc:SI T cf X tg src true iter)
 (body:∀C s2 H2 fp,(cxC X scope C Nc s2 H2 fp).Ok->SG (cxC X scope C Nc s2 H2 fp) g tg/\SE T cf (cxC X scope C Nc s2 H2 fp) elt pe/\nS ifs cond (ST T cf (cxC X scope C Nc s2 H2 fp) cond)) :
 SE T cf X (.comp n caps g elt src cond) (.ListComp pe [⟨tg,iter,ifs,0⟩] scope pos):=by
 intro H_h O0 pins s σ H Q I ⟨O,own,e,d,F,ev,k⟩
 rw[eval_ListComp]
 refine Ai (use:=none) hc S P hb hplain hsrc body I F ev ?_
 intro C s2 H2 Hi s' a I2 s12 hC hI ns hn sm Fi rd nl hne
 obtain⟨m,ns⟩:=ns
 exact⟨m,ns,λh' sb=>⟨.ref a,Hi,hI h' sb,rfl,k _ Hi sm rd λ_=>nl⟩⟩
theorem J9{i:Nat}{nm:Str}{n:Nat}{caps:List Nat}{g:G}{elt src cond:E}{pe:Expr}{ifs:List Expr}{scope:Scope}{Nc:List Str}(hN:X.N.Nodup)(hi:X.N[i]?=some nm)(hl:Loc X.env.scope nm)(hf:X.fn nm=true\/X.env.scope.names.lookup nm=some .local)
 (hsw:swapsWith (.ListComp pe [⟨tg,iter,ifs,0⟩] scope pos) (some (.Name nm pos')) pos''.line X.env=pure true)
 (hc:X.calm=true) (S:ScopeC X scope) (P:CapsOk X scope n caps Nc) (hb:g.below n=true)
 (hplain:aX iter=true) (hsrc:SI T cf X tg src true iter)
 (body:∀C s2 H2 fp,(cxC X scope C Nc s2 H2 fp).Ok->SG (cxC X scope C Nc s2 H2 fp) g tg/\SE T cf (cxC X scope C Nc s2 H2 fp) elt pe/\nS ifs cond (ST T cf (cxC X scope C Nc s2 H2 fp) cond)) :
 ∀H_h O0,PS X (.Assign [.Name nm pos'] (.ListComp pe [⟨tg,iter,ifs,0⟩] scope pos) pos'') (λD' σ H=>∃O own e d,Fm X.K H_h O0 H O own e σ/\evE T cf (.comp n caps g elt src cond) e=.ok d/\∀v H',Same H H'->RD X.K H' O d v->NewL X.K H H' O d v->D'.nx (σ.set i (some v)) H'):=by
 intro H_h O0 pins s σ H D' I ⟨O,own,e,d,F,ev,k⟩
 rw[exec_Assign_Name_used _ _ _ _ hsw]
 refine wpAny_bind (wpAny_standAt (wpAny_bind ?_))
 show wpAny _ X.A (do let _<-comprehension (.ListComp pe [⟨tg,iter,ifs,0⟩] scope pos) scope X.env _ (newList []) false (eval iter X.env) (some (assign (.Name nm pos') X.env))) _ _ s
 refine wpAny_bind (wpAny_mono (Ai (use:=some (assign (.Name nm pos') X.env)) (Q:=λ_ s'=>SP X pins D' .next s') hc S P hb hplain hsrc body I F ev ?_) (λ_ s' hq=>wpAny_pure (wpAny_pure hq)) λ_ _ e=>e)
 intro C s2 H2 Hi s' a I2 s12 hC hI ns hn sm Fi rd nl hne
 obtain⟨m,ns⟩:=ns
 have I':Inv X pins σ Hi s':=by
  have:=hI s'.heap (.refl ..)
  exact this
 show wpAny _ X.A (assign (.Name nm pos') X.env (.ref a)) _ _ _
 refine wpAny_assign_Name (xP (v:=.ref a) I' hN hi hl rfl (λs'' I'' ⟨a0,sb,ha0⟩=>?_) hf)
 have lt0:a0<s2.heap.objs.size:=by
  rcases ha0 with z|z
  ·rw[z];exact I2.lt
  ·obtain⟨v,w⟩:=I2.cell nm a0 z
   exact w.lt
 have neC:C≠a0:=wX (rK lt0 hC)
 refine⟨m,ns.sameBut sb neC,λh' sb'=>?_⟩
 refine⟨σ.set i (some (.ref a)),Hi,?_,k _ Hi sm rd nl⟩
 refine I''.turned (t':=s''.toks) (it:=C) (λb o hb' e=>(sb'.2 b hb').trans e) hn (wX (rK I2.lt hC)) (.inr (cG I2.sz (kM hC))) (λx c e z=>?_) (λp hp z=>?_)
 ·obtain⟨v,w⟩:=I2.cell x c e
  exact absurd (rK w.lt hC) (by rw[z];exact jN _)
 ·exact absurd (rK (Heap.lt_size (I2.pin p hp).1) hC) (by rw[z];exact jN _)
theorem J_{i:Nat}{nm:Str}{n:Nat}{caps:List Nat}{g:G}{elt src cond:E}{pe:Expr}{ifs:List Expr}{scope:Scope}{Nc:List Str}(hN:X.N.Nodup)(hi:X.N[i]?=some nm)(hl:Loc X.env.scope nm)(hf:X.fn nm=true\/X.env.scope.names.lookup nm=some .local)
 (hc:X.calm=true) (S:ScopeC X scope) (P:CapsOk X scope n caps Nc) (hb:g.below n=true)
 (hplain:aX iter=true) (hsrc:SI T cf X tg src true iter) (o:Bool)
 (body:∀C s2 H2 fp,(cxC X scope C Nc s2 H2 fp).Ok->SG (cxC X scope C Nc s2 H2 fp) g tg/\SE T cf (cxC X scope C Nc s2 H2 fp) elt pe/\nS ifs cond (ST T cf (cxC X scope C Nc s2 H2 fp) cond)) :
 SS T cf X (if o then .asgO i (.comp n caps g elt src cond)else .asg (.one i) (.comp n caps g elt src cond)) (.Assign [.Name nm pos'] (.ListComp pe [⟨tg,iter,ifs,0⟩] scope pos) pos''):=by
 intro H_h O0
 have main:PS X (.Assign [.Name nm pos'] (.ListComp pe [⟨tg,iter,ifs,0⟩] scope pos) pos'') (λD' σ H=>∃O own e d,Fm X.K H_h O0 H O own e σ/\evE T cf (.comp n caps g elt src cond) e=.ok d/\∀v H',Same H H'->RD X.K H' O d v->NewL X.K H H' O d v->D'.nx (σ.set i (some v)) H'):=by
  have hsw:∃b:Bool,swapsWith (.ListComp pe [⟨tg,iter,ifs,0⟩] scope pos) (some (.Name nm pos')) pos''.line X.env=pure b:=⟨_,rfl⟩
  obtain⟨b,hsw⟩:=hsw
  cases b with
  |true=>exact J9 hN hi hl hf hsw hc S P hb hplain hsrc body H_h O0
  |false=>
   refine PS.imp (λD' σ H hq=>?_) (mL hN hi hl (Aj hc S P hb hplain hsrc body H_h O0) hsw hf)
   obtain⟨O,own,e,d,F,ev,k⟩:=hq
   exact⟨O,own,e,d,F,ev,λv H' s' r n=>k v H' s' r (n rfl)⟩
 refine PS.imp (λD' σ H hq=>?_) main
 obtain⟨ts,e,out,⟨O,own,F,tt⟩,ev,k⟩:=hq
 cases o with
 |true=>
  rw[if_pos rfl]at ev
  (first|rw[pD]at ev|rw[pE]at ev)
  obtain⟨d,e1,ev⟩:=Res.bind_ok ev
  split at ev
  ·obtain⟨c,ev⟩:=aS ev
   cases ev
   refine⟨O,own,e,_,F,e1,λv H' s' r n=>?_⟩
   obtain⟨p,rfl,h2,h3⟩:=n rfl
   exact k _ H' ⟨_,_,F.setO s' i h2 h3,λt ht=>((tt t ht).new h2).same s'⟩
  ·obtain⟨c,ev⟩:=aS ev
   cases ev
   refine⟨O,own,e,_,F,e1,λv H' s' r n=>?_⟩
   obtain⟨p,rfl,h2,h3⟩:=n rfl
   exact k _ H' ⟨_,_,F.setO s' i h2 h3,λt ht=>((tt t ht).new h2).same s'⟩
  ·obtain⟨c,ev⟩:=aS ev
   cases ev
   refine⟨O,own,e,_,F,e1,λv H' s' r n=>?_⟩
   obtain⟨p,rfl,h2,h3⟩:=n rfl
   exact k _ H' ⟨_,_,F.setO s' i h2 h3,λt ht=>((tt t ht).new h2).same s'⟩
  ·cases ev
 |false=>
  rw[if_neg aJ]at ev
  (first|rw[pD]at ev|rw[pE]at ev)
  obtain⟨d,e1,ev⟩:=Res.bind_ok ev
  obtain⟨e2,e3,ev⟩:=Res.bind_ok ev
  cases ev
  cases e3
  exact⟨O,own,e,d,F,e1,λv H' s' r n=>k _ H' ⟨O,_,(F.grow s').setV i r,λt ht=>(tt t ht).same s'⟩⟩
theorem Ak{pins:List (Addr×Obj)}{σ:L2.St}{H:Hp}{s:Shared}{h':Heap}{t':Nat}{a b:Addr}(I:Inv X pins σ H s)(k:∀c o,c≠a->c≠b->s.heap.get? c=some o->h'.get? c=some o)(na:H a=none)(nb:H b=none)
 (fa:a≠X.env.locals/\(a∈X.ex\/X.sh.heap.objs.size<=a)/\(∀x c,X.env.cells.lookup x=some c->c≠a)/\∀p∈X.pn++pins,p.1≠a)
 (fb:b≠X.env.locals/\(b∈X.ex\/X.sh.heap.objs.size<=b)/\(∀x c,X.env.cells.lookup x=some c->c≠b)/\∀p∈X.pn++pins,p.1≠b):Inv X pins σ H {s with heap:=h',toks:=t' }:=by
 have nn:∀c u,H c=some u->c≠a/\c≠b:=λc u e=>⟨λz=>(by rw[z,na]at e;cases e),λz=>(by rw[z,nb]at e;cases e)⟩
 have no2:∀{c},c∉[a,b]->c≠a/\c≠b:=λhc=>⟨λz=>hc (by simp[z]),λz=>hc (by simp[z])⟩
 refine I.step (g':=s.gens) (d':=s.drawn) (ch:=[a,b]) (λc hc=>?_) (λc o _ _ hc e _=>k c o (no2 hc).1 (no2 hc).2 e) (λc o _ _ hc e _=>⟨o.slots,k c o (no2 hc).1 (no2 hc).2 e⟩) (λ_ _ _ _ n=>n)
  (λc o hc e=>⟨o,k c o (no2 hc).1 (no2 hc).2 e⟩) (λ_ _ e=>e) (λ_ _ _ e=>e) (λb ps e=>⟨#[],by rw[e];simp⟩) (λm hm=>?_) (λc u e=>?_) I.bare
 ·rcases bU.mp hc with rfl|hc
  ·exact⟨fa.2.1,fa.1,fa.2.2.1,fa.2.2.2⟩
  ·have e:c=b:=by simpa using hc
   subst e
   exact⟨fb.2.1,fb.1,fb.2.2.1,fb.2.2.2⟩
 ·obtain⟨o,es,ep,ho,r⟩:=hm
  exact⟨o,es,ep,k _ o (Ne.symm fa.1) (Ne.symm fb.1) ho,r⟩
 ·refine(I.hok c u e).stay (λc' v hc q=>?_) (λ_ q=>q) (λ_ _ q=>q) λ_ _ _ q=>q
  have:c'≠a/\c'≠b:=by
   rcases hc with z|z
   ·rw[z];exact nn c u e
   ·exact nn c' _ z
  exact k c' v this.1 this.2 q
noncomputable def Ite(K:PySem.W.Frag)(a:Addr):It:=
 ⟨λi H=>∃xs x,SqL K H a xs/\xs[i]?=some x,λi H x H'=>∃p y,H p=none/\x=.ref p/\H'=upd H p (.tup [.int i,y])/\∀xs,SqL K H a xs->xs[i]?=some y,λi H=>∃xs,SqL K H a xs/\xs.length<=i⟩
theorem Ja{Pg:Program}{w:World}{pos:Pos}(a en it:Addr)(hne:en≠it):Turn Pg w K (.Tuple es kk pos) (Ite K a) [en,it] en (λi h=>∃old,IsEnum h en it i old/\h.IsListIter it a i) where
 mem:=by simp
 obj:=λi h st b hb=>by
  obtain⟨old,st1,o,e,c,d⟩:=st
  rcases bU.mp hb with rfl|hb
  ·exact⟨_,st1,λv z=>by
    have z':Data.fields _=Data.cell v:=z
    cases z'⟩
  ·have e':b=it:=by simpa using hb
   subst e'
   exact⟨o,e,λv z=>by rw[d]at z;cases z⟩
 keep:=λi h h' st k=>by
  obtain⟨old,st1,st2⟩:=st
  exact⟨old,k en (by simp) _ st1,st2.at λo e=>k it (by simp) o e⟩
 item:=by
  intro X hP hw hK hc i pins s σ H E I hf st hg
  subst hP hw hK
  obtain⟨xs,x,hq,hx⟩:=hg
  obtain⟨old,st1,st2⟩:=st
  obtain⟨its,rv,p,hz⟩:=I.list hq
  obtain⟨u,hu,ru⟩:=rv.get hx
  obtain⟨f0,f1,f2,f3,f4,f5⟩:=hf en (by simp)
  obtain⟨g0,g1,g2,g3,g4,g5⟩:=hf it (by simp)
  refine wpAny_pyNext_enum_item st1 st2 p.isList (x:=u) (by simpa using hu) hne λh_h heo hit1 ht1 hz1 hkh=>?_
  refine⟨_,rfl,wpAny_letOwnedTupleGo_enum heo λhhh he2 hsx=>?_⟩
  replace hsx:Heap.SameBut en h_h hhh:=hsx
  have enl:en<s.heap.objs.size:=Heap.lt_size st1
  have itl:it<s.heap.objs.size:=by
   obtain⟨o,q,_⟩:=id st2
   exact Heap.lt_size q
  have fr:H s.heap.objs.size=none:=I.hok.fresh (aK _)
  have hm:∃hm:Heap,hm=s.heap.push {cls:=.type "tuple", data:=.seq #[.int i s.toks,u] }:=⟨_,rfl⟩
  obtain⟨hm,ehm⟩:=hm
  have I1:Inv X pins σ (upd H s.heap.objs.size (.tup [.int i,x])) {s with heap:=hm}:=by
   rw[ehm]
   refine I.laid (t':=s.toks) (λb o q=>Heap.get?_push_of_some _ q) (aK _) ?_
   exact⟨by show 2<=sizeLine;decide,[.int i s.toks,u],.cons ⟨_,rfl⟩ (.cons ru .nil),⟨_,Heap.get?_push_size _ rfl,rfl,_,rfl⟩⟩
  have kept:∀b o,b≠en->b≠it->hm.get? b=some o->hhh.get? b=some o:=λb o hb1 hb2 q=>by
   refine(hsx.2 b hb1).trans ?_
   rw[ehm]at q
   rcases Heap.get?_push_cases q with⟨e1,e2⟩|q
   ·rw[e1,e2];exact ht1
   ·exact hkh b o hb1 hb2 q
  have up:∀{c:Addr},c<s.heap.objs.size->H c=none->upd H s.heap.objs.size (.tup [.int i,x]) c=none:=λhl hn=>by rw[aG (cE hl)];exact hn
  have I2:Inv X pins σ (upd H s.heap.objs.size (.tup [.int i,x])) {s with heap:=hhh,toks:=s.toks+1}:=Ak (s:={s with heap:=hm}) (t':=s.toks+1) I1 kept (up enl f0) (up itl g0) ⟨f1,f3,f4,f5⟩ ⟨g1,g3,g4,g5⟩
  refine⟨.ref s.heap.objs.size,_,I2,rfl,⟨_,x,fr,rfl,rfl,λys hy=>by rw[I.list_inj hy hq];exact hx⟩,⟨u,?_,hit1.extBut hsx.extBut (Ne.symm hne)⟩,λb hb=>?_⟩
  ·have:((i+1:Nat):Int)=(i:Int)+1:=by push_cast;rfl
   rw[this];exact he2
  ·rcases bU.mp hb with rfl|hb
   ·exact up enl f0
   ·have e':b=it:=by simpa using hb
    subst e'
    exact up itl g0
 done:=by
  intro X hP hw hK hc i pins s σ H E I hf st hg
  subst hP hw hK
  obtain⟨xs,hq,hx⟩:=hg
  obtain⟨old,st1,st2⟩:=st
  obtain⟨its,rv,p,hz⟩:=I.list hq
  obtain⟨g0,g1,g2,g3,g4,g5⟩:=hf it (by simp)
  have hl:=rv.length
  exact wpAny_pyNext_enum_end (I.ok.hd hc) st1 st2 p.isList (by simp;lia) λh' eb=>⟨rfl,I.turned (t':=s.toks) (λb o hb e=>eb b o hb e) g0 g1 g3 g4 g5⟩
 self:=λ_ _ _ _ _ st h=>by
  obtain⟨old,st1,_⟩:=st
  exact wpAny_pyIter_enum st1 h
theorem Al {h:Heap} {b:Addr} {its:Array Value} {o:Obj} (ht:h.IsTuple a its) (ho:h.get? b=some o) (hc:o.cls≠.type "tuple"):a≠b:=λe=>by
 subst e
 obtain⟨o',h1,h2,_⟩:=ht
 rw[ho]at h1;cases h1
 exact hc h2
theorem enumD_len(k:Int):∀ds:List D,(bJ k ds).length=ds.length
 |[]=>rfl
 |d::ds=>by rw[bJ,aN,aN,enumD_len (k+1) ds]
theorem tV:∀(k:Int)(ds:List D)(i:Nat)(d:D),ds[i]?=some d->(bJ k ds)[i]?=some (.tup [.int (k+i),d])
 |k,[],i,d,h=>by simp at h
 |k,d0::ds,0,d,h=>by simp at h;subst h;rw[bJ];simp
 |k,d0::ds,i+1,d,h=>by
  rw[bJ,FN,tV (k+1) ds i d (by simpa using h)]
  congr 4
  push_cast
  lia
theorem Jb{ds:List D}:Wk1 K (Ite K a) (.lst ds) (.ref a) (bJ 0 ds):=by
 intro i H O r
 obtain⟨a',xs,e,q,w⟩:=r.lst
 cases e
 have hl:=w.length
 rw[enumD_len]
 refine⟨λh=>?_,λh=>⟨xs,q,by lia⟩,λx H' d hd y=>?_⟩
 ·obtain⟨v,h1,h2⟩:=w.get (aP h)
  exact⟨xs,v,q,h1⟩
 ·obtain⟨p,yv,hp,rfl,rfl,hy⟩:=y
  refine⟨bK hp _,?_⟩
  have hi:i<ds.length:=by
   have:=(cT.mp hd).1
   rwa [enumD_len]at this
  obtain⟨v,h1,h2⟩:=w.get (aP hi)
  have:=(hy xs q).symm.trans h1
  cases this
  rw[tV 0 ds i _ (aP hi)]at hd
  cases hd
  refine kB (RDs.cons ?_ (RDs.cons h2 RDs.nil)) hp
  show V.int (i:Int)=V.int (0+(i:Int))
  rw[jT]
theorem Jc {rd:Bool} {n:Str} {pn:Pos} {tpos:Pos} (hn:n = "enumerate") (hg:Gl X n) (hm:X.mg "enumerate" = none) (hp:aX p=true) (ha:SR T cf X x p) (hv:rd=false->SE T cf X x p) :
 SI T cf X (.Tuple es kk tpos) (.enum x) rd (.Call (.Name n pn) [p] [] pos):=by
 intro H_h O0 pins s σ H R I h
 subst hn
 obtain⟨O,own,e,ds,F,ev,k⟩:=h
 replace k:=nQ k
 rw[zJ]at ev
 obtain⟨d1,e1,ev⟩:=Res.bind_ok ev
 have main:∀{u:Value} {s1:Shared} {v:V} {H1:Hp},Inv X pins σ H1 s1->RelV v u->Same H H1->RR X.K H1 O d1 v->(rd=false->RD X.K H1 O d1 v)->wpAny (model X.prog X.w) X.A (call (.type "enumerate") [u]) (λv s1=>wpAny (model X.prog X.w) X.A (pyIter v) (PIE X pins σ (.Tuple es kk tpos) R) X.xe s1) X.xe s1:=by
  intro u s1 v H1 I1 r1 s1' rr rv
  cases d1 with
  |lst dl=>
   cases ev
   obtain⟨a,xs,e,q1,w1⟩:=rr.lst
   subst e
   cases r1
   obtain⟨its,r',pl,hz⟩:=I1.list q1
   refine call_enumerate_list pl.isList λh' he hit hz' hk=>?_
   refine wpAny_pyIter_enum he ?_
   have I2:Inv X pins σ H1 {s1 with heap:=h' }:=I1.kept (t':=s1.toks) hk
   refine⟨s1.heap.objs.size+1,[s1.heap.objs.size+1,s1.heap.objs.size],_,Ite X.K a,H1,rfl,I2,Ja a _ _ (OC _),⟨_,he,hit⟩,λb hb=>?_,k _ H1 _ _ s1' rr rv Jb⟩
   rcases bU.mp hb with rfl|hb
   ·exact I1.fpOk (rH _) (I1.hok.fresh (rH _))
   ·have e':b=s1.heap.objs.size:=by simpa using hb
    subst e'
    exact I1.fpOk (aK _) (I1.hok.fresh (aK _))
  |tup _=>cases ev
  |non=>cases ev
  |bl _=>cases ev
  |int _=>cases ev
  |str _=>cases ev
  |dct _=>cases ev
  |tdc _=>cases ev
  |cnt _ _=>cases ev
 cases rd with
 |true=>
  refine Call_ (iY I hg hm PyProof.Rows.boot_enumerate (PyProof.Rows.callWith_type1 (thn (dU (ha H_h O0) eZ (aU hp) pos pins s σ H (λvs H1=>∃v,vs=[v]/\Same H H1/\RR X.K H1 O d1 v) I ⟨O,own,e,d1,F,e1,λv H' s' r=>⟨v,rfl,s',r⟩⟩) λus s1 ⟨vs,H1,I1,r1,v,ev1,s1',rr⟩=>?_) (aU hp) rfl))
  subst ev1
  obtain⟨u,rfl,ru⟩:=fL r1
  exact main I1 ru s1' rr (λz=>by cases z)
 |false=>
  refine Call_ (iY I hg hm PyProof.Rows.boot_enumerate (PyProof.Rows.callWith_type1 (thn (dU (hv rfl H_h O0) eZ (aU hp) pos pins s σ H (λvs H1=>∃v,vs=[v]/\Same H H1/\RD X.K H1 O d1 v) I ⟨O,own,e,d1,F,e1,λv H' s' r _=>⟨v,rfl,s',r⟩⟩) λus s1 ⟨vs,H1,I1,r1,v,ev1,s1',rr⟩=>?_) (aU hp) rfl))
  subst ev1
  obtain⟨u,rfl,ru⟩:=fL r1
  exact main I1 ru s1' rr.rr (λ_=>rr)
end
end Tr
namespace Tr
open PySem PySem.Spec PyProof.Rows L2
variable{es:List Expr}{kk:Nat}{K:PySem.W.Frag}{w:World}
section
variable{T:Tab}{cf:Nat->List D->Res D}{X:Cx}{x y z:E}{p q r tg iter:Expr}{pos pos' pos'':Pos}
noncomputable def IteS(K:PySem.W.Frag)(a:Addr)(m0:Nat):It:=
 ⟨λi H=>∃xs x,SqT K H a xs/\xs[i]?=some x,λi H x H'=>∃p y,H p=none/\x=.ref p/\H'=upd H p (.tup [.int ((m0+i:Nat):Int),y])/\∀xs,SqT K H a xs->xs[i]?=some y,λi H=>∃xs,SqT K H a xs/\xs.length<=i⟩
theorem Jd{prog:Program}{A:Around}{it:Addr}{fp:List Addr}{n:Nat}{P:Nat->Value->Prop}{St:Nat->Heap->Prop}(m:Nat)(D:Draws prog w A it fp n P St) :
 Draws prog w A it fp (m+n) (λj x=>P (j-m) x) (λj h=>m<=j/\St (j-m) h) where
 live:=λj h st=>D.live _ h st.2
 frame:=λj h h' st k=>⟨st.1,D.frame _ _ _ st.2 k⟩
 item:=λj s Q E hj st hQ=>D.item (j-m) s Q E (by have:=st.1;lia) st.2 λx h' tk a b c=>hQ x h' tk a ⟨OB st.1,by rw[show j+1-m=j-m+1 by have:=st.1;lia];exact b⟩ c
 done:=λs Q E st hE=>D.done s Q E (by have h:=st.2;rw[FO]at h;exact h) hE
theorem Je{Pg:Program}{pos:Pos}(a en it:Addr)(m0:Nat)(hne:en≠it):Turn Pg w K (.Tuple es kk pos) (IteS K a m0) [en,it] en (λi h=>∃old,IsEnum h en it ((m0+i:Nat):Int) old/\h.IsTupleIter it a i) where
 mem:=by simp
 obj:=λi h st b hb=>by
  obtain⟨old,st1,o,e,c,d⟩:=st
  rcases bU.mp hb with rfl|hb
  ·exact⟨_,st1,λv z=>by
    have z':Data.fields _=Data.cell v:=z
    cases z'⟩
  ·have e':b=it:=by simpa using hb
   subst e'
   exact⟨o,e,λv z=>by rw[d]at z;cases z⟩
 keep:=λi h h' st k=>by
  obtain⟨old,st1,st2⟩:=st
  exact⟨old,k en (by simp) _ st1,st2.at λo e=>k it (by simp) o e⟩
 item:=by
  intro X hP hw hK hc i pins s σ H E I hf st hg
  subst hP hw hK
  obtain⟨xs,x,hq,hx⟩:=hg
  obtain⟨old,st1,st2⟩:=st
  obtain⟨its,rv,p,hz⟩:=I.tuple hq
  obtain⟨u,hu,ru⟩:=rv.get hx
  obtain⟨f0,f1,f2,f3,f4,f5⟩:=hf en (by simp)
  obtain⟨g0,g1,g2,g3,g4,g5⟩:=hf it (by simp)
  have n1:a≠it:=by
   obtain⟨o,q1,q2,_⟩:=id st2
   exact Al p q1 (by rw[q2];show Value.type "tuple_iterator" ≠ Value.type "tuple"; decide)
  have n2:a≠en:=Al p st1 (show Value.type "enumerate" ≠ Value.type "tuple" by decide)
  have hlt:i<its.toArray.size:=by rw[bI];exact(cT.mp hu).1
  refine wpAny_pyNext_enum_itemD (i:=m0+i) (Jd m0 (Hf (A:=X.A.in1) (I.ok.hd hc) it a n1 its.toArray)) st1 ⟨OA _ _,by rw[FO];exact⟨st2,p⟩⟩ (Nat.add_lt_add_left hlt m0) hne (by simp[hne,Ne.symm n2]) λu' h_h tk hu' heo hit1 ht1 hz1 hkh=>?_
  rw[FO]at hu'
  have hit1:=hit1.2
  rw[show m0+i+1-m0=i+1 by lia]at hit1
  have eu:u'=u:=by
   have h1:its[i]?=some u':=by simpa using hu'
   rw[hu]at h1;cases h1;rfl
  subst eu
  refine⟨_,rfl,wpAny_letOwnedTupleGo_enum heo λhhh he2 hsx=>?_⟩
  replace hsx:Heap.SameBut en h_h hhh:=hsx
  have enl:en<s.heap.objs.size:=Heap.lt_size st1
  have itl:it<s.heap.objs.size:=by
   obtain⟨o,q,_⟩:=id st2
   exact Heap.lt_size q
  have fr:H s.heap.objs.size=none:=I.hok.fresh (aK _)
  have hm:∃hm:Heap,hm=s.heap.push {cls:=.type "tuple", data:=.seq #[.int ((m0+i:Nat):Int) tk,u'] }:=⟨_,rfl⟩
  obtain⟨hm,ehm⟩:=hm
  have I1:Inv X pins σ (upd H s.heap.objs.size (.tup [.int ((m0+i:Nat):Int),x])) {s with heap:=hm}:=by
   rw[ehm]
   refine I.laid (t':=s.toks) (λb o q=>Heap.get?_push_of_some _ q) (aK _) ?_
   exact⟨by show 2<=sizeLine;decide,[.int ((m0+i:Nat):Int) tk,u'],.cons ⟨_,rfl⟩ (.cons ru .nil),⟨_,Heap.get?_push_size _ rfl,rfl,_,rfl⟩⟩
  have kept:∀b o,b≠en->b≠it->hm.get? b=some o->hhh.get? b=some o:=λb o hb1 hb2 q=>by
   refine(hsx.2 b hb1).trans ?_
   rw[ehm]at q
   rcases Heap.get?_push_cases q with⟨e1,e2⟩|q
   ·rw[e1,e2];exact ht1
   ·exact hkh b o hb1 hb2 q
  have up:∀{c:Addr},c<s.heap.objs.size->H c=none->upd H s.heap.objs.size (.tup [.int ((m0+i:Nat):Int),x]) c=none:=λhl hn=>by rw[aG (cE hl)];exact hn
  have I2:Inv X pins σ (upd H s.heap.objs.size (.tup [.int ((m0+i:Nat):Int),x])) {s with heap:=hhh,toks:=tk+1}:=Ak (s:={s with heap:=hm}) (t':=tk+1) I1 kept (up enl f0) (up itl g0) ⟨f1,f3,f4,f5⟩ ⟨g1,g3,g4,g5⟩
  refine⟨.ref s.heap.objs.size,_,I2,rfl,⟨_,x,fr,rfl,rfl,λys hy=>by rw[I.tuple_inj hy hq];exact hx⟩,⟨u',?_,hit1.1.extBut hsx.extBut (Ne.symm hne)⟩,λb hb=>?_⟩
  ·have:((m0+(i+1):Nat):Int)=((m0+i:Nat):Int)+1:=by push_cast;lia
   rw[this];exact he2
  ·rcases bU.mp hb with rfl|hb
   ·exact up enl f0
   ·have e':b=it:=by simpa using hb
    subst e'
    exact up itl g0
 done:=by
  intro X hP hw hK hc i pins s σ H E I hf st hg
  subst hP hw hK
  obtain⟨xs,hq,hx⟩:=hg
  obtain⟨old,st1,st2⟩:=st
  obtain⟨its,rv,p,hz⟩:=I.tuple hq
  obtain⟨g0,g1,g2,g3,g4,g5⟩:=hf it (by simp)
  have hl:=rv.length
  have hT:s.TypeIs (.ref en) "enumerate" := ⟨_,st1,rfl⟩
  unfold pyNext
  refine wpAny_bind (wpAny_attempt (wpAny_callSpecial?_slot (name:=Str.ofString "__next__") hT F.slot_enumerate_next
   (wpAny_call_entry F.slot_enumerate_next hT F.entry_enumerate_next ?_ (F.args_enumerate_next_1 _))))
  show wpAny _ _ (field (.ref en) 2>>=_) _ _ _
  refine wpAny_bind (wpAny_field st1 rfl (x:=.ref it) rfl ?_)
  refine wpAny_bind (zQ (I.ok.hd hc) st2 p (by simp;lia) λh' x he' hx'=>?_)
  obtain⟨o,ho,hc'⟩:=hx'
  refine wpAny_bind (wpAny_isInstance (T := "StopIteration") (b:=true) ⟨o,ho,hc'⟩ isSubtype_stop ?_)
  exact wpAny_pure ⟨rfl,I.turned (t':=s.toks) (λb o hb e=>he' b o hb e) g0 g1 g3 g4 g5⟩
 self:=λ_ _ _ _ _ st h=>by
  obtain⟨old,st1,_⟩:=st
  exact wpAny_pyIter_enum st1 h
theorem Jf{a:Addr}{m0:Nat}{ds:List D}:Wk1 K (IteS K a m0) (.tup ds) (.ref a) (bJ (m0:Int) ds):=by
 intro i H O r
 obtain⟨a',xs,e,q,w⟩:=r.tup
 cases e
 have hl:=w.length
 rw[enumD_len]
 refine⟨λh=>?_,λh=>⟨xs,q,by lia⟩,λx H' d hd y=>?_⟩
 ·obtain⟨v,h1,h2⟩:=w.get (aP h)
  exact⟨xs,v,q,h1⟩
 ·obtain⟨p,yv,hp,rfl,rfl,hy⟩:=y
  refine⟨bK hp _,?_⟩
  have hi:i<ds.length:=by
   have:=(cT.mp hd).1
   rwa [enumD_len]at this
  obtain⟨v,h1,h2⟩:=w.get (aP hi)
  have:=(hy xs q).symm.trans h1
  cases this
  rw[tV (m0:Int) ds i _ (aP hi)]at hd
  cases hd
  refine kB (RDs.cons ?_ (RDs.cons h2 RDs.nil)) hp
  show V.int ((m0+i:Nat):Int)=V.int ((m0:Int)+(i:Int))
  rw[Int.natCast_add]
theorem Jg {rd:Bool} {n:Str} {pn kp:Pos} {tpos:Pos} {q:Expr} {y:E} (hn:n = "enumerate") (hg:Gl X n) (hm:X.mg "enumerate" = none) (hp:aX p=true) (hv:SE T cf X x p) (hw:SE T cf X y q) :
 SI T cf X (.Tuple es kk tpos) (.enumS x y) rd (.Call (.Name n pn) [p] [⟨some "start", q,kp⟩] pos):=by
 intro H_h O0 pins s σ H R I h
 subst hn
 obtain⟨O,own,e,ds,F,ev,k⟩:=h
 replace k:=nQ k
 rw[HM]at ev
 obtain⟨d1,e1,ev⟩:=Res.bind_ok ev
 obtain⟨d2,e2,ev⟩:=Res.bind_ok ev
 refine wpAny_Call_Name_kw (iY I hg hm PyProof.Rows.boot_enumerate (II (thn (dU (hv H_h O0) eZ (aU hp) pos pins s σ H (λvs H1=>∃v,vs=[v]/\Same H H1/\RD X.K H1 O d1 v) I ⟨O,own,e,d1,F,e1,λv H' s' r _=>⟨v,rfl,s',r⟩⟩) λus s1 ⟨vs,H1,I1,r1,v,ev1,s1',rr⟩=>?_) (by rw[aU hp];rfl) (by rw[aU hp];rfl)))
 subst ev1
 obtain⟨u,rfl,ru⟩:=fL r1
 refine PyProof.Rows.kws_cons (thn (hw H_h O0 pins s1 σ H1 (λv2 H2=>Same H1 H2/\RD X.K H2 O d2 v2) I1 ⟨O,own,e,d2,F.grow s1',e2,λv2 H2 s2 r2 _=>⟨s2,r2⟩⟩) λu2 s2 ⟨v2,H2,I2,r2,s12,rd2⟩=>PyProof.Rows.kws_nil ?_)
 cases d1 with
 |tup dl=>
  cases d2 with
  |int k0=>
   obtain⟨c,ev⟩:=aS (show aE (bN k0&&decide (0<=k0)) (Res.ok (bJ k0 dl))=Res.ok ds from ev)
   cases ev
   rw[aD,decide_eq_true_eq]at c
   obtain⟨c,c0⟩:=c
   obtain⟨m0,rfl⟩:=OD c0
   have rr2:=(rr.same s12).rr
   obtain⟨a,xs,e,q1,w1⟩:=rr2.tup
   subst e
   cases ru
   cases (show v2=.int _ from rd2)
   obtain⟨t,rfl⟩:=r2
   obtain⟨its,r',pl,hz⟩:=I2.tuple q1
   have hf:Builtin.SmallTypes.fitsIndex (m0:Int)=true:=by
    unfold bN at c
    rw[aD,decide_eq_true_eq,decide_eq_true_eq]at c
    unfold Builtin.SmallTypes.fitsIndex
    simp only[aD,decide_eq_true_eq]
    lia
   refine IK hf pl λh' he hit hz' hk=>?_
   refine wpAny_pyIter_enum he ?_
   have I3:Inv X pins σ H2 {s2 with heap:=h' }:=I2.kept (t':=s2.toks) hk
   refine⟨s2.heap.objs.size+1,[s2.heap.objs.size+1,s2.heap.objs.size],_,IteS X.K a m0,H2,rfl,I3,Je a _ _ m0 (OC _),⟨_,he,hit⟩,λb hb=>?_,k _ H2 _ _ (s1'.trans s12) rr2 (λ_=>rr.same s12) Jf⟩
   rcases bU.mp hb with rfl|hb
   ·exact I2.fpOk (rH _) (I2.hok.fresh (rH _))
   ·have e':b=s2.heap.objs.size:=by simpa using hb
    subst e'
    exact I2.fpOk (aK _) (I2.hok.fresh (aK _))
  |_=>cases ev
 |_=>cases ev
end
end Tr
namespace Tr
open PySem PySem.Spec PyProof.Rows L2
section
variable{K:PySem.W.Frag}{H_h H H':Hp}{O0 O O':Addr->Prop}{own:Nat->Option Addr}{e:Nv}{σ:L2.St}
end
section
variable{T:Tab}{cf:Nat->List D->Res D}{X:Cx}{x y z:E}{p q r tg:Expr}{pos pos':Pos}{es:List Expr}
end
section
variable{prog:Program}{w:World}{A:Around}{E:Value->Shared->Prop}{s:Shared}
end
end Tr
namespace Tr
open PySem PySem.Spec PyProof.Rows L2 PySem.W
section
variable{prog:Program}{w:World}{A:Around}{E:Value->Shared->Prop}{s:Shared}
end
end Tr
namespace Tr
open PySem PySem.Spec PyProof.Rows L2
section
variable{prog:Program}{w:World}{A:Around}{s:Shared}{d:Addr}{es:Array DictEntry}{ep:Nat}
end
section
variable{T:Tab}{cf:Nat->List D->Res D}{X:Cx}{x:E}{p:Expr}{pos:Pos}
end
end Tr
namespace Tr
open PySem PySem.Spec PyProof.Rows L2 PySem.W
section
variable{P:Program}{w:World}{K:PySem.W.Frag}{mg:Str->Option Value}{base:Heap}
end
section
variable{X:Cx}{pins:List (Addr×Obj)}{σ:L2.St}{H:Hp}{s:Shared}
end
section
variable{prog:Program}{w:World}{A:Around}{E:Value->Shared->Prop}{s:Shared}
end
section
variable{X:Cx}{pins:List (Addr×Obj)}{σ:L2.St}{H:Hp}{s:Shared}
end
section
variable{X:Cx}{pins:List (Addr×Obj)}{σ:L2.St}{H:Hp}{s:Shared}
end
noncomputable def LamX (X:Cx) (p:Pos):Prop:=Room 2 X.A/\∃c0 P,X.env.code=.ref c0/\codeHdIn X.K c0 P=true/\(P,p,X.env.qual ++ "<lambda>")∈nE X.K
section
variable{T:Tab}{cf:Nat->List D->Res D}{X:Cx}{y:E}{p:Expr}{pos cpos pn kp lp:Pos}
end
end Tr
namespace Tr
open PySem PySem.Spec PyProof.Rows L2
variable{b kd:Addr}{O:Addr->Prop}{H:Hp}{n:Int}{f:Nat}{m:Str}
structure CntK(K:PySem.W.Frag)(C:Addr):Prop where
 c:Cls K C
 n1:NoAttr K C "parts"
 n2:NoAttr K C "clashes"
 n3:NoAttr K C "known"
noncomputable def lI (K:PySem.W.Frag):Prop:=∀C,cvK K "Count" = .ref C->CntK K C
section
variable{T:Tab}{cf:Nat->List D->Res D}{X:Cx}{x y z:E}{p q r:Expr}{es:List Expr}{pos apos:Pos}
theorem Am{K:PySem.W.Frag}:∀{cl:List (Int×Int)} {xs:List V},nD H cl xs->RDs K H O (cl.map prD) xs
 |_,_,.nil=>rfl
 |_,_,.cons ⟨q,e,h⟩ t=>⟨_,_,rfl,⟨q,_,e,.inl h,⟨_,_,rfl,rfl,⟨_,_,rfl,rfl,rfl⟩⟩⟩,Am t⟩
theorem Jh{pins:List (Addr×Obj)}{σ:L2.St}{s:Shared}{a C dx:Addr}{o:Obj}{cl:List (Int×Int)}{xs:List V}(I:Inv X pins σ H s)(e:H a=some (.frz o (.cnt C dx kd b n cl)))(nb:¬O b)(rb:Rd H b (.lst xs)) :
 RD X.K H O (.lst (cl.map prD)) (.ref b):=by
 obtain⟨_,_,⟨ol,ys,hb,pr⟩,_⟩:=(show ObjOk X.prog X.w H s.heap a (.frz o (.cnt C dx kd b n cl))from I.hok a _ e)
 exact⟨b,ys,rfl,.inl ⟨nb,.inr ⟨ol,hb⟩⟩,Am pr⟩
theorem Ji (ck:lI X.K) (hb:attributeBase p "parts" X.env (eval p X.env)=eval p X.env) (hr:SE T cf X x p):SE T cf X (.cnt .parts x .anil) (.Attribute p "parts" pos):=λH_h O0 pins s σ H Q I hq=>by
 obtain⟨O,own,e,d,F,ev,k⟩:=hq
 rw[nC]at ev
 obtain⟨d1,e1,ev⟩:=Res.bind_ok ev
 obtain⟨ds,e2,ev⟩:=Res.bind_ok ev
 rw[jZ]at e2;cases e2
 cases d1 with
 |cnt n cl=>
  cases ev
  refine rZ hb (thn (hr H_h O0 pins s σ H (λv H1=>Same H H1/\RD X.K H1 O (.cnt n cl) v) I ⟨O,own,e,_,F,e1,λv H' s' r _=>⟨s',r⟩⟩) λu s1 ⟨v,H1,I1,r1,sm,a,b,ea,o,C,dx,kd,xs,g1,⟨g2,g3⟩,g4⟩=>?_)
  subst ea
  cases (show u=Value.ref a from r1)
  refine sV I1 g1 (ck C g4).c (ck C g4).n1 (v:=.int n) rfl λu t ru=>⟨.int n,H1,I1.tok t,ru,k _ _ sm rfl λz=>by cases z⟩
 |_=>cases ev
theorem Jj (ck:lI X.K) (hb:attributeBase p "clashes" X.env (eval p X.env)=eval p X.env) (hr:SE T cf X x p):SE T cf X (.cnt .clashes x .anil) (.Attribute p "clashes" pos):=λH_h O0 pins s σ H Q I hq=>by
 obtain⟨O,own,e,d,F,ev,k⟩:=hq
 rw[nC]at ev
 obtain⟨d1,e1,ev⟩:=Res.bind_ok ev
 obtain⟨ds,e2,ev⟩:=Res.bind_ok ev
 rw[jZ]at e2;cases e2
 cases d1 with
 |cnt n cl=>
  cases ev
  refine rZ hb (thn (hr H_h O0 pins s σ H (λv H1=>Same H H1/\RD X.K H1 O (.cnt n cl) v) I ⟨O,own,e,_,F,e1,λv H' s' r _=>⟨s',r⟩⟩) λu s1 ⟨v,H1,I1,r1,sm,a,b,ea,o,C,dx,kd,xs,g1,⟨g2,g3⟩,g4⟩=>?_)
  subst ea
  cases (show u=Value.ref a from r1)
  refine sV I1 g1 (ck C g4).c (ck C g4).n2 (v:=.ref b) rfl λu t ru=>⟨.ref b,H1,I1.tok t,ru,k _ _ sm (Jh I1 g1 g2 g3) λz=>by cases z⟩
 |_=>cases ev
noncomputable def An(T:Tab)(cf:Nat->List D->Res D)(X:Cx)(f:Nat)(m:Str):Prop:=(eC 0 0 0).lookup m=none /\
 ∀C,cvK X.K "Count" = .ref C->∃k a fd ps,Meth X.K C m a/\FnOk X.prog X.w X.K X.mg X.base (CXE X.prog X.w) k a fd ps (spD X.K (cf f) (T.fresh f))/\Room k X.A/\Binds X.K fd ps []
theorem Jk(h:(eC 0 0 0).lookup m=none):(eC n b kd).lookup m=none:=by
 unfold eC at h⊢
 simp only[kN]at h⊢
 split at h
 ·cases h
 ·split at h
  ·cases h
  ·split at h
   ·cases h
   ·rfl
theorem Jl{prog:Program}{w:World}{A:Around}{E:Value->Shared->Prop}{s:Shared}{env:Env}{o:Expr}{name:Str}{args:List Expr}{Q:Value->Shared->Prop}
 (hbase:attributeBase o name env (eval o env)=eval o env)
 (hfew:((backTo pos (starEach args env)).all (λx=>!x.1)&&(backToKw pos (keywordEach [] env)).all (λx=>x.1.isSome)
  && decide (args.length+([]:List Keyword).length+(if([]:List Keyword).isEmpty then 0 else 1)<30))=true)
 (hline:(apos.endLine==pos.line)=true)
 (h:wpAny (model prog w) A (eval o env) (λov sv=>∀pl,wpAny (model prog w) A (getMethod ov name pl) (λfx sy=>wpAny (model prog w) A (callWith pos fx.1 fx.2 (backTo pos (starEach args env)) (backToKw pos (keywordEach [] env))) Q E sy) E sv) E s) :
 wpAny (model prog w) A (eval (.Call (.Attribute o name apos) args [] pos) env) Q E s:=by
 rw[arm_eval_Call,hbase]
 refine wpAny_bind (wpAny_mono h (λov sv h_h=>?_) λ_ _ e=>e)
 refine wpAny_bind (wpAny_standAt ?_)
 have hform:methodCallForm (args.length+([]:List Keyword).length) (backTo pos (starEach args env)) (backToKw pos (keywordEach [] env))=true:=hfew
 have hpos:methodCallPos true o env apos pos=pure pos:=by unfold methodCallPos;simp[hline]
 unfold methodCall
 rw[hform]
 exact wpAny_bind (wpAny_holding (wpAny_mono (h_h _) (λfx sy hhh=>wpAny_bind (wpAny_of_eq hpos hhh)) λ_ _ x=>x))
theorem Jm(ck:lI X.K)(hm:An T cf X f m)(hb:attributeBase p m X.env (eval p X.env)=eval p X.env)(hline:(apos.endLine==pos.line)=true)(hn:(q::es).length<30)(hp:(q::es).all aX=true)(hr:SE T cf X x p)(ha:SAv T cf X y (q::es)) :
 SE T cf X (.cnt (.meth f m) x y) (.Call (.Attribute p m apos) (q::es) [] pos):=λH_h O0 pins s σ H Q I hq=>by
 obtain⟨hm1,hm2⟩:=hm
 obtain⟨O,own,e,d,F,ev,k⟩:=hq
 rw[nC]at ev
 obtain⟨d1,e1,ev⟩:=Res.bind_ok ev
 obtain⟨ds,e2,ev⟩:=Res.bind_ok ev
 rw[gP,aD]at hp
 cases d1 with
 |cnt n cl=>
  have ev:cf f (.cnt n cl::ds)=.ok d:=ev
  refine Jl hb ?_ hline (thn (hr H_h O0 pins s σ H (λv H1=>Same H H1/\RD X.K H1 O (.cnt n cl) v) I ⟨O,own,e,_,F,e1,λv H' s' r _=>⟨s',r⟩⟩) λu s1 ⟨v,H1,I1,r1,sm,a,b,ea,o,C,dx,kd,xs,g1,g23,g4⟩=>?_)
  ·rw[aD,aD]
   refine⟨⟨?_,rfl⟩,?_⟩
   ·rw[aU hp.1]
    have:=gA (pos:=pos) (env:=X.env) hp.2
    show(!false&&(backTo pos (starEach es X.env)).all λx=>!x.1)=true
    rw[rN,iV,eP]
    intro z hz
    rw[Nj]at this
    have h0:=this z hz
    simp at h0⊢
    exact h0
   ·rw[decide_eq_true_eq]
    show(q::es).length+0+0<30
    lia
  ·intro pl
   subst ea
   cases (show u=Value.ref a from r1)
   obtain⟨lv,fa,fd,ps,mt,Fk,rm,bd⟩:=hm2 C g4
   refine IA I1 g1 (ck C g4).c mt (Jk hm1) ?_
   refine PySem.W.callWith_K (first:=[.ref a]) (h₀:=X.base) I1.ok.mod.kin mt.kp (thn (ha H_h O0 pos pins s1 σ H1 (λvs H2=>Same H1 H2/\RDs X.K H2 O ds vs) I1 ⟨O,own,e,ds,F.grow sm,e2,λvs H' s' r _=>⟨s',r⟩⟩) λus s2 ⟨vs,H2,I2,rv,sm2,rs⟩=>⟨I2.kIn,?_⟩) (aU hp.1) (gA hp.2)
   refine sD (us:=.ref a::us) (vs:=.ref a::vs) (dvs:=[]) (ds:=[]) (E:=E0) Fk rm bd .nil pF I2 (.cons rfl rv) ?_
   rw[gN]
   have ra:RD X.K H2 O (.cnt n cl) (.ref a):=RD.same sm2 (⟨a,b,rfl,o,C,dx,kd,xs,g1,g23,g4⟩:RD X.K H1 O (.cnt n cl) (.ref a))
   refine⟨O,.cnt n cl::ds,⟨((F.grow sm).grow sm2).trk,((F.grow sm).grow sm2).tab⟩,⟨_,_,rfl,ra,rs⟩,.inl ⟨d,ev,λv H' s3 r3 n3=>k v H' ((sm.trans sm2).trans s3) r3 λz=>by cases z⟩⟩
 |_=>cases ev
noncomputable def spC(K:PySem.W.Frag)(F:List D->Res D):Sp:=λvs H Q _=>∃(O:Addr->Prop)(d:D)(v:V)(x C dx:Addr)(n:Int)(cl:List (Int×Int)),vs=[.ref x,v]/\H x=some (.ins C dx [])/\CntK K C/\¬O x/\Trk K H O/\RD K H O d v/\F [.non,d]=.ok (.cnt n cl) /\
 ∀(H':Hp)(b kd:Addr)(xs:List V),(∀c o,c≠x->H c=some o->H' c=some o)->H' x=some (.ins C dx (eC n b kd))->H' kd=some (.dT [])->H' b=some (.lst xs)->H b=none->H kd=none->nD H' cl xs->Q .non H'
noncomputable def Ao (T:Tab) (cf:Nat->List D->Res D) (X:Cx) (f:Nat) (n:Str):Prop:=∃C k a fd ps,X.mg n=some (.ref C)/\cvK X.K "Count" = .ref C/\Mk X.K C a/\CntK X.K C /\
 FnOk X.prog X.w X.K X.mg X.base (CXE X.prog X.w) k a fd ps (spC X.K (cf f))/\Room (k+1) X.A/\Binds X.K fd ps []
theorem Jn {n:Str} {pn:Pos} (hm:Ao T cf X f n) (hg:Gl X n) (hdb:(n==("__debug__" : Str))=false) (hp:aX p=true) (hr:SE T cf X x p) :
 SE T cf X (.cnt (.make f) x .anil) (.Call (.Name n pn) [p] [] pos):=λH_h O0 pins s σ H Q I hq=>by
 obtain⟨C,lv,fa,fd,ps,m1,m2,M,ckc,Fk,rm,bd⟩:=hm
 obtain⟨O,own,e,d,F,ev,k⟩:=hq
 (first|rw[nB]at ev|rw[nC]at ev)
 obtain⟨d1,e1,ev⟩:=Res.bind_ok ev
 obtain⟨ds,e2,ev⟩:=Res.bind_ok ev
 rw[jZ]at e2;cases e2
 obtain⟨d2,ev2,ev⟩:=Res.bind_ok (show(cf f [.non,d1]>>=_)=Res.ok d from ev)
 have P:=G1 (pos:=pos) (p:=pn) M Fk rm hg m1 bd .nil pF (dU (hr H_h O0) eZ (aU hp)) hdb (aU hp) rfl
 cases d2 with
 |cnt n cl=>
  cases ev
  replace ev:=ev2
  refine thn (P pins s σ H (λv H2=>∃x dx b kd xs,v=.ref x/\H2 x=some (.ins C dx (eC n b kd))/\H2 kd=some (.dT [])/\H2 b=some (.lst xs)/\nD H2 cl xs/\H b=none/\H kd=none/\H x=none/\∀c o,H c=some o->H2 c=some o) I ?_) (λu s' ⟨v,H2,I2,rv,x,dx,b,kd,xs,ev2,g1,g2,g3,g4,g5,g6,g7,g8⟩=>?_)
  ·refine⟨O,own,e,d1,F,e1,λv H1 s1 r1 _=>?_⟩
   intro x dx hx hdx hne
   have F1:=F.grow s1
   have f1:H x=none:=s1.free hx
   have f2:H dx=none:=s1.free hdx
   have sx:Same H1 (upd (upd H1 dx (.own x)) x (.ins C dx [])):=λc o q=>by
    rw[aG (cV q hx),aG (cV q hdx)];exact q
   refine⟨O,d1,v,x,C,dx,n,cl,rfl,bA,ckc,λz=>?_,⟨λc hc=>?_,?_⟩,r1.same sx,ev,λH' b kd xs h1 h2 h3 h4 h5 h6 h7=>⟨rfl,x,dx,b,kd,xs,rfl,h2,h3,h4,h7,?_,?_,f1,λc o q=>?_⟩⟩
   ·obtain⟨o,q⟩:=F1.trk x z
    rw[hx]at q;cases q
   ·obtain⟨o,q⟩:=F1.trk c hc
    exact⟨o,sx _ _ q⟩
   ·exact(F1.tab).same sx
   ·exact(s1.trans sx).free h5
   ·exact(s1.trans sx).free h6
   ·exact h1 c o (cV q f1) ((s1.trans sx) _ _ q)
  ·subst ev2
   obtain⟨o,ol,I3⟩:=IF I2 g1 g2 g3 g4
   have sm:Same H (fW H2 x dx kd b C o ol xs n cl):=λc u q=>by
    unfold fW
    rw[aG (cV q g7),aG (cV q g6),aG (cV q g5)]
    exact g8 c u q
   have nkb:kd≠b:=fK g2 g3 (λz=>nomatch z)
   have nxb:x≠b:=fK g1 g3 (λz=>nomatch z)
   refine⟨.ref x,_,I3,rv,k _ _ sm ⟨x,b,rfl,o,C,dx,kd,xs,bA,⟨λz=>?_,.inr ⟨ol,?_⟩⟩,m2⟩ λz=>by cases z⟩
   ·obtain⟨u,q⟩:=F.trk b z
    rw[g5]at q;cases q
   ·unfold fW
    rw[aG nxb.symm,aG nkb.symm,bA]
 |_=>cases ev
end
end Tr
namespace Tr
open PySem PySem.Spec PyProof.Rows L2
variable{F:List D->Res D}{i:Nat}{K:PySem.W.Frag}
section
variable{T:Tab}{cf:Nat->List D->Res D}{X:Cx}{x y z:E}{p q r tg:Expr}{pos pos':Pos}{es:List Expr}
noncomputable def gI(K:PySem.W.Frag)(T:Tab)(F:List D->Res D)(i:Nat):Sp:=match T.mv i with
 |none=>spD K F (T.fresh i)
 |some _=>spC K F
theorem lJ(h:T.mv i=none):gI K T F i=spD K F (T.fresh i):=by unfold gI;rw[h]
theorem Ap(h:T.mv i=some 2000):gI K T F i=spC K F:=by unfold gI;rw[h]
noncomputable def Aq(T:Tab)(cf:Nat->List D->Res D)(X:Cx)(f:Nat)(n:Str):Prop:=
 ∃k a fd ps,FnOk X.prog X.w X.K X.mg X.base (CXE X.prog X.w) k a fd ps (gI X.K T (cf f) f)/\Room k X.A/\X.mg n=some (.ref a)/\PySem.W.keepIn X.K (.ref a)=true/\Binds X.K fd ps []
end
end Tr
namespace Tr
open PySem PySem.Spec PyProof.Rows L2
section
variable{prog:Program}{w:World}
variable{A:Around}{R:Result->Shared->Prop}{I:Addr}{fp wr:List Addr}{G:Array GenState->Array GenState->Prop}{n:Nat}{P:Nat->Value->Prop}{St:Nat->Shared->Prop}
end
section
variable{prog:Program}{w:World}{A:Around}{E:Value->Shared->Prop}{s:Shared}
end
variable{O:Addr->Prop}{H:Hp}{ps:List (List Key×V)}{K:PySem.W.Frag}
theorem RD.updD{p:Addr}{o':HO}(hp:H p=some (.dT ps)){d:D}{v:V}(h:RD K H O d v):RD K (L2.upd H p o') O d v:=by
 have ne:∀{a:Addr} {u:HO},H a=some u->u≠.dT ps->a≠p:=λx1 x2=>fK x1 hp x2
 refine RD.map (λa xs q=>?_) (λa xs n q=>⟨n,?_⟩) (λa o u q=>?_) h
 ·rcases q with q|q
  ·exact .inl (by rw[aG (ne q (λz=>by cases z))];exact q)
  ·exact .inr q
 ·rcases q with q|⟨o,q⟩
  ·exact .inl (by rw[aG (ne q (λz=>by cases z))];exact q)
  ·exact .inr ⟨o,by rw[aG (ne q (λz=>by cases z))];exact q⟩
 ·rw[aG (ne q (λz=>by cases z))];exact q
noncomputable def Ar(p:Addr)(Q:VK)(ps:List (V×V))(H2:Hp):Prop:=H2 p=some (.dT [])/\∃b key y,ps=[(.ref b,y)]/\H2 b=some (.tup (key.map kV))/\∀o,Q (.ref p) (L2.upd H2 p (.frz o (.dT [(key,y)])))
noncomputable def tDisp1(tk tv:TE):TE:=λσ H Q=>∀p,H p=none->tk σ (L2.upd H p (.dT [])) λx H1=>tv σ H1 λy H2=>Ar p Q [(x,y)] H2
theorem Jo{X:Cx}{k v:Expr}{pos:Pos}{tk tv:TE}(hu:X.A.units+1<cLine)(hk:PE X k tk)(hv:PE X v tv):PE X (.Dict [some k] [v] pos) (tDisp1 tk tv):=by
 intro pins s σ H Q I q
 have hn:=I.hok.fresh (aK s.heap.objs.size)
 have I1:=I.laid (a:=s.heap.objs.size) (o:=.dT []) (h':=s.heap.push {cls:=.type "dict", data:=.dict #[] }) (t':=s.toks) (λ_ _ q=>Heap.get?_push_of_some _ q) (aK _) (yU s.heap I.big)
 refine wpAny_Dict_any rfl rfl (by simp) (by simp) (thn (HD (pos:=pos) hk hv HC pins _ σ _ (Ar s.heap.objs.size Q) I1 (q _ hn)) λws s2 ⟨ps,H2,I2,rel,e,b,key,y,ep,eb,q2⟩=>?_)
 subst ep
 cases rel with
 | @cons _ w _ _ r1 rel=>
  cases rel
  obtain⟨u1,u2⟩:=w
  obtain⟨r1,r2⟩:=r1
  obtain rfl:u1=Value.ref b:=r1
  obtain⟨z,hd,xs,rel,dd⟩:=yR I2.hok e
  cases rel
  unfold storeAll
  rw[Nz]
  refine wpAny_bind (wpAny_bind (wpAny_dictSet_heap (hsz:=fU _) (show X.A.units<cLine by lia) (jW I2.hok eb) dd λh' dd' hs=>wpAny_pure ?_))
  dsimp only
  rw[List.forIn_nil]
  refine wpAny_pure ?_
  obtain⟨ob,es,ep,hq,h2,h3,h4,_,h5⟩:=dd'
  have I3:Inv X pins σ (L2.upd H2 s.heap.objs.size (.dT [(key,y)])) {s2 with heap:=h',toks:=s2.toks+(tupleKind (dF X.prog X.w)).draws key}:=sF I2 (by rw[e];exact True.intro) hs ⟨ob,hq⟩ ⟨by show 1<=sizeLine;decide,hd,[(key,b,u2)],.cons ⟨rfl,by rw[aG (fK eb e (λz=>nomatch z))];exact eb,r2⟩ .nil,ob,es,ep,hq,h2,h3,h4,h5⟩
  obtain⟨o,_,_,_,I4⟩:=zU I3 bA
  rw[show L2.upd (L2.upd H2 s.heap.objs.size (.dT [(key,y)])) s.heap.objs.size (.frz o (.dT [(key,y)]))=L2.upd H2 s.heap.objs.size (.frz o (.dT [(key,y)]))from F0]at I4
  exact⟨.ref s.heap.objs.size,_,I4,rfl,q2 o⟩
section
variable{T:Tab}{cf:Nat->List D->Res D}{X:Cx}{x y z:E}{p q r tg:Expr}{pos pos':Pos}{es:List Expr}
theorem Jp(hR:fP X)(ha:SE T cf X x p)(hb:SE T cf X y q):SE T cf X (.dlit x y) (.Dict [some p] [q] pos):=λH_h O0=>by
 have hR':X.A.units+64<cLine:=hR
 refine PE.imp (λσ H Q hq=>?_) (Jo (by lia) (ha H_h O0) (hb H_h O0))
 obtain⟨O,own,e,d,F,ev,k⟩:=hq
 (first|rw[nA]at ev|rw[HH]at ev)
 obtain⟨d1,e1,ev⟩:=Res.bind_ok ev
 obtain⟨d2,e2,ev⟩:=Res.bind_ok ev
 intro a hn
 have s0:=bK hn (.dT [])
 refine⟨O,own,e,d1,F.grow s0,e1,λv1 H1 s1 r1 _=>⟨O,own,e,d2,(F.grow s0).grow s1,e2,λv2 H2 s2 r2 _=>?_⟩⟩
 cases d1 with
 |tup ks=>
  obtain⟨key,e3,ev⟩:=Res.bind_ok (show(Res.of (dG ks)>>=_)=Res.ok d from ev)
  cases ev
  obtain⟨b,xs,rfl,tq,w1⟩:=r1
  have hb:=s2 _ _ (lE (fZ e3) w1 tq)
  have h2:H2 a=some (.dT []):=s2 _ _ (s1 _ _ bA)
  refine⟨h2,b,key,v2,rfl,hb,λo=>?_⟩
  refine k _ _ (λc u hc=>?_) ⟨a,[(key,v2)],rfl,⟨o,bA⟩,v2,[],rfl,r2.updD h2,rfl⟩ (λz=>by cases z)
  rw[aG (cV hc hn)]
  exact s2 _ _ (s1 _ _ (s0 _ _ hc))
 |_=>cases ev
theorem Jq(n:Nat):RDs K H O (bQ 0 n) ((aC n).map λi:Nat=>V.int (0+(i:Nat))):=tO 0 n
theorem Jr {pn pm pos2:Pos} (hh:X.calm=true) (hm1:X.mg "tuple" = none) (hm2:X.mg "range" = none) (hg1:Gl X "tuple") (hg2:Gl X "range") (hp:aX p=true) (ha:SE T cf X x p) :
 SE T cf X (.trng x) (.Call (.Name "tuple" pn) [.Call (.Name "range" pm) [p] [] pos2] [] pos):=λH_h O0=>by
 refine PE.imp (λσ H Q hq=>?_) (jV (Hs hh) hg1 hm1 (by decide +kernel) (dU (jV zR hg2 hm2 (by decide +kernel) (dU (ha H_h O0) eZ (aU hp)) (by decide) (by decide) (aU hp) rfl) eZ rfl) (by decide) (by decide) rfl rfl)
 obtain⟨O,own,e,d,F,ev,k⟩:=hq
 rw[HI]at ev
 obtain⟨d1,e1,ev⟩:=Res.bind_ok ev
 refine⟨O,own,e,d1,F,e1,λv1 H1 s1 r1 _=>?_⟩
 cases d1 with
 |int n=>
  obtain⟨c,ev⟩:=aS (show aE (bN n&&decide (n<=1000)) _=Res.ok d from ev)
  cases ev
  cases (show v1=_ from r1)
  simp only[bN,aD,decide_eq_true_eq]at c
  refine⟨n,rfl,λp hpn=>⟨p,n,rfl,bA,c.1.1,c.1.2,c.2,λl hl=>?_⟩⟩
  have z:=kB (K:=X.K) (O:=O) (Jq n.toNat) hl
  exact k _ _ ((s1.trans (bK hpn _)).trans (bK hl _)) z λz=>by cases z
 |_=>cases ev
theorem Js {nm:Str} {apos cpos:Pos} (hR:fP X) (hnm:nm = "get") (hbase:pZ p=true) (hline:(apos.endLine==cpos.line)=true) (hp:aX q=true) (ha:SE T cf X x p) (hb:SE T cf X y q) :
 SE T cf X (.getV x y) (.Call (.Attribute p nm apos) [q] [] cpos):=λH_h O0=>by
 subst hnm
 have hR':X.A.units+64<cLine:=hR
 refine PE.imp (λσ H Q hq=>?_) (HE (by lia) (ha H_h O0) (hb H_h O0) ⟨base_of hbase (by decide),by rw[aU hp];rfl,hline,by rw[aU hp];rfl⟩)
 obtain⟨O,own,e,d,F,ev,k⟩:=hq
 (first|rw[nA]at ev|rw[HJ]at ev)
 obtain⟨d1,e1,ev⟩:=Res.bind_ok ev
 obtain⟨d2,e2,ev⟩:=Res.bind_ok ev
 refine⟨O,own,e,d1,F,e1,λv1 H1 s1 r1 _=>?_⟩
 cases d1 with
 |tdc kvs=>
  cases d2 with
  |tup ks=>
   obtain⟨key,e3,ev⟩:=Res.bind_ok (show(Res.of (dG ks)>>=_)=Res.ok d from ev)
   cases ev
   obtain⟨a,ps,rfl,⟨o,hf⟩,w⟩:=r1
   refine⟨a,rfl,.inr ⟨ps,.inr ⟨o,hf⟩⟩,O,own,e,_,F.grow s1,e2,λv2 H2 s2 r2 _=>?_⟩
   obtain⟨b,xs,rfl,tq,w1⟩:=r2
   refine⟨dW ps key,.inr ⟨ps,key,b,.inr ⟨o,s2 _ _ hf⟩,rfl,lE (fZ e3) w1 tq,rfl⟩,?_⟩
   have rv:=nL (k:=key) (w.same s2)
   cases eV:cH kvs key with
   |some d'=>
    obtain⟨v',h1,h2⟩:=rv.1 d' eV
    rw[h1]
    exact k _ _ (s1.trans s2) (by rw[eV];exact h2) (λz=>by cases z)
   |none=>
    have h1:dW ps key=none:=by
     have:=rv.2
     rw[eV]at this
     cases hz:dW ps key with
     |none=>rfl
     |some _=>rw[hz]at this;cases this
    rw[h1]
    exact k _ _ (s1.trans s2) (by rw[eV];exact rfl) (λz=>by cases z)
  |_=>cases ev
 |_=>cases ev
theorem As:∀{kvs:List (List (Sum Int Str)×D)} {ps:List (List Key×V)} {i:Nat} {kv:List (Sum Int Str)×D},RDt K H O kvs ps->kvs[i]?=some kv->∃q,ps[i]?=some q/\q.1=kv.1
 |[],_,_,_,_,e=>by simp at e
 |(k,d)::r,ps,i,kv,h,e=>by
  obtain⟨v,q,rfl,_,h2⟩:=h
  cases i with
  |zero=>cases e;exact⟨_,rfl,rfl⟩
  |succ i=>exact As (i:=i) h2 (by simpa using e)
theorem rd_key(k:Key):RD K H O (iI k) (kV k):=by
 cases k with
 |inl i=>exact rfl
 |inr x=>exact rfl
theorem Au:∀(ks:List Key),RDs K H O (ks.map iI) (ks.map kV)
 |[]=>rfl
 |k::ks=>⟨_,_,rfl,rd_key k,Au ks⟩
theorem Jt{a:Addr}{o:Obj}{kvs:List (List (Sum Int Str)×D)}(hl:ps.length=kvs.length)(hk:∀(i:Nat)(kv:List (Sum Int Str)×D),kvs[i]?=some kv->∃q:List Key×V,ps[i]?=some q/\q.1=kv.1):Wk K (Itk a o kvs.length) [.fr a o (.dT ps)] (kvs.map λkv=>.tup (kv.1.map iI)):=by
 intro i H O r
 have h:H a=some (.frz o (.dT ps)):=r _ (dE.mpr rfl)
 rw[aI]
 refine⟨λhi=>.inr ⟨ps,h,hl,hi⟩,λhi=>⟨.inr ⟨ps,h,hl⟩,hi⟩,λx H' d hd y=>?_⟩
 obtain⟨rfl,y⟩:=y
 refine⟨Same.refl _,?_⟩
 rw[bX]at hd
 cases hz:kvs[i]? with
 |none=>rw[hz]at hd;cases hd
 |some kv=>
  rw[hz]at hd
  cases hd
  obtain⟨q,h1,h2⟩:=hk i kv hz
  rcases y with⟨ps',y1,_⟩|⟨ps',y1,y2,y3⟩
  ·rw[h]at y1;cases y1
  ·rw[h]at y1
   cases y1
   rw[h1]at y3
   rcases y3 with⟨z,_⟩|⟨q',b,z1,z2,z3⟩
   ·cases z
   ·cases z1
    cases z2
    rw[h2]at z3
    exact⟨b,_,rfl,.inl z3,Au _⟩
theorem SI.up(h:SI T cf X tg x false p):SI T cf X tg x true p:=λH_h O0 pins s σ H R I q=>
 h H_h O0 pins s σ H R I (let ⟨O,own,e,ds,F,ev,k⟩:=q;⟨O,own,e,ds,F,ev,λJ H' srs s' r _ wk=>k J H' srs s' r (λz=>nomatch z) wk⟩)
theorem Av(hv:SE T cf X x p):SI T cf X tg (.seqD x) false p:=by
 intro H_h O0 pins s σ H R I h
 obtain⟨O,own,e,ds,F,ev,k⟩:=h
 rw[HK]at ev
 obtain⟨d1,e1,ev⟩:=Res.bind_ok ev
 refine thn (hv H_h O0 pins s σ H (λv H1=>Same H H1/\RD X.K H1 O d1 v) I ⟨O,own,e,d1,F,e1,λv H' s' r _=>⟨s',r⟩⟩) λu s1 ⟨v,H1,I1,r1,s1',rr⟩=>?_
 have go:∀(a:Addr)(o:Obj)(n:Nat)(es:Array DictEntry)(ep:Nat)(pn:Pin),o.data=.dict es ep->RawD s1.heap a es ep->(a==sysModules)=false->es.size=n->PinOk X.K H1 O pn->Wk X.K (Itk a o n) [pn] ds->wpAny (model X.prog X.w) X.A (pyIter (.ref a)) (PIE X pins σ tg R) X.xe s1:=by
  intro a o n es ep pn hd rw' ns hn hp wk
  subst hn
  refine Hj ns rw' ?_
  refine⟨s1.heap.objs.size,[s1.heap.objs.size],_,Itk a o es.size,H1,rfl,I1.kept (t':=s1.toks) λb u e=>Heap.get?_push_of_some _ e,Hm hd a _ es.size rfl,⟨_,Heap.get?_push_size _ rfl,rfl,rfl⟩,λb hb=>?_,k _ H1 [pn] s1' (λt ht=>by rw[dE.mp ht];exact hp.rr) (λ_ t ht=>by rw[dE.mp ht];exact hp) wk⟩
  rcases bU.mp hb with rfl|hb
  ·exact I1.fpOk (aK _) (I1.hok.fresh (aK _))
  ·cases hb
 cases d1 with
 |tdc kvs=>
  cases (show Res.ok _=Res.ok ds from ev)
  obtain⟨a,ps,rfl,⟨o,hf⟩,w⟩:=rr
  cases r1
  obtain⟨e1,e2,e3,xs,e4,o',es,ep,g1,g2,g3,g4⟩:=(show ObjOk X.prog X.w H1 s1.heap a (.frz o (.dT ps))from I1.hok a _ hf)
  have eo:o'=o:=by rw[e1]at g1;cases g1;rfl
  subst eo
  obtain⟨x1,x2,x3,x4⟩:=sT I1 hf g3
  exact go a o' kvs.length es ep (.fr a o' (.dT ps)) g3 x1 x2 (by rw[x3,w.length]) hf (Jt w.length λi kv=>As w)
 |_=>cases ev
theorem Ju {i:Nat} {n:Str} {px tpos:Pos} (hR:fP X) (hN:X.N[i]?=some n) (hv:Vis X.env.scope n) (hd:(n==("__debug__" : Str))=false) (hc:(n==("__classdict__" : Str))=false) (hx:dC p=true) (hk:SE T cf X y q) (h:SE T cf X x p) :
 SS T cf X (.dputV i y x) (.Assign [.Subscript (.Name n px) q tpos] p pos):=λH_h O0=>by
 have hR':X.A.units+64<cLine:=hR
 refine PS.imp (λD' σ H hq=>?_) (yT (by lia) (fV hN hv hd hc) (hk H_h O0) (h H_h O0) (gX hx))
 obtain⟨ts,e,out,⟨O,own,F,tt⟩,ev,k⟩:=hq
 rw[HV]at ev
 obtain⟨d,e1,ev⟩:=Res.bind_ok ev
 obtain⟨l,e2,ev⟩:=Res.bind_ok ev
 obtain⟨dk,e3,ev⟩:=Res.bind_ok ev
 obtain⟨key,e4,ev⟩:=Res.bind_ok ev
 obtain⟨c,ev⟩:=aS ev
 cases ev
 refine⟨O,own,e,d,F,e1,λv H1 s1 r1 _=>?_⟩
 obtain⟨q1,xs1,g1,g2,g3,g4,g5⟩:=(F.grow s1).mutT i (Sl.ownT_ok e2)
 refine⟨.ref q1,eS g1,O,own,e,dk,F.grow s1,e3,λv2 H2 s2 r2 _=>?_⟩
 have F2:=(F.grow s1).grow s2
 obtain⟨q2,xs2,f1,f2,f3,f4,f5⟩:=F2.mutT i (Sl.ownT_ok e2)
 have eq:q2=q1:=by rw[g1]at f1;cases f1;rfl
 subst eq
 cases dk with
 |tup ks=>
  obtain⟨b,xs,rfl,tq,w1⟩:=r2
  have hp3:=lE (fZ (show Res.of (dG ks)=.ok key from e4)) w1 tq
  refine⟨q2,_,rfl,DPut.t f2 hp3 (by rw[f3.length,<-fO];exact of_decide_eq_true c),?_⟩
  exact k _ _ ⟨O,own,f5 _ _ (Ie (r1.same s2) f3),λt ht=>(((tt t ht).same s1).same s2).updM f4 f2 trivial⟩
 |_=>cases e4
end
end Tr
namespace Tr
open PySem PySem.Spec PyProof.Rows L2
section
variable{K:PySem.W.Frag}{H_h H H':Hp}{O0 O:Addr->Prop}{own:Nat->Option Addr}{e:Nv}{σ:L2.St}
end
section
variable{T:Tab}{cf:Nat->List D->Res D}{X:Cx}{x y c:E}{p q:Expr}{pos:Pos}{a b:S}
variable{ps qs:List Stmt}{cp:Expr}
end
section
variable{prog:Program}{w:World}
variable{A:Around}{R:Result->Shared->Prop}{I:Addr}{fp wr:List Addr}{G:Array GenState->Array GenState->Prop}{n:Nat}{P:Nat->Value->Prop}{St:Nat->Shared->Prop}
end
section
variable{prog:Program}{w:World}{A:Around}{E:Value->Shared->Prop}{s:Shared}
end
section
variable{T:Tab}{cf:Nat->List D->Res D}{X:Cx}{x:E}{p:Expr}{pos:Pos}
end
variable{p:Expr}{l:List Expr}
set_option genInjectivity false in
structure Txt where
 gn:List Str
 dn:List Str
 tf:List (Str×List Nat):=[]
 ts:List (Str×List Str):=[]
 cls:List Str:=[]
 icl:List Str:=[]
 dm:List (Nat×Str):=[]
 lam:Option Pos:=none
 mt:List (Nat×Str):=[]
 mc:List (Nat×Str):=[]
noncomputable def Txt.at(Tx:Txt)(st:Stmt):Txt:={Tx with lam:=lD (cN st) }
noncomputable def gJ{α:Type}[BEq α]:List α->Bool
 |[]=>true
 |a::r=>!r.contains a&&gJ r
theorem qB{α:Type}[BEq α][LawfulBEq α]:∀{l:List α},gJ l=true->l.Nodup
 |[],_=>FH
 |a::r,h=>by
  rw[gJ,aD]at h
  refine oI.mpr ⟨λm=>?_,qB h.2⟩
  have:r.contains a=true:=mD.mpr m
  rw[this]at h
  exact absurd h.1 (by simp)
noncomputable def aH:E->Bool
 |.rd _=>true
 |_=>false
noncomputable def visB(sc:Scope)(n:Str):Bool:=(sc.names.lookup n==some .local)||(sc.names.lookup n==some .cell)||(sc.names.lookup n==some .free)
noncomputable def glB(sc:Scope)(n:Str):Bool:=sc.names.lookup n==some .globalImplicit
noncomputable def gY (n:Str):Bool:=!(n==("__debug__" : Str))&&!(n==("__classdict__" : Str))
noncomputable def dD(N:List Str)(sc:Scope)(i:Nat)(n:Str):Bool:=(N[i]?==some n)&&visB sc n&&gY n
noncomputable def iO(scope sc:Scope):Scope:={scope with names:=scope.names.map λ(n,k)=>if(k==.free&&sc.kind==.function&&sc.names.lookup n==some .cell)then(n,.cell)else(n,k) }
noncomputable def cQ:Expr->List Str
 |.Name n _=>[n]
 |.Tuple es _ _=>es.filterMap λ| .Name n _=>some n|_=>none
 |_=>[]
noncomputable def mGs(loc:Bool)(N:List Str)(sc:Scope):List Nat->List Expr->Bool
 |[],[]=>true
 |i::is,.Name n _::es=>(N[i]?==some n)&&((sc.names.lookup n==some .local)||(!loc&&sc.names.lookup n==some .cell))&&mGs loc N sc is es
 |_,_=>false
noncomputable def mG(loc:Bool)(N:List Str)(sc:Scope):G->Expr->Bool
 |.one i,.Name n _=>(N[i]?==some n)&&((sc.names.lookup n==some .local)||(!loc&&sc.names.lookup n==some .cell))
 |.many is,.Tuple es _ _=>mGs loc N sc is es
 |_,_=>false
noncomputable def scB(sc scope:Scope):Bool:=(scope.kind==.function)&&scope.names.all (λx=>!(x.2==.cell))&&scope.names.all (λx=>!(x.2==.local)||(scope.names.lookup x.1==some .local)) &&
 scope.names.all (λx=>!(x.2==.free)||(!(scope.names.lookup x.1==some .local)&&((sc.names.lookup x.1==some .cell)||(sc.names.lookup x.1==some .free))))
noncomputable def cR (N:List Str) (caps:List Nat):List Str:=caps.map λi=>(N[i]?).getD ""
noncomputable def nT(N:List Str)(scope:Scope)(caps:List Nat):Bool:=caps.all λi=>match N[i]? with|some n=>scope.names.contains (n,.free)|none=>false
noncomputable def qC:E->Bool
 |.con (.bl true)=>true
 |_=>false
noncomputable def gZ:E->Bool
 |.omit=>true
 |_=>false
noncomputable def lK:Expr->Bool
 |.Tuple _ _ _=>true
 |_=>false
noncomputable def vC(G:Str->List Expr->Bool):Expr->Bool
 |.Call (.Name n _) es [] _=>G n es
 |_=>false
noncomputable def v1(G:Expr->Bool):List Expr->Bool
 |[q]=>G q
 |_=>false
noncomputable def vL(G:List Expr->Bool):List Expr->Bool
 |[]=>false
 |e::es=>G (e::es)
theorem hJ{G:Str->List Expr->Bool}(h:vC G p=true):∃n pn es pos,p=.Call (.Name n pn) es [] pos/\G n es=true:=by
 cases p with
 |Call fn es ks pos=>
  cases fn with
  |Name n pn=>cases ks with
   |nil=>exact⟨n,pn,es,pos,rfl,h⟩
   |cons _ _=>exact absurd h aJ
  |_=>exact absurd h aJ
 |_=>exact absurd h aJ
theorem jF{G:Expr->Bool}(h:v1 G l=true):∃q,l=[q]/\G q=true:=by
 rcases l with _|⟨q,_|⟨q',es⟩⟩
 ·exact absurd h aJ
 ·exact⟨q,rfl,h⟩
 ·exact absurd h aJ
theorem vL_of{G:List Expr->Bool}(h:vL G l=true):∃e es,l=e::es/\G (e::es)=true:=by
 cases l with
 |nil=>exact absurd h aJ
 |cons e es=>exact⟨e,es,rfl,h⟩
noncomputable def vP(G:Expr->Expr->Bool):List Expr->Bool
 |[q,r]=>G q r
 |_=>false
theorem Aw{G:Expr->Expr->Bool}(h:vP G l=true):∃q r,l=[q,r]/\G q r=true:=by
 rcases l with _|⟨q,_|⟨r,_|⟨q',es⟩⟩⟩
 ·exact absurd h aJ
 ·exact absurd h aJ
 ·exact⟨q,r,rfl,h⟩
 ·exact absurd h aJ
noncomputable def v2(G:Str->Str->Expr->Bool):Expr->Bool:=vC λn=>v1 (vC λm=>v1 (G n m))
theorem Ax{G:Str->Str->Expr->Bool}(h:v2 G p=true):∃n pn m pm q pos2 pos,p=.Call (.Name n pn) [.Call (.Name m pm) [q] [] pos2] [] pos/\G n m q=true:=by
 obtain⟨n,pn,es,pos,rfl,g1⟩:=hJ h
 obtain⟨c,rfl,g2⟩:=jF g1
 obtain⟨m,pm,es2,pos2,rfl,g3⟩:=hJ g2
 obtain⟨q,rfl,g4⟩:=jF g3
 exact⟨n,pn,m,pm,q,pos2,pos,rfl,g4⟩
noncomputable def vM(G:Str->Str->Pos->Pos->List Expr->Bool):Stmt->Bool
 |.Expr (.Call (.Attribute (.Name n _) nm apos) es [] cpos) _=>G n nm apos cpos es
 |_=>false
theorem tW{G:Str->Str->Pos->Pos->List Expr->Bool}{p:Stmt}(h:vM G p=true):∃n px nm apos es cpos pos,p=.Expr (.Call (.Attribute (.Name n px) nm apos) es [] cpos) pos/\G n nm apos cpos es=true:=by
 cases p with
 |Expr v pos=>cases v with
  |Call f es ks cpos=>cases f with
   |Attribute o nm apos=>cases o with
    |Name n px=>cases ks with
     |nil=>exact⟨n,px,nm,apos,es,cpos,pos,rfl,h⟩
     |cons _ _=>exact absurd h aJ
    |_=>exact absurd h aJ
   |_=>exact absurd h aJ
  |_=>exact absurd h aJ
 |_=>exact absurd h aJ
noncomputable def vA(G:Expr->Expr->Bool):Stmt->Bool
 |.Assign tgs v _=>v1 (λtg=>G tg v) tgs
 |_=>false
theorem qD{G:Expr->Expr->Bool}{p:Stmt}(h:vA G p=true):∃tg v pos,p=.Assign [tg] v pos/\G tg v=true:=by
 cases p with
 |Assign tgs v pos=>
  obtain⟨tg,rfl,h⟩:=jF h
  exact⟨tg,v,pos,rfl,h⟩
 |_=>exact absurd h aJ
noncomputable def vX(G:Str->Expr->Bool):Expr->Bool
 |.Subscript (.Name n _) q _=>G n q
 |_=>false
theorem Ay{G:Str->Expr->Bool}(h:vX G p=true):∃n px q pos,p=.Subscript (.Name n px) q pos/\G n q=true:=by
 cases p with
 |Subscript o q pos=>cases o with
  |Name n px=>exact⟨n,px,q,pos,rfl,h⟩
  |_=>exact absurd h aJ
 |_=>exact absurd h aJ
noncomputable def vN(G:Str->Pos->Bool):Expr->Bool
 |.Name n pn=>G n pn
 |_=>false
theorem tX{G:Str->Pos->Bool}(h:vN G p=true):∃n pn,p=.Name n pn/\G n pn=true:=by
 cases p with
 |Name n pn=>exact⟨n,pn,rfl,h⟩
 |_=>exact absurd h aJ
noncomputable def vD:Expr->Bool
 |.Dict [] [] _=>true
 |_=>false
theorem Az(h:vD p=true):∃pos,p=.Dict [] [] pos:=by
 cases p with
 |Dict ks vs pos=>cases ks with
  |nil=>cases vs with
   |nil=>exact⟨pos,rfl⟩
   |cons _ _=>exact absurd h aJ
  |cons _ _=>exact absurd h aJ
 |_=>exact absurd h aJ
noncomputable def kC:Expr->Bool
 |.Name _ _=>true
 |.Call _ (_::_) _ _=>true
 |_=>false
theorem tY{e:Expr}{nm:Str}{env:Env}(h:kC e=true):attributeBase e nm env (eval e env)=eval e env:=by
 cases e with
 |Name n p=>rfl
 |Call f es ks p=>cases es with
  |nil=>exact absurd h aJ
  |cons a r=>cases f<;>rfl
 |_=>exact absurd h aJ
noncomputable def vF(G:Expr->Str->Bool):Expr->Bool
 |.Attribute o m _=>G o m
 |_=>false
theorem qE{G:Expr->Str->Bool}(h:vF G p=true):∃o m pos,p=.Attribute o m pos/\G o m=true:=by
 cases p with
 |Attribute o m pos=>exact⟨o,m,pos,rfl,h⟩
 |_=>exact absurd h aJ
noncomputable def vMc(G:Expr->Str->Pos->Pos->List Expr->Bool):Expr->Bool
 |.Call (.Attribute o m apos) (e::es) [] cpos=>G o m apos cpos (e::es)
 |_=>false
theorem BA{G:Expr->Str->Pos->Pos->List Expr->Bool}(h:vMc G p=true):∃o m apos e es cpos,p=.Call (.Attribute o m apos) (e::es) [] cpos/\G o m apos cpos (e::es)=true:=by
 cases p with
 |Call f es ks cpos=>cases f with
  |Attribute o nm apos=>cases es with
   |nil=>exact absurd h aJ
   |cons e es=>cases ks with
    |nil=>exact⟨o,nm,apos,e,es,cpos,rfl,h⟩
    |cons _ _=>exact absurd h aJ
  |_=>exact absurd h aJ
 |_=>exact absurd h aJ
noncomputable def lL:E->Bool
 |.anil=>true
 |_=>false
theorem tZ{a:E}(h:lL a=true):a=.anil:=by cases a<;>first|rfl|exact absurd h aJ
noncomputable def mCnt(Tx:Txt)(k:CK)(sc:Scope)(nr na:Bool)(R:Expr->Bool)(A:List Expr->Bool)(p:Expr):Bool:=match k with
 |.parts=>nr&&na&&vF (λo m=>(m == "parts")&&kC o&&R o) p
 |.clashes=>nr&&na&&vF (λo m=>(m == "clashes")&&kC o&&R o) p
 |.meth f m'=>nr&&vMc (λo m apos cpos es=>(m==m')&&Tx.mt.contains (f,m)&&kC o&&(apos.endLine==cpos.line)&&decide (es.length<30)&&R o&&A es) p
 |.make f=>nr&&na&&vC (λn=>v1 λq=>Tx.mc.contains (f,n)&&glB sc n&&gY n&&R q) p
theorem Jv{Tx:Txt}{k:CK}{sc:Scope}{nr na:Bool}{R:Expr->Bool}{A:List Expr->Bool}(h:mCnt Tx k sc nr na R A p=true):dC p=true:=by
 cases k with
 |parts=>obtain⟨_,_,_,rfl,_⟩:=qE (aD _ _▸(show(nr&&na&&vF _ p)=true from h)).2;rfl
 |clashes=>obtain⟨_,_,_,rfl,_⟩:=qE (aD _ _▸(show(nr&&na&&vF _ p)=true from h)).2;rfl
 |meth f m=>obtain⟨_,_,_,_,_,_,rfl,_⟩:=BA (aD _ _▸(show(nr&&vMc _ p)=true from h)).2;rfl
 |make f=>obtain⟨_,_,_,_,rfl,_⟩:=hJ (aD _ _▸(show(nr&&na&&vC _ p)=true from h)).2;rfl
section
variable(Tx:Txt)
mutual
noncomputable def mE:E->List Str->Scope->Expr->Bool
 |.var i,N,sc,.Name n _=>dD N sc i n
 |.rd i,N,sc,.Name n _=>dD N sc i n
 |.con d,_,_,.Constant c _ _=>sZ d c
 |.glob g,_,sc,.Name n _=>(Tx.gn[g]?==some n)&&glB sc n&&gY n
 |.bin o a b,N,sc,.BinOp l o' r _=>(o==o')&&mE a N sc l&&mE b N sc r
 |.cmp o a b,N,sc,.Compare l [o'] [r] _=>(o==o')&&mE a N sc l&&mE b N sc r
 |.chain o p a b c,N,sc,.Compare l [o',p'] [m,r] _=>(o==o')&&(p==p')&&mE a N sc l&&mE b N sc m&&mE c N sc r
 |.neg a,N,sc,.UnaryOp .USub l _=>mE a N sc l
 |.and a b,N,sc,.BoolOp .And [l,r] _=>!aH a&&!aH b&&mE a N sc l&&mE b N sc r
 |.and a b,N,sc,.BoolOp .And (l::r::r'::rest) pos=>!aH a&&!aH b&&mE a N sc l&&mE b N sc (.BoolOp .And (r::r'::rest) pos)
 |.or a b,N,sc,.BoolOp .Or [l,r] _=>!aH a&&!aH b&&mE a N sc l&&mE b N sc r
 |.or a b,N,sc,.BoolOp .Or (l::r::r'::rest) pos=>!aH a&&!aH b&&mE a N sc l&&mE b N sc (.BoolOp .Or (r::r'::rest) pos)
 |.not a,N,sc,.UnaryOp .Not l _=>mE a N sc l
 |.ife c a b,N,sc,.IfExp l m r _=>!aH a&&!aH b&&mE c N sc l&&mE a N sc m&&mE b N sc r
 |.ix a b,N,sc,.Subscript l r _=>mE a N sc l&&mE b N sc r
 |.sl a lo hi,N,sc,.Subscript l (.Slice p q none _) _=>mE a N sc l&&(match p with|none=>gZ lo|some p'=>!aH lo&&mE lo N sc p')&&(match q with|none=>gZ hi|some q'=>!aH hi&&mE hi N sc q')
 |.tup a,N,sc,.Tuple es _ _=>mA a false N sc es
 |.lst a,N,sc,.List es _=>mA a false N sc es
 |.call f a,N,sc,p=>vC (λn es=>(Tx.dn[f]?==some n)&&glB sc n&&gY n&&mA a false N sc es) p
 |.dlit a b,N,sc,.Dict [some k] [v] _=>!aH a&&!aH b&&mE a N sc k&&mE b N sc v
 |.trng a,N,sc,p=>v2 (λn m q=>(n == "tuple")&&(m == "range")&&glB sc n&&glB sc m&&!aH a&&mE a N sc q) p
 |.getV a b,N,sc,.Call (.Attribute o nm apos) [q] [] cpos=>(nm == "get")&&pZ o&&(apos.endLine==cpos.line)&&!aH a&&!aH b&&mE a N sc o&&mE b N sc q
 |.bt b a,N,sc,p=>vC (λn=>vL λes=>b.use&&(n==b.nm)&&glB sc n&&mA a true N sc es) p
 |.lrng a,N,sc,p=>v2 (λn m q=>(n == "list")&&(m == "range")&&glB sc n&&glB sc m&&!aH a&&mE a N sc q) p
 |.cnt k r a,N,sc,p=>mCnt Tx k sc (!aH r) (lL a) (mE r N sc) (mA a false N sc) p
 |.isi a t,N,sc,p=>vC (λn=>vP λl r=>vN (λm _=>(n == "isinstance")&&(m==Str.ofString t.nm)&&glB sc n&&glB sc m&&mE a N sc l) r) p
 |.comp own caps g elt src cond,N,sc,.ListComp pe [⟨tg,iter,ifs,isa⟩] scope _=>
  (isa==0)&&scB sc scope&&nT N scope caps&&gJ caps&&gJ (cQ tg++cR N caps)&&(own==(cQ tg).length)&&g.below own&&mG true (cQ tg++cR N caps) (iO scope sc) g tg &&
  mI src true N sc tg iter&&!aH elt&&mE elt (cQ tg++cR N caps) (iO scope sc) pe &&
  (match ifs with
   |[]=>qC cond
   |[c]=>mE cond (cQ tg++cR N caps) (iO scope sc) c
   |_=>false)
 |_,_,_,_=>false
termination_by structural x=>x
noncomputable def mA:E->Bool->List Str->Scope->List Expr->Bool
 |.anil,_,_,_,[]=>true
 |.acons a r,rd,N,sc,p::ps=>(rd||!aH a)&&mE a N sc p&&mA r rd N sc ps
 |_,_,_,_,_=>false
termination_by structural x=>x
noncomputable def mI:E->Bool->List Str->Scope->Expr->Expr->Bool
 |.seq a,rd,N,sc,_,p=>(rd||!aH a)&&mE a N sc p
 |.rng a,_,N,sc,_,p=>vC (λn=>v1 λq=>(n == "range")&&glB sc n&&!aH a&&mE a N sc q) p
 |.rng2 a b,_,N,sc,_,p=>vC (λn=>vP λq r=>(n == "range")&&glB sc n&&!aH a&&!aH b&&mE a N sc q&&mE b N sc r) p
 |.enum a,rd,N,sc,tg,p=>vC (λn=>v1 λq=>(n == "enumerate")&&glB sc n&&lK tg&&(rd||!aH a)&&mE a N sc q) p
 |.seqD a,_,N,sc,_,p=>!aH a&&mE a N sc p
 |.enumS a b,_,N,sc,tg,.Call (.Name n _) [q] [⟨some kn,r,_⟩] _=>(n == "enumerate")&&(kn == "start")&&glB sc n&&lK tg&&!aH a&&!aH b&&mE a N sc q&&mE b N sc r
 |_,_,_,_,_,_=>false
termination_by structural x=>x
end
end
end Tr
namespace Tr
open PySem PySem.Spec PyProof.Rows L2
variable{o:CmpOp}{a b c:E}{i:Nat}
section
variable{Tx:Txt}{N:List Str}{sc:Scope}{p tg:Expr}
theorem nof{P:Prop}(h:false=true):P:=absurd h aJ
theorem aR{a b:Bool}(h:(a&&b)=true):a=true/\b=true:=by rw[aD]at h;exact h
theorem fB{a:Bool}(h:(!a)=true):a=false:=by rw[bM]at h;exact h
theorem qF{α:Type}[BEq α][LawfulBEq α]{a b:α}(h:(a==b)=true):a=b:=eq_of_beq h
theorem BB(h:mE Tx (.var i) N sc p=true):∃n pos,p=.Name n pos/\dD N sc i n=true:=by
 cases p<;>first|exact nof h|exact⟨_,_,rfl,h⟩
theorem i_rd(h:mE Tx (.rd i) N sc p=true):∃n pos,p=.Name n pos/\dD N sc i n=true:=by
 cases p<;>first|exact nof h|exact⟨_,_,rfl,h⟩
theorem BC{d:D}(h:mE Tx (.con d) N sc p=true):∃c k pos,p=.Constant c k pos/\sZ d c=true:=by
 cases p<;>first|exact nof h|exact⟨_,_,_,rfl,h⟩
theorem BD{g:Nat}(h:mE Tx (.glob g) N sc p=true):∃n pos,p=.Name n pos/\(Tx.gn[g]?==some n&&glB sc n&&gY n)=true:=by
 cases p<;>first|exact nof h|exact⟨_,_,rfl,h⟩
theorem BE{o:Operator}(h:mE Tx (.bin o a b) N sc p=true):∃l r pos,p=.BinOp l o r pos/\mE Tx a N sc l=true/\mE Tx b N sc r=true:=by
 cases p with
 |BinOp l o' r pos=>
  have h:=aR (show((o==o')&&mE Tx a N sc l&&mE Tx b N sc r)=true from h)
  have h1:=aR h.1
  have e:o=o':=qF h1.1
  subst e
  exact⟨l,r,pos,rfl,h1.2,h.2⟩
 |_=>exact nof h
theorem BF(h:mE Tx (.cmp o a b) N sc p=true):∃l r pos,p=.Compare l [o] [r] pos/\mE Tx a N sc l=true/\mE Tx b N sc r=true:=by
 cases p with
 |Compare l os rs pos=>
  rcases os with _|⟨o',_|⟨o'',os⟩⟩
  ·exact nof h
  ·rcases rs with _|⟨r,_|⟨r',rs⟩⟩
   ·exact nof h
   ·have h:=aR (show((o==o')&&mE Tx a N sc l&&mE Tx b N sc r)=true from h)
    have h1:=aR h.1
    have e:o=o':=qF h1.1
    subst e
    exact⟨l,r,pos,rfl,h1.2,h.2⟩
   ·exact nof h
  ·exact nof h
 |_=>exact nof h
theorem BG{o':CmpOp}(h:mE Tx (.chain o o' a b c) N sc p=true):∃l m r pos,p=.Compare l [o,o'] [m,r] pos/\mE Tx a N sc l=true/\mE Tx b N sc m=true/\mE Tx c N sc r=true:=by
 cases p with
 |Compare l os rs pos=>
  rcases os with _|⟨p1,_|⟨p2,_|⟨p3,os⟩⟩⟩
  ·exact nof h
  ·exact nof h
  ·rcases rs with _|⟨r1,_|⟨r2,_|⟨r3,rs⟩⟩⟩
   ·exact nof h
   ·exact nof h
   ·have h:=aR (show((o==p1)&&(o'==p2)&&mE Tx a N sc l&&mE Tx b N sc r1&&mE Tx c N sc r2)=true from h)
    have h1:=aR h.1
    have h2:=aR h1.1
    have h3:=aR h2.1
    have e:o=p1:=qF h3.1
    have e2:o'=p2:=qF h3.2
    subst e e2
    exact⟨l,r1,r2,pos,rfl,h2.2,h1.2,h.2⟩
   ·exact nof h
  ·exact nof h
 |_=>exact nof h
theorem BH(h:mE Tx (.neg a) N sc p=true):∃l pos,p=.UnaryOp .USub l pos/\mE Tx a N sc l=true:=by
 cases p with
 |UnaryOp op l pos=>cases op<;>first|exact nof h|exact⟨_,_,rfl,h⟩
 |_=>exact nof h
theorem BI(h:mE Tx (.dlit a b) N sc p=true):∃k v pos,p=.Dict [some k] [v] pos/\(!aH a&&!aH b&&mE Tx a N sc k&&mE Tx b N sc v)=true:=by
 cases p with
 |Dict ks vs pos=>
  rcases ks with _|⟨k,_|⟨k',ks⟩⟩
  ·exact nof h
  ·cases k with
   |none=>exact nof h
   |some k=>
    rcases vs with _|⟨v,_|⟨v',vs⟩⟩
    ·exact nof h
    ·exact⟨k,v,pos,rfl,h⟩
    ·exact nof h
  ·cases k<;>exact nof h
 |_=>exact nof h
theorem BJ (h:mE Tx (.getV a b) N sc p=true):∃o nm apos q cpos,p=.Call (.Attribute o nm apos) [q] [] cpos/\((nm == "get")&&pZ o&&(apos.endLine==cpos.line)&&!aH a&&!aH b&&mE Tx a N sc o&&mE Tx b N sc q)=true:=by
 cases p with
 |Call fn es ks pos=>
  cases fn with
  |Attribute o nm apos=>
   rcases es with _|⟨q,_|⟨q',es⟩⟩
   ·exact nof h
   ·cases ks with
    |nil=>exact⟨o,nm,apos,q,pos,rfl,h⟩
    |cons _ _=>exact nof h
   ·exact nof h
  |_=>exact nof h
 |_=>exact nof h
theorem BL(h:mE Tx (.and a b) N sc p=true):∃l r rest pos,p=.BoolOp .And (l::r::rest) pos/\aH a=false/\aH b=false/\mE Tx a N sc l=true/\((rest=[]/\mE Tx b N sc r=true)\/(∃r' rs,rest=r'::rs/\mE Tx b N sc (.BoolOp .And (r::rest) pos)=true)):=by
 cases p with
 |BoolOp op vs pos=>
  cases op with
  |Or=>exact nof h
  |And=>
   rcases vs with _|⟨l,_|⟨r,_|⟨r',rest⟩⟩⟩
   ·exact nof h
   ·exact nof h
   ·have h:=aR (show(!aH a&&!aH b&&mE Tx a N sc l&&mE Tx b N sc r)=true from h)
    have h1:=aR h.1
    have h2:=aR h1.1
    exact⟨l,r,[],pos,rfl,fB h2.1,fB h2.2,h1.2,.inl ⟨rfl,h.2⟩⟩
   ·have h:=aR (show(!aH a&&!aH b&&mE Tx a N sc l&&mE Tx b N sc (.BoolOp .And (r::r'::rest) pos))=true from h)
    have h1:=aR h.1
    have h2:=aR h1.1
    exact⟨l,r,r'::rest,pos,rfl,fB h2.1,fB h2.2,h1.2,.inr ⟨r',rest,rfl,h.2⟩⟩
 |_=>exact nof h
theorem i_or(h:mE Tx (.or a b) N sc p=true):∃l r rest pos,p=.BoolOp .Or (l::r::rest) pos/\aH a=false/\aH b=false/\mE Tx a N sc l=true/\((rest=[]/\mE Tx b N sc r=true)\/(∃r' rs,rest=r'::rs/\mE Tx b N sc (.BoolOp .Or (r::rest) pos)=true)):=by
 cases p with
 |BoolOp op vs pos=>
  cases op with
  |And=>exact nof h
  |Or=>
   rcases vs with _|⟨l,_|⟨r,_|⟨r',rest⟩⟩⟩
   ·exact nof h
   ·exact nof h
   ·have h:=aR (show(!aH a&&!aH b&&mE Tx a N sc l&&mE Tx b N sc r)=true from h)
    have h1:=aR h.1
    have h2:=aR h1.1
    exact⟨l,r,[],pos,rfl,fB h2.1,fB h2.2,h1.2,.inl ⟨rfl,h.2⟩⟩
   ·have h:=aR (show(!aH a&&!aH b&&mE Tx a N sc l&&mE Tx b N sc (.BoolOp .Or (r::r'::rest) pos))=true from h)
    have h1:=aR h.1
    have h2:=aR h1.1
    exact⟨l,r,r'::rest,pos,rfl,fB h2.1,fB h2.2,h1.2,.inr ⟨r',rest,rfl,h.2⟩⟩
 |_=>exact nof h
theorem BM(h:mE Tx (.not a) N sc p=true):∃l pos,p=.UnaryOp .Not l pos/\mE Tx a N sc l=true:=by
 cases p with
 |UnaryOp op l pos=>cases op<;>first|exact nof h|exact⟨_,_,rfl,h⟩
 |_=>exact nof h
theorem BN(h:mE Tx (.ife c a b) N sc p=true):∃l m r pos,p=.IfExp l m r pos/\aH a=false/\aH b=false/\mE Tx c N sc l=true/\mE Tx a N sc m=true/\mE Tx b N sc r=true:=by
 cases p with
 |IfExp l m r pos=>
  have h:=aR (show(!aH a&&!aH b&&mE Tx c N sc l&&mE Tx a N sc m&&mE Tx b N sc r)=true from h)
  have h1:=aR h.1
  have h2:=aR h1.1
  have h3:=aR h2.1
  exact⟨l,m,r,pos,rfl,fB h3.1,fB h3.2,h2.2,h1.2,h.2⟩
 |_=>exact nof h
theorem i_ix(h:mE Tx (.ix a b) N sc p=true):∃l r pos,p=.Subscript l r pos/\mE Tx a N sc l=true/\mE Tx b N sc r=true:=by
 cases p with
 |Subscript l r pos=>
  have h:=aR (show(mE Tx a N sc l&&mE Tx b N sc r)=true from h)
  exact⟨l,r,pos,rfl,h.1,h.2⟩
 |_=>exact nof h
theorem i_sl{lo hi:E}(h:mE Tx (.sl a lo hi) N sc p=true):∃l pl ph pos pos',p=.Subscript l (.Slice pl ph none pos') pos/\mE Tx a N sc l=true/\((pl=none/\gZ lo=true)\/∃q,pl=some q/\aH lo=false/\mE Tx lo N sc q=true)/\((ph=none/\gZ hi=true)\/∃q,ph=some q/\aH hi=false/\mE Tx hi N sc q=true):=by
 cases p with
 |Subscript l r pos=>
  cases r with
  |Slice pl ph st pos'=>
   cases st with
   |some _=>exact nof h
   |none=>
    refine⟨l,pl,ph,pos,pos',rfl,?_⟩
    cases pl with
    |none=>
     cases ph with
     |none=>
      have h:=aR (show(mE Tx a N sc l&&gZ lo&&gZ hi)=true from h)
      exact⟨(aR h.1).1,.inl ⟨rfl,(aR h.1).2⟩,.inl ⟨rfl,h.2⟩⟩
     |some q=>
      have h:=aR (show(mE Tx a N sc l&&gZ lo&&(!aH hi&&mE Tx hi N sc q))=true from h)
      exact⟨(aR h.1).1,.inl ⟨rfl,(aR h.1).2⟩,.inr ⟨q,rfl,fB (aR h.2).1,(aR h.2).2⟩⟩
    |some q0=>
     cases ph with
     |none=>
      have h:=aR (show(mE Tx a N sc l&&(!aH lo&&mE Tx lo N sc q0)&&gZ hi)=true from h)
      exact⟨(aR h.1).1,.inr ⟨q0,rfl,fB (aR (aR h.1).2).1,(aR (aR h.1).2).2⟩,.inl ⟨rfl,h.2⟩⟩
     |some q=>
      have h:=aR (show(mE Tx a N sc l&&(!aH lo&&mE Tx lo N sc q0)&&(!aH hi&&mE Tx hi N sc q))=true from h)
      exact⟨(aR h.1).1,.inr ⟨q0,rfl,fB (aR (aR h.1).2).1,(aR (aR h.1).2).2⟩,.inr ⟨q,rfl,fB (aR h.2).1,(aR h.2).2⟩⟩
  |_=>exact nof h
 |_=>exact nof h
theorem BO(h:mE Tx (.tup a) N sc p=true):∃es k pos,p=.Tuple es k pos/\mA Tx a false N sc es=true:=by
 cases p<;>first|exact nof h|exact⟨_,_,_,rfl,h⟩
theorem BP(h:mE Tx (.lst a) N sc p=true):∃es pos,p=.List es pos/\mA Tx a false N sc es=true:=by
 cases p<;>first|exact nof h|exact⟨_,_,rfl,h⟩
theorem uA{f:Nat}(h:mE Tx (.call f a) N sc p=true):∃n pn es pos,p=.Call (.Name n pn) es [] pos/\(Tx.dn[f]?==some n&&glB sc n&&gY n&&mA Tx a false N sc es)=true:=by
 exact hJ h
theorem i_bt{b:Bt}(h:mE Tx (.bt b a) N sc p=true):∃n pn e es pos,p=.Call (.Name n pn) (e::es) [] pos/\(b.use&&(n==b.nm)&&glB sc n&&mA Tx a true N sc (e::es))=true:=by
 obtain⟨n,pn,es,pos,rfl,g1⟩:=hJ h
 obtain⟨e,es,rfl,g2⟩:=vL_of g1
 exact⟨n,pn,e,es,pos,rfl,g2⟩
theorem BQ (h:mE Tx (.lrng a) N sc p=true):∃n pn m pm q pos2 pos,p=.Call (.Name n pn) [.Call (.Name m pm) [q] [] pos2] [] pos/\((n == "list")&&(m == "range")&&glB sc n&&glB sc m&&!aH a&&mE Tx a N sc q)=true:=by
 exact Ax h
theorem BR (h:mE Tx (.trng a) N sc p=true):∃n pn m pm q pos2 pos,p=.Call (.Name n pn) [.Call (.Name m pm) [q] [] pos2] [] pos/\((n == "tuple")&&(m == "range")&&glB sc n&&glB sc m&&!aH a&&mE Tx a N sc q)=true:=by
 exact Ax h
theorem BS {t:Ty} (h:mE Tx (.isi a t) N sc p=true):∃n pn l m pm pos,p=.Call (.Name n pn) [l,.Name m pm] [] pos/\((n == "isinstance")&&(m==Str.ofString t.nm)&&glB sc n&&glB sc m&&mE Tx a N sc l)=true:=by
 obtain⟨n,pn,es,pos,rfl,g1⟩:=hJ h
 obtain⟨l,r,rfl,g2⟩:=Aw g1
 obtain⟨m,pm,rfl,g3⟩:=tX g2
 exact⟨n,pn,l,m,pm,pos,rfl,g3⟩
end
end Tr
namespace Tr
open PySem PySem.Spec PyProof.Rows L2
variable{loc:Bool}{a b x:E}{p tg:Expr}{g:G}{caps:List Nat}{N:List Str}{sc scope:Scope}{n:Str}
noncomputable def jG:List Str:=["len", "sum", "tuple", "list", "int", "str", "isinstance", "range", "enumerate", "bool", "abs", "min", "max", "all", "any", "set", "zip", "sorted", "dict"]
set_option genInjectivity false in
structure OkX(T:Tab)(cf:Nat->List D->Res D)(Tx:Txt)(X:Cx):Prop where
 calm:X.calm=true
 roomy:fP X
 defs:∀f n,Tx.dn[f]?=some n->nP T cf X f n
 globs:∀g n,Tx.gn[g]?=some n->AE X n (T.glob g)
 blt:∀n∈jG,X.mg n=none
 nd:X.N.Nodup
 tf:∀q∈Tx.tf,TabF T cf X q.1 q.2
 ts:∀q∈Tx.ts,TabS X q.1 q.2
 dm:∀q∈Tx.dm,Aq T cf X q.1 q.2
 ck:lI X.K
 mt:∀q∈Tx.mt,An T cf X q.1 q.2
 mc:∀q∈Tx.mc,Ao T cf X q.1 q.2
section
variable{T:Tab}{cf:Nat->List D->Res D}{Tx:Txt}{X:Cx}
theorem gK {i:Nat} (h:dD N sc i n=true):N[i]?=some n/\Vis sc n/\(n==("__debug__" : Str))=false/\(n==("__classdict__" : Str))=false:=by
 simp only[dD,visB,gY,aD,fH,bM,beq_iff_eq]at h
 refine⟨h.1.1,?_,h.2.1,h.2.2⟩
 rcases h.1.2 with(z|z)|z
 ·exact .inl z
 ·exact .inr (.inl z)
 ·exact .inr (.inr z)
theorem eT(h:glB X.env.scope n=true):Gl X n:=by
 have h':X.env.scope.names.lookup n=some .globalImplicit:=by simpa[glB]using h
 exact h'
noncomputable def uB:Expr->Bool
 |.BoolOp _ _ _=>true
 |_=>false
theorem qG (h:gY n=true):(n==("__debug__" : Str))=false:=by
 simp only[gY,aD,bM]at h
 exact h.1
theorem BU(hN:X.N.Nodup)(hf:∀n,loc=false->X.fn n=true):∀{is:List Nat} {es:List Expr},mGs loc X.N X.env.scope is es=true->SGs X is es/\nR es=true/\es.length=is.length
 |[],[],_=>⟨JO,rfl,rfl⟩
 |[],_::_,h=>by exact nof h
 |_::_,[],h=>by exact nof h
 |i::is,e::es,h=>by
  cases e with
  |Name n pos=>
   change (_&&(_||_)&&_)=true at h
   simp only[aD,fH,beq_iff_eq,bM]at h
   obtain⟨⟨h1,h2⟩,h3⟩:=h
   obtain⟨a1,a2,a3⟩:=BU hN hf h3
   refine⟨JQ hN h1 ?_ ?_ a1,a2,by rw[aN,aN,a3]⟩
   ·rcases h2 with z|z
    ·exact .inl z
    ·exact .inr z.2
   ·rcases h2 with z|z
    ·exact .inr z
    ·exact .inl (hf n z.1)
  |_=>exact nof h
theorem uC(hc:X.calm=true)(hN:X.N.Nodup)(hf:∀n,loc=false->X.fn n=true)(h:mG loc X.N X.env.scope g tg=true):SG X g tg/\aX tg=true:=by
 cases g with
 |one i=>
  cases tg with
  |Name n pos=>
   change (_&&(_||_))=true at h
   simp only[aD,fH,beq_iff_eq,bM]at h
   refine⟨sg_one hN h.1 ?_ ?_,rfl⟩
   ·rcases h.2 with z|z
    ·exact .inl z
    ·exact .inr z.2
   ·rcases h.2 with z|z
    ·exact .inr z
    ·exact .inl (hf n z.1)
  |_=>exact nof h
 |many is=>
  cases tg with
  |Tuple es k pos=>
   obtain⟨a1,a2,a3⟩:=BU hN hf h
   exact⟨JT hc a2 a3 a1,rfl⟩
  |_=>exact nof h
noncomputable def PEx(T:Tab)(cf:Nat->List D->Res D)(Tx:Txt)(x:E):Prop:=∀X p,OkX T cf Tx X->mE Tx x X.N X.env.scope p=true->SR T cf X x p/\(aH x=false->SE T cf X x p)/\ST T cf X x p/\aX p=true/\(uB p=true->SW T cf X x p)
noncomputable def PAx(T:Tab)(cf:Nat->List D->Res D)(Tx:Txt)(x:E):Prop:=∀X rd ps,OkX T cf Tx X->mA Tx x rd X.N X.env.scope ps=true->SAr T cf X x ps/\(rd=false->SAv T cf X x ps)/\ps.all aX=true
noncomputable def PIx(T:Tab)(cf:Nat->List D->Res D)(Tx:Txt)(x:E):Prop:=∀X rd tg p,OkX T cf Tx X->mI Tx x rd X.N X.env.scope tg p=true->SI T cf X tg x rd p/\aX p=true
theorem noA(h:∀rd N sc ps,mA Tx x rd N sc ps=false):PAx T cf Tx x:=λX rd ps _ m=>by rw[h]at m;cases m
theorem noI(h:∀rd N sc tg p,mI Tx x rd N sc tg p=false):PIx T cf Tx x:=λX rd tg p _ m=>by rw[h]at m;cases m
theorem noE(h:∀N sc p,mE Tx x N sc p=false):PEx T cf Tx x:=λX p _ m=>by rw[h]at m;cases m
theorem cS(h:SE T cf X x p)(he:∀whole,isTrue p X.env whole=(do let v<-whole;standAt p.pos;holding [v] (truthy v)))(hp:aX p=true)(hb:uB p=false:=by rfl):SR T cf X x p/\(aH x=false->SE T cf X x p)/\ST T cf X x p/\aX p=true/\(uB p=true->SW T cf X x p):=
 ⟨h.sr,λ_=>h,AX h.sr he,hp,λz=>by rw[hb]at z;cases z⟩
theorem okC(ok:OkX T cf Tx X){C:Addr}{Nc:List Str}{s2:Shared}{H2:Hp}{fp:List Addr}(h:Nc.Nodup):OkX T cf Tx (cxC X scope C Nc s2 H2 fp):=
 ⟨ok.calm,ok.roomy,ok.defs,ok.globs,ok.blt,h,ok.tf,ok.ts,ok.dm,ok.ck,ok.mt,ok.mc⟩
theorem scC_of(h:scB X.env.scope scope=true):ScopeC X scope:=by
 simp only[scB,aD,eP,fH,bM,beq_iff_eq,beq_eq_false_iff_ne,ne_eq]at h
 obtain⟨⟨⟨h1,h2⟩,h3⟩,h4⟩:=h
 refine⟨h1,h2,λx hx e=>?_,λx hx e=>?_,λx hx e=>?_⟩
 ·rcases h3 x hx with z|z
  ·exact absurd e z
  ·exact z
 ·rcases h4 x hx with z|z
  ·exact absurd e z
  ·exact z.1
 ·rcases h4 x hx with z|z
  ·exact absurd e z
  ·exact z.2
theorem capsOk{own:Nat}{tn:List Str}(h:nT X.N scope caps=true)(hn:gJ caps=true)(ho:own=tn.length):CapsOk X scope own caps (tn++cR X.N caps):=by
 refine⟨by rw[bB,ho,cR,aI],qB hn,λj i hj=>?_⟩
 simp only[nT,eP]at h
 have:=h i (iB hj)
 cases e:X.N[i]? with
 |none=>rw[e]at this;cases this
 |some n=>
  rw[e]at this
  refine⟨n,rfl,?_,by simpa using this⟩
  rw[ho,gE (by lia),show tn.length+j-tn.length=j by lia,cR,bX,hj]
  simp[e]
theorem i_rng {rd:Bool} (h:mI Tx (.rng a) rd N sc tg p=true):∃n pn q pos,p=.Call (.Name n pn) [q] [] pos/\((n == "range")&&glB sc n&&!aH a&&mE Tx a N sc q)=true:=by
 obtain⟨n,pn,es,pos,rfl,g1⟩:=hJ h
 obtain⟨q,rfl,g2⟩:=jF g1
 exact⟨n,pn,q,pos,rfl,g2⟩
theorem i_rng2 {rd:Bool} (h:mI Tx (.rng2 a b) rd N sc tg p=true):∃n pn q r pos,p=.Call (.Name n pn) [q,r] [] pos/\((n == "range")&&glB sc n&&!aH a&&!aH b&&mE Tx a N sc q&&mE Tx b N sc r)=true:=by
 obtain⟨n,pn,es,pos,rfl,g1⟩:=hJ h
 obtain⟨q,r,rfl,g2⟩:=Aw g1
 exact⟨n,pn,q,r,pos,rfl,g2⟩
theorem Jw {rd:Bool} (h:mI Tx (.enumS a b) rd N sc tg p=true):∃n pn q kn r kp pos,p=.Call (.Name n pn) [q] [⟨some kn,r,kp⟩] pos/\((n == "enumerate")&&(kn == "start")&&glB sc n&&lK tg&&!aH a&&!aH b&&mE Tx a N sc q&&mE Tx b N sc r)=true:=by
 cases p with
 |Call f es ks pos=>cases f with
  |Name n pn=>
   rcases es with _|⟨q,_|⟨q',es⟩⟩
   ·exact nof h
   ·rcases ks with _|⟨⟨kn,r,kp⟩,_|⟨k',ks⟩⟩
    ·exact nof h
    ·cases kn with
     |none=>exact nof h
     |some kn=>exact⟨n,pn,q,kn,r,kp,pos,rfl,h⟩
    ·cases kn<;>exact nof h
   ·exact nof h
  |_=>exact nof h
 |_=>exact nof h
theorem i_enum {rd:Bool} (h:mI Tx (.enum a) rd N sc tg p=true):∃n pn q pos,p=.Call (.Name n pn) [q] [] pos/\((n == "enumerate")&&glB sc n&&lK tg&&(rd||!aH a)&&mE Tx a N sc q)=true:=by
 obtain⟨n,pn,es,pos,rfl,g1⟩:=hJ h
 obtain⟨q,rfl,g2⟩:=jF g1
 exact⟨n,pn,q,pos,rfl,g2⟩
theorem BV{own:Nat}{elt src cond:E}(h:mE Tx (.comp own caps g elt src cond) N sc p=true):∃pe tg iter ifs scope pos,p=.ListComp pe [⟨tg,iter,ifs,0⟩] scope pos /\
 scB sc scope=true/\nT N scope caps=true/\gJ caps=true/\gJ (cQ tg++cR N caps)=true/\own=(cQ tg).length/\g.below own=true/\mG true (cQ tg++cR N caps) (iO scope sc) g tg=true /\
 mI Tx src true N sc tg iter=true/\aH elt=false/\mE Tx elt (cQ tg++cR N caps) (iO scope sc) pe=true /\
 ((ifs=[]/\qC cond=true)\/∃c,ifs=[c]/\mE Tx cond (cQ tg++cR N caps) (iO scope sc) c=true):=by
 cases p with
 |ListComp pe gens scope pos=>
  rcases gens with _|⟨⟨tg,iter,ifs,isa⟩,_|⟨g2,gens⟩⟩
  ·exact nof h
  ·change (_&&_)=true at h;simp only[aD,bM,beq_iff_eq]at h
   obtain⟨⟨⟨⟨⟨⟨⟨⟨⟨⟨⟨a1,a2⟩,a3⟩,a4⟩,a5⟩,a6⟩,a7⟩,a8⟩,a9⟩,a10⟩,a11⟩,a12⟩:=h
   subst a1
   refine⟨pe,tg,iter,ifs,scope,pos,rfl,a2,a3,a4,a5,a6,a7,a8,a9,a10,a11,?_⟩
   rcases ifs with _|⟨c,_|⟨c',ifs⟩⟩
   ·exact .inl ⟨rfl,a12⟩
   ·exact .inr ⟨c,rfl,a12⟩
   ·cases a12
  ·exact nof h
 |_=>exact nof h
theorem BW{own:Nat}{caps:List Nat}{g:G}{elt src cond:E}{pe tg iter:Expr}{ifs:List Expr}{scope:Scope}(ok:OkX T cf Tx X)(ie:PEx T cf Tx elt)(is:PIx T cf Tx src)(ic:PEx T cf Tx cond)
 (a2:scB X.env.scope scope=true) (a3:nT X.N scope caps=true) (a4:gJ caps=true) (a5:gJ (cQ tg++cR X.N caps)=true) (a6:own=(cQ tg).length) (a8:mG true (cQ tg++cR X.N caps) (iO scope X.env.scope) g tg=true)
 (a9:mI Tx src true X.N X.env.scope tg iter=true) (a10:aH elt=false) (a11:mE Tx elt (cQ tg++cR X.N caps) (iO scope X.env.scope) pe=true)
 (a12:(ifs=[]/\qC cond=true)\/∃c,ifs=[c]/\mE Tx cond (cQ tg++cR X.N caps) (iO scope X.env.scope) c=true) :
 ScopeC X scope/\CapsOk X scope own caps (cQ tg++cR X.N caps)/\aX iter=true/\SI T cf X tg src true iter /\
 ∀C s2 H2 fp,(cxC X scope C (cQ tg++cR X.N caps) s2 H2 fp).Ok->SG (cxC X scope C (cQ tg++cR X.N caps) s2 H2 fp) g tg/\SE T cf (cxC X scope C (cQ tg++cR X.N caps) s2 H2 fp) elt pe/\nS ifs cond (ST T cf (cxC X scope C (cQ tg++cR X.N caps) s2 H2 fp) cond):=by
 obtain⟨s1,s2⟩:=is X true tg iter ok a9
 refine⟨scC_of a2,capsOk a3 a4 a6,s2,s1,λC s2 H2 fp _=>?_⟩
 have okc:OkX T cf Tx (cxC X scope C (cQ tg++cR X.N caps) s2 H2 fp):=okC ok (qB a5)
 refine⟨(uC (X:=cxC X scope C (cQ tg++cR X.N caps) s2 H2 fp) ok.calm okc.nd (λn z=>by cases z) a8).1,(ie _ _ okc a11).2.1 a10,?_⟩
 rcases a12 with⟨z1,z2⟩|⟨c,z1,z2⟩
 ·refine .inl ⟨z1,?_⟩
  unfold qC at z2
  split at z2
  ·rfl
  ·cases z2
 ·exact .inr ⟨c,z1,(ic _ _ okc z2).2.2.1⟩
theorem mA_nil{rd:Bool}(h:mA Tx a rd N sc []=true):a=.anil:=by
 cases a with
 |anil=>rfl
 |_=>exact nof h
theorem cX:∀x:E,PEx T cf Tx x/\PAx T cf Tx x/\PIx T cf Tx x:=by
 intro x
 induction x with
 |var i=>
  refine⟨λX p ok h=>?_,noA λrd N sc ps=>rfl,noI λrd N sc tg p=>rfl⟩
  obtain⟨n,pos,rfl,hn⟩:=BB h
  obtain⟨a1,a2,a3,a4⟩:=gK hn
  exact cS (se_var a1 a2 a3 a4) (λ_=>rfl) rfl
 |rd i=>
  refine⟨λX p ok h=>?_,noA λrd N sc ps=>rfl,noI λrd N sc tg p=>rfl⟩
  obtain⟨n,pos,rfl,hn⟩:=i_rd h
  obtain⟨a1,a2,a3,a4⟩:=gK hn
  exact⟨AD a1 a2 a3 a4,(λz=>by cases z),AX (AD a1 a2 a3 a4) (λ_=>rfl),rfl,λz=>by cases z⟩
 |con d=>
  refine⟨λX p ok h=>?_,noA λrd N sc ps=>rfl,noI λrd N sc tg p=>rfl⟩
  obtain⟨c,k,pos,rfl,hn⟩:=BC h
  exact cS (se_con hn) (λ_=>rfl) rfl
 |glob g=>
  refine⟨λX p ok h=>?_,noA λrd N sc ps=>rfl,noI λrd N sc tg p=>rfl⟩
  obtain⟨n,pos,rfl,hn⟩:=BD h
  simp only[aD,beq_iff_eq]at hn
  exact cS (IP (eT hn.1.2) (ok.globs g n hn.1.1) (qG hn.2)) (λ_=>rfl) rfl
 |bin o a b iha ihb=>
  refine⟨λX p ok h=>?_,noA λrd N sc ps=>rfl,noI λrd N sc tg p=>rfl⟩
  obtain⟨l,r,pos,rfl,h1,h2⟩:=BE h
  exact cS (se_bin (iha.1 X l ok h1).1 (ihb.1 X r ok h2).1) (λ_=>rfl) rfl
 |cmp o a b iha ihb=>
  refine⟨λX p ok h=>?_,noA λrd N sc ps=>rfl,noI λrd N sc tg p=>rfl⟩
  obtain⟨l,r,pos,rfl,h1,h2⟩:=BF h
  have hb:=ihb.1 X r ok h2
  have se:=se_cmp (o:=o) (pos:=pos) ok.roomy hb.2.2.2.1 (iha.1 X l ok h1).1 hb.1
  exact⟨se.sr,λ_=>se,st_cmp ok.roomy hb.2.2.2.1 (iha.1 X l ok h1).1 hb.1,rfl,λz=>by cases z⟩
 |chain o o' a b c iha ihb ihc=>
  refine⟨λX p ok h=>?_,noA λrd N sc ps=>rfl,noI λrd N sc tg p=>rfl⟩
  obtain⟨l,m,r,pos,rfl,h1,h2,h3⟩:=BG h
  have hc:=ihc.1 X r ok h3
  have se:=Iv (o:=o) (o':=o') (pos:=pos) ok.roomy hc.2.2.2.1 (iha.1 X l ok h1).1 (ihb.1 X m ok h2).1 hc.1
  exact⟨se.sr,λ_=>se,Iw ok.roomy hc.2.2.2.1 (iha.1 X l ok h1).1 (ihb.1 X m ok h2).1 hc.1,rfl,λz=>by cases z⟩
 |dlit a b iha ihb=>
  refine⟨λX p ok h=>?_,noA λrd N sc ps=>rfl,noI λrd N sc tg p=>rfl⟩
  obtain⟨k,v,pos,rfl,hn⟩:=BI h
  simp only[aD,bM]at hn
  exact cS (Jp ok.roomy ((iha.1 X k ok hn.1.2).2.1 hn.1.1.1) ((ihb.1 X v ok hn.2).2.1 hn.1.1.2)) (λ_=>rfl) rfl
 |getV a b iha ihb=>
  refine⟨λX p ok h=>?_,noA λrd N sc ps=>rfl,noI λrd N sc tg p=>rfl⟩
  obtain⟨o,nm,apos,q,cpos,rfl,hn⟩:=BJ h
  simp only[aD,bM]at hn
  obtain⟨⟨⟨⟨⟨⟨h1,h2⟩,h3⟩,h4⟩,h5⟩,h6⟩,h7⟩:=hn
  obtain⟨_,b2,_,b4,_⟩:=ihb.1 X q ok h7
  exact cS (Js ok.roomy (eq_of_beq h1) h2 h3 b4 ((iha.1 X o ok h6).2.1 h4) (b2 h5)) (λ_=>rfl) rfl
 |trng a iha=>
  refine⟨λX p ok h=>?_,noA λrd N sc ps=>rfl,noI λrd N sc tg p=>rfl⟩
  obtain⟨n,pn,m,pm,q,pos2,pos,rfl,hn⟩:=BR h
  simp only[aD,bM]at hn
  obtain⟨⟨⟨⟨⟨h1,h2⟩,h3⟩,h4⟩,h0⟩,h5⟩:=hn
  obtain⟨_,a2,_,a4,_⟩:=iha.1 X q ok h5
  cases eq_of_beq h1
  cases eq_of_beq h2
  exact cS (Jr ok.calm (ok.blt _ (by decide)) (ok.blt _ (by decide)) (eT h3) (eT h4) a4 (a2 h0)) (λ_=>rfl) rfl
 |seqD a iha=>
  refine⟨noE λN sc p=>rfl,noA λrd N sc ps=>rfl,λX rd tg p ok h=>?_⟩
  change (_&&_)=true at h;simp only[aD,bM]at h
  obtain⟨a1,a2,_,a4,_⟩:=iha.1 X p ok h.2
  cases rd with
  |true=>exact⟨(Av (a2 h.1)).up,a4⟩
  |false=>exact⟨Av (a2 h.1),a4⟩
 |and a b iha ihb=>
  refine⟨λX p ok h=>?_,noA λrd N sc ps=>rfl,noI λrd N sc tg p=>rfl⟩
  obtain⟨l,r,rest,pos,rfl,ra,rb,h1,h2⟩:=BL h
  obtain⟨_,sa,ta,_⟩:=iha.1 X l ok h1
  have sb:SE T cf X b (.BoolOp .And (r::rest) pos)/\SW T cf X b (.BoolOp .And (r::rest) pos):=by
   rcases h2 with⟨rfl,h2⟩|⟨r',rs,rfl,h2⟩
   ·obtain⟨_,b1,b2,_⟩:=ihb.1 X r ok h2
    exact⟨A0 (b1 rb),Ir b2⟩
   ·obtain⟨_,b1,b2,_,b5⟩:=ihb.1 X _ ok h2
    exact⟨b1 rb,b5 rfl⟩
  exact⟨(AY (sa ra) sb.1).sr,λ_=>AY (sa ra) sb.1,(A2 ta sb.2).st,rfl,λ_=>A2 ta sb.2⟩
 |or a b iha ihb=>
  refine⟨λX p ok h=>?_,noA λrd N sc ps=>rfl,noI λrd N sc tg p=>rfl⟩
  obtain⟨l,r,rest,pos,rfl,ra,rb,h1,h2⟩:=i_or h
  obtain⟨_,sa,ta,_⟩:=iha.1 X l ok h1
  have sb:SE T cf X b (.BoolOp .Or (r::rest) pos)/\SW T cf X b (.BoolOp .Or (r::rest) pos):=by
   rcases h2 with⟨rfl,h2⟩|⟨r',rs,rfl,h2⟩
   ·obtain⟨_,b1,b2,_⟩:=ihb.1 X r ok h2
    exact⟨A0 (b1 rb),sw_or1 b2⟩
   ·obtain⟨_,b1,b2,_,b5⟩:=ihb.1 X _ ok h2
    exact⟨b1 rb,b5 rfl⟩
  exact⟨(AZ (sa ra) sb.1).sr,λ_=>AZ (sa ra) sb.1,(A3 ta sb.2).st,rfl,λ_=>A3 ta sb.2⟩
 |not a iha=>
  refine⟨λX p ok h=>?_,noA λrd N sc ps=>rfl,noI λrd N sc tg p=>rfl⟩
  obtain⟨l,pos,rfl,h1⟩:=BM h
  obtain⟨a1,_,a3,_,_⟩:=iha.1 X l ok h1
  exact⟨(A1 a3 a1).sr,λ_=>A1 a3 a1,st_not a3,rfl,λz=>by cases z⟩
 |neg a iha=>
  refine⟨λX p ok h=>?_,noA λrd N sc ps=>rfl,noI λrd N sc tg p=>rfl⟩
  obtain⟨l,pos,rfl,h1⟩:=BH h
  exact cS (se_neg (iha.1 X l ok h1).1) (λ_=>rfl) rfl
 |ife c a b ihc iha ihb=>
  refine⟨λX p ok h=>?_,noA λrd N sc ps=>rfl,noI λrd N sc tg p=>rfl⟩
  obtain⟨l,m,r,pos,rfl,ra,rb,h1,h2,h3⟩:=BN h
  have se:=se_ife (pos:=pos) (ihc.1 X l ok h1).2.2.1 ((iha.1 X m ok h2).2.1 ra) ((ihb.1 X r ok h3).2.1 rb)
  exact⟨se.sr,λ_=>se,st_ife (ihc.1 X l ok h1).2.2.1 (iha.1 X m ok h2).2.2.1 (ihb.1 X r ok h3).2.2.1,rfl,λz=>by cases z⟩
 |ix a b iha ihb=>
  refine⟨λX p ok h=>?_,noA λrd N sc ps=>rfl,noI λrd N sc tg p=>rfl⟩
  obtain⟨l,r,pos,rfl,h1,h2⟩:=i_ix h
  have hb:=ihb.1 X r ok h2
  exact cS (se_ix ok.roomy hb.2.2.2.1 (iha.1 X l ok h1).1 hb.1) (λ_=>rfl) rfl
 |sl a lo hi iha ihl ihh=>
  refine⟨λX p ok h=>?_,noA λrd N sc ps=>rfl,noI λrd N sc tg p=>rfl⟩
  obtain⟨l,pl,ph,pos,pos',rfl,h1,h2,h3⟩:=i_sl h
  have part:∀{y:E} {q:Option Expr},PEx T cf Tx y->((q=none/\gZ y=true)\/∃r,q=some r/\aH y=false/\mE Tx y X.N X.env.scope r=true)->SO T cf X y q:=by
   intro y q ih hq
   rcases hq with⟨rfl,z⟩|⟨r,rfl,z1,z2⟩
   ·unfold gZ at z
    split at z
    ·exact Ik
    ·cases z
   ·exact Il ((ih X r ok z2).2.1 z1)
  exact cS (se_sl (iha.1 X l ok h1).1 (part ihl.1 h2) (part ihh.1 h3)) (λ_=>rfl) rfl
 | «omit»=>exact⟨noE λN sc p=>rfl,noA λrd N sc ps=>rfl,noI λrd N sc tg p=>rfl⟩
 |tup a iha=>
  refine⟨λX p ok h=>?_,noA λrd N sc ps=>rfl,noI λrd N sc tg p=>rfl⟩
  obtain⟨es,k,pos,rfl,h1⟩:=BO h
  exact cS (se_tup ((iha.2.1 X false es ok h1).2.1 rfl)) (λ_=>rfl) rfl
 |lst a iha=>
  refine⟨λX p ok h=>?_,noA λrd N sc ps=>rfl,noI λrd N sc tg p=>rfl⟩
  obtain⟨es,pos,rfl,h1⟩:=BP h
  exact cS (se_lst ((iha.2.1 X false es ok h1).2.1 rfl)) (λ_=>rfl) rfl
 |anil=>
  refine⟨noE λN sc p=>rfl,λX rd ps ok h=>?_,noI λrd N sc tg p=>rfl⟩
  cases ps with
  |nil=>exact⟨Io,λ_=>sav_nil,rfl⟩
  |cons _ _=>exact nof h
 |acons a r iha ihr=>
  refine⟨noE λN sc p=>rfl,λX rd ps ok h=>?_,noI λrd N sc tg p=>rfl⟩
  cases ps with
  |nil=>exact nof h
  |cons p ps=>
   change (_&&_)=true at h;simp only[aD,fH,bM]at h
   obtain⟨a1,a2,_,a4,_⟩:=iha.1 X p ok h.1.2
   obtain⟨b1,b2,b3⟩:=ihr.2.1 X rd ps ok h.2
   refine⟨Ip a4 a1 b1,λz=>Im a4 (a2 ?_) (b2 z),by rw[gP,a4,b3];rfl⟩
   rcases h.1.1 with q|q
   ·rw[z]at q;cases q
   ·exact q
 |call f a iha=>
  refine⟨λX p ok h=>?_,noA λrd N sc ps=>rfl,noI λrd N sc tg p=>rfl⟩
  obtain⟨n,pn,es,pos,rfl,hn⟩:=uA h
  simp only[aD,beq_iff_eq]at hn
  obtain⟨_,b2,b3⟩:=iha.2.1 X false es ok hn.2
  cases es with
  |nil=>
   cases mA_nil hn.2
   exact cS (JA (ok.defs f n hn.1.1.1) (eT hn.1.1.2) (qG hn.1.2)) (λ_=>rfl) rfl
  |cons e es=>exact cS (Iz (ok.defs f n hn.1.1.1) (eT hn.1.1.2) (qG hn.1.2) b3 (b2 rfl)) (λ_=>rfl) rfl
 |bt b a iha=>
  refine⟨λX p ok h=>?_,noA λrd N sc ps=>rfl,noI λrd N sc tg p=>rfl⟩
  obtain⟨n,pn,e,es,pos,rfl,hn⟩:=i_bt h
  simp only[aD,beq_iff_eq]at hn
  obtain⟨b1,_,b3⟩:=iha.2.1 X true (e::es) ok hn.2
  exact cS (se_bt hn.1.1.1 ok.calm hn.1.1.2 (ok.blt _ (by cases b<;>decide)) (eT hn.1.2) b3 b1) (λ_=>rfl) rfl
 |lrng a iha=>
  refine⟨λX p ok h=>?_,noA λrd N sc ps=>rfl,noI λrd N sc tg p=>rfl⟩
  obtain⟨n,pn,m,pm,q,pos2,pos,rfl,hn⟩:=BQ h
  simp only[aD,bM]at hn
  obtain⟨⟨⟨⟨⟨h1,h2⟩,h3⟩,h4⟩,h0⟩,h5⟩:=hn
  obtain⟨_,a2,_,a4,_⟩:=iha.1 X q ok h5
  cases eq_of_beq h1
  cases eq_of_beq h2
  exact cS (JB ok.calm (ok.blt _ (by decide)) (ok.blt _ (by decide)) (eT h3) (eT h4) a4 (a2 h0)) (λ_=>rfl) rfl
 |isi a t iha=>
  refine⟨λX p ok h=>?_,noA λrd N sc ps=>rfl,noI λrd N sc tg p=>rfl⟩
  obtain⟨n,pn,l,m,pm,pos,rfl,hn⟩:=BS h
  simp only[aD,beq_iff_eq]at hn
  obtain⟨a1,_,_,a4,_⟩:=iha.1 X l ok hn.2
  exact cS (se_isi hn.1.1.1.1 hn.1.1.1.2 (ok.blt _ (by simp[jG])) (ok.blt _ (by cases t<;>simp[jG,Ty.nm])) (eT hn.1.1.2) (eT hn.1.2) a4 a1) (λ_=>rfl) rfl
 |comp own caps g elt src cond ihe ihs ihc=>
  refine⟨λX p ok h=>?_,noA λrd N sc ps=>rfl,noI λrd N sc tg p=>rfl⟩
  obtain⟨pe,tg,iter,ifs,scope,pos,rfl,a2,a3,a4,a5,a6,a7,a8,a9,a10,a11,a12⟩:=BV h
  obtain⟨c1,c2,c3,c4,c5⟩:=BW ok ihe.1 ihs.2.2 ihc.1 a2 a3 a4 a5 a6 a8 a9 a10 a11 a12
  exact cS (Aj ok.calm c1 c2 a7 c3 c4 c5) (λ_=>rfl) rfl
 |seq a iha=>
  refine⟨noE λN sc p=>rfl,noA λrd N sc ps=>rfl,λX rd tg p ok h=>?_⟩
  change (_&&_)=true at h;simp only[aD,fH,bM]at h
  obtain⟨a1,a2,_,a4,_⟩:=iha.1 X p ok h.2
  refine⟨si_seq a1 λz=>a2 ?_,a4⟩
  rcases h.1 with q|q
  ·rw[z]at q;cases q
  ·exact q
 |rng a iha=>
  refine⟨noE λN sc p=>rfl,noA λrd N sc ps=>rfl,λX rd tg p ok h=>?_⟩
  obtain⟨n,pn,q,pos,rfl,hn⟩:=i_rng h
  simp only[aD,beq_iff_eq,bM]at hn
  obtain⟨_,a2,_,a4,_⟩:=iha.1 X q ok hn.2
  exact⟨si_rng hn.1.1.1 (eT hn.1.1.2) (ok.blt _ (by simp[jG])) a4 (a2 hn.1.2),rfl⟩
 |rng2 a b iha ihb=>
  refine⟨noE λN sc p=>rfl,noA λrd N sc ps=>rfl,λX rd tg p ok h=>?_⟩
  obtain⟨n,pn,q,r,pos,rfl,hn⟩:=i_rng2 h
  simp only[aD,beq_iff_eq,bM]at hn
  obtain⟨_,a2,_,a4,_⟩:=iha.1 X q ok hn.1.2
  obtain⟨_,b2,_,b4,_⟩:=ihb.1 X r ok hn.2
  exact⟨JN hn.1.1.1.1.1 (eT hn.1.1.1.1.2) (ok.blt _ (by simp[jG])) a4 b4 (a2 hn.1.1.1.2) (b2 hn.1.1.2),rfl⟩
 |cnt k r a ihr iha=>
  refine⟨λX p ok h=>?_,noA λrd N sc ps=>rfl,noI λrd N sc tg p=>rfl⟩
  have h:mCnt Tx k X.env.scope (!aH r) (lL a) (mE Tx r X.N X.env.scope) (mA Tx a false X.N X.env.scope) p=true:=h
  cases k with
  |parts=>
   have h:(!aH r&&lL a&&vF (λo m=>(m == "parts")&&kC o&&mE Tx r X.N X.env.scope o) p)=true:=h
   rw[aD,aD,bM]at h
   obtain⟨⟨h1,h2⟩,h3⟩:=h
   obtain⟨o,m,pos,rfl,g⟩:=qE h3
   rw[aD,aD,beq_iff_eq]at g
   obtain⟨⟨rfl,h4⟩,h5⟩:=g
   cases tZ h2
   exact cS (Ji ok.ck (tY h4) ((ihr.1 X o ok h5).2.1 h1)) (λ_=>rfl) rfl
  |clashes=>
   have h:(!aH r&&lL a&&vF (λo m=>(m == "clashes")&&kC o&&mE Tx r X.N X.env.scope o) p)=true:=h
   rw[aD,aD,bM]at h
   obtain⟨⟨h1,h2⟩,h3⟩:=h
   obtain⟨o,m,pos,rfl,g⟩:=qE h3
   rw[aD,aD,beq_iff_eq]at g
   obtain⟨⟨rfl,h4⟩,h5⟩:=g
   cases tZ h2
   exact cS (Jj ok.ck (tY h4) ((ihr.1 X o ok h5).2.1 h1)) (λ_=>rfl) rfl
  |meth f m'=>
   have h:(!aH r&&vMc (λo m apos cpos es=>(m==m')&&Tx.mt.contains (f,m)&&kC o&&(apos.endLine==cpos.line)&&decide (es.length<30)&&mE Tx r X.N X.env.scope o&&mA Tx a false X.N X.env.scope es) p)=true:=h
   rw[aD,bM]at h
   obtain⟨h1,h3⟩:=h
   obtain⟨o,m,apos,e,es,cpos,rfl,g⟩:=BA h3
   rw[aD,aD,aD,aD,aD,aD,beq_iff_eq,decide_eq_true_eq]at g
   obtain⟨⟨⟨⟨⟨⟨rfl,h4⟩,h5⟩,h6⟩,h7⟩,h8⟩,h9⟩:=g
   obtain⟨_,b2,b3⟩:=iha.2.1 X false (e::es) ok h9
   exact cS (Jm ok.ck (ok.mt _ (mD.mp h4)) (tY h5) h6 h7 b3 ((ihr.1 X o ok h8).2.1 h1) (b2 rfl)) (λ_=>rfl) rfl
  |make f=>
   have h:(!aH r&&lL a&&vC (λn=>v1 λq=>Tx.mc.contains (f,n)&&glB X.env.scope n&&gY n&&mE Tx r X.N X.env.scope q) p)=true:=h
   rw[aD,aD,bM]at h
   obtain⟨⟨h1,h2⟩,h3⟩:=h
   obtain⟨n,pn,es,pos,rfl,g⟩:=hJ h3
   obtain⟨q,rfl,g'⟩:=jF g
   rw[aD,aD,aD]at g'
   obtain⟨⟨⟨h4,h5⟩,h6⟩,h7⟩:=g'
   cases tZ h2
   obtain⟨_,a2,_,a4,_⟩:=ihr.1 X q ok h7
   exact cS (Jn (ok.mc _ (mD.mp h4)) (eT h5) (qG h6) a4 (a2 h1)) (λ_=>rfl) rfl
 |enumS a b iha ihb=>
  refine⟨noE λN sc p=>rfl,noA λrd N sc ps=>rfl,λX rd tg p ok h=>?_⟩
  obtain⟨n,pn,q,kn,r,kp,pos,rfl,hn⟩:=Jw h
  simp only[aD,beq_iff_eq,bM]at hn
  obtain⟨⟨⟨⟨⟨⟨⟨h1,h2⟩,h3⟩,h4⟩,h5⟩,h6⟩,h7⟩,h8⟩:=hn
  obtain⟨_,a2,_,a4,_⟩:=iha.1 X q ok h7
  obtain⟨_,b2,_,_,_⟩:=ihb.1 X r ok h8
  subst h2
  cases tg with
  |Tuple es kk tpos=>exact⟨Jg h1 (eT h3) (ok.blt _ (by simp[jG])) a4 (a2 h5) (b2 h6),rfl⟩
  |_=>exact absurd h4 (by simp[lK])
 |enum a iha=>
  refine⟨noE λN sc p=>rfl,noA λrd N sc ps=>rfl,λX rd tg p ok h=>?_⟩
  obtain⟨n,pn,q,pos,rfl,hn⟩:=i_enum h
  simp only[aD,beq_iff_eq,bM,fH]at hn
  obtain⟨a1,a2,_,a4,_⟩:=iha.1 X q ok hn.2
  cases tg with
  |Tuple es kk tpos=>
   refine⟨Jc hn.1.1.1.1 (eT hn.1.1.1.2) (ok.blt _ (by simp[jG])) a4 a1 λz=>a2 ?_,rfl⟩
   rcases hn.1.2 with q|q
   ·rw[z]at q;cases q
   ·exact q
  |_=>exact absurd hn.1.1.2 (by simp[lK])
end
end Tr
namespace Tr
open PySem PySem.Spec PyProof.Rows L2
variable{x y:E}{N:List Str}{i:Nat}{pos pos':Pos}{a r:S}{sc:Scope}{p:Stmt}{n:Str}
section
variable(Tx:Txt)
noncomputable def BX:E->Bool
 |.call _ _=>true
 |_=>false
theorem Jx(h:BX x=true):∃f a,x=.call f a:=by
 cases x with
 |call f a=>exact⟨f,a,rfl⟩
 |_=>exact nof h
mutual
noncomputable def mB:S->List Str->Scope->List Stmt->Bool
 |.nil,_,_,[]=>true
 |.cons (.sealed _) r,N,sc,ps=>mB r N sc ps
 |.cons a r,N,sc,p::ps=>mS a N sc p&&mB r N sc ps
 |_,_,_,_=>false
termination_by structural x=>x
noncomputable def mS:S->List Str->Scope->Stmt->Bool
 |.ret x,N,sc,.Return (some p) _=>!aH x&&mE Tx x N sc p
 |.retO i,N,sc,.Return (some (.Name n _)) _=>dD N sc i n
 |.asg g x,N,sc,.Assign [tg] p _=>!aH x&&mG false N sc g tg&&mE Tx x N sc p&&((dC p&&qA p)||(match g,tg with | .one _,.Name _ _=>true|_,_=>false))
 |.asgO i x,N,sc,.Assign [.Name n pn] p _=>!aH x&&mG false N sc (.one i) (.Name n pn)&&mE Tx x N sc p
 |.ite c a b,N,sc,.If p ps qs _=>mE Tx c N sc p&&mB a N sc ps&&mB b N sc qs
 |.forS g src b,N,sc,.For tg p ps [] _=>mI Tx src false N sc tg p&&mG false N sc g tg&&mB b N sc ps
 |.whl _ c b,N,sc,.While p ps [] _=>mE Tx c N sc p&&mB b N sc ps
 |.app i x,N,sc,p=>vM (λn nm apos cpos=>v1 λq=>dD N sc i n&&(nm == "append")&&(apos.endLine==cpos.line)&&!aH x&&mE Tx x N sc q) p
 |.rev i,N,sc,p=>vM (λn nm apos cpos es=>es.isEmpty&&(dD N sc i n&&(nm == "reverse")&&(apos.endLine==cpos.line))) p
 |.ext i x,N,sc,p=>vM (λn nm apos cpos=>v1 λq=>dD N sc i n&&(nm == "extend")&&(apos.endLine==cpos.line)&&!aH x&&mE Tx x N sc q) p
 |.dput i y x,N,sc,p=>vA (λtg v=>vX (λn q=>dD N sc i n&&dC v&&!aH y&&mE Tx y N sc q&&!aH x&&mE Tx x N sc v) tg) p
 |.never,_,_,_=>true
 |.aug i o x,N,sc,.AugAssign (.Name n pn) o' p _=>(o==o')&&(o==.Add||o==.Sub)&&mG false N sc (.one i) (.Name n pn)&&!aH x&&mE Tx x N sc p
 |.exp x,N,sc,.Expr p _=>BX x&&mE Tx x N sc p
 |.newD i,N,sc,p=>vA (λtg v=>vN (λn pn=>vD v&&mG false N sc (.one i) (.Name n pn)) tg) p
 |.newT i,N,sc,p=>vA (λtg v=>vN (λn pn=>vD v&&mG false N sc (.one i) (.Name n pn)) tg) p
 |.dputV i y x,N,sc,p=>vA (λtg v=>vX (λn q=>dD N sc i n&&dC v&&!aH y&&mE Tx y N sc q&&!aH x&&mE Tx x N sc v) tg) p
 |.brk,_,_,.Break _=>true
 |.cnt,_,_,.Continue _=>true
 |_,_,_,_=>false
termination_by structural x=>x
end
end
set_option genInjectivity false in
structure OkS(T:Tab)(cf:Nat->List D->Res D)(Tx:Txt)(X:Cx):Prop where
 ok:OkX T cf Tx X
 xe:X.xe=λ_ _=>False
 fn:∀n,X.fn n=true
 lam:∀p,Tx.lam=some p->LamX X p
section
variable{T:Tab}{cf:Nat->List D->Res D}{Tx:Txt}{X:Cx}
theorem OkS.pass(o:OkS T cf Tx X):PassesOwn (model X.prog X.w) X.A X.env X.xe:=by rw[o.xe];exact PassesOwn.never
noncomputable def PSx(T:Tab)(cf:Nat->List D->Res D)(Tx:Txt)(x:S):Prop:=∀X p,OkS T cf Tx X->mS Tx x X.N X.env.scope p=true->SS T cf X x p
noncomputable def PBx(T:Tab)(cf:Nat->List D->Res D)(Tx:Txt)(x:S):Prop:=∀X ps,OkS T cf Tx X->mB Tx x X.N X.env.scope ps=true->SB T cf X x ps
theorem noB{x:S}(h:∀N sc ps,mB Tx x N sc ps=false):PBx T cf Tx x:=λX ps _ m=>by rw[h]at m;cases m
theorem noS{x:S}(h:∀N sc p,mS Tx x N sc p=false):PSx T cf Tx x:=λX ps _ m=>by rw[h]at m;cases m
theorem x_comp{p:Expr}(hp:dC p=false)(h:mE Tx x N sc p=true):∃own caps g elt src cond,x=.comp own caps g elt src cond:=by
 cases x with
 |comp own caps g elt src cond=>exact⟨_,_,_,_,_,_,rfl⟩
 |var i=>obtain⟨n,pos,rfl,_⟩:=BB h;cases hp
 |rd i=>obtain⟨n,pos,rfl,_⟩:=i_rd h;cases hp
 |con d=>obtain⟨c,k,pos,rfl,_⟩:=BC h;cases hp
 |glob d=>obtain⟨c,pos,rfl,_⟩:=BD h;cases hp
 |bin o a b=>obtain⟨c,_,pos,rfl,_⟩:=BE h;cases hp
 |cmp o a b=>obtain⟨c,_,pos,rfl,_⟩:=BF h;cases hp
 |and a b=>obtain⟨c,_,_,pos,rfl,_⟩:=BL h;cases hp
 |or a b=>obtain⟨c,_,_,pos,rfl,_⟩:=i_or h;cases hp
 |not a=>obtain⟨c,pos,rfl,_⟩:=BM h;cases hp
 |ife c a b=>obtain⟨c,_,_,pos,rfl,_⟩:=BN h;cases hp
 |ix a b=>obtain⟨c,_,pos,rfl,_⟩:=i_ix h;cases hp
 |sl a b c=>obtain⟨c,_,_,_,pos,rfl,_⟩:=i_sl h;cases hp
 |tup a=>obtain⟨c,_,pos,rfl,_⟩:=BO h;cases hp
 |lst a=>obtain⟨c,pos,rfl,_⟩:=BP h;cases hp
 |call f a=>obtain⟨c,_,_,pos,rfl,_⟩:=uA h;cases hp
 |bt f a=>obtain⟨c,_,_,_,pos,rfl,_⟩:=i_bt h;cases hp
 |lrng a=>obtain⟨_,_,_,_,_,_,pos,rfl,_⟩:=BQ h;cases hp
 |isi a t=>obtain⟨c,_,_,_,_,pos,rfl,_⟩:=BS h;cases hp
 |chain o o' a b c=>obtain⟨c,_,_,pos,rfl,_⟩:=BG h;cases hp
 |neg a=>obtain⟨c,pos,rfl,_⟩:=BH h;cases hp
 |dlit a b=>obtain⟨_,_,pos,rfl,_⟩:=BI h;cases hp
 |getV a b=>obtain⟨_,_,_,_,pos,rfl,_⟩:=BJ h;cases hp
 |trng a=>obtain⟨_,_,_,_,_,_,pos,rfl,_⟩:=BR h;cases hp
 |cnt k r a=>rw[Jv h]at hp;cases hp
 |_=>exact nof h
theorem i_newD(h:mS Tx (.newD i) N sc p=true):∃n pn dpos pos,p=.Assign [.Name n pn] (.Dict [] [] dpos) pos/\mG false N sc (.one i) (.Name n pn)=true:=by
 obtain⟨tg,v,pos,rfl,g1⟩:=qD h
 obtain⟨n,pn,rfl,g2⟩:=tX g1
 obtain⟨h1,h2⟩:=aR g2
 obtain⟨dpos,rfl⟩:=Az h1
 exact⟨n,pn,dpos,pos,rfl,h2⟩
theorem i_newT(h:mS Tx (.newT i) N sc p=true):∃n pn dpos pos,p=.Assign [.Name n pn] (.Dict [] [] dpos) pos/\mG false N sc (.one i) (.Name n pn)=true:=by
 obtain⟨tg,v,pos,rfl,g1⟩:=qD h
 obtain⟨n,pn,rfl,g2⟩:=tX g1
 obtain⟨h1,h2⟩:=aR g2
 obtain⟨dpos,rfl⟩:=Az h1
 exact⟨n,pn,dpos,pos,rfl,h2⟩
theorem lM(o:OkS T cf Tx X)(h:mG false X.N X.env.scope (.one i) (.Name n pos)=true):X.N[i]?=some n/\Loc X.env.scope n/\(X.fn n=true\/X.env.scope.names.lookup n=some .local):=by
 change (_&&(_||_))=true at h
 simp only[aD,fH,beq_iff_eq,bM,rN,true_and]at h
 exact⟨h.1,h.2,.inl (o.fn n)⟩
theorem BY{p:Expr}(b:Bool)(o:OkS T cf Tx X)(hp:dC p=false)(h1:mG false X.N X.env.scope (.one i) (.Name n pos)=true)(h2:mE Tx x X.N X.env.scope p=true):SS T cf X (if b then .asgO i x else .asg (.one i) x) (.Assign [.Name n pos] p pos'):=by
 obtain⟨own,caps,g,elt,src,cond,rfl⟩:=x_comp hp h2
 obtain⟨pe,tg,iter,ifs,scope,pos2,rfl,a2,a3,a4,a5,a6,a7,a8,a9,a10,a11,a12⟩:=BV h2
 obtain⟨c1,c2,c3,c4,c5⟩:=BW o.ok (cX elt).1 (cX src).2.2 (cX cond).1 a2 a3 a4 a5 a6 a8 a9 a10 a11 a12
 obtain⟨n1,n2,n3⟩:=lM o h1
 exact J_ o.ok.nd n1 n2 n3 o.ok.calm c1 c2 a7 c3 c4 b c5
theorem i_app (h:mS Tx (.app i x) N sc p=true):∃n px nm apos q cpos pos,p=.Expr (.Call (.Attribute (.Name n px) nm apos) [q] [] cpos) pos/\(dD N sc i n&&(nm == "append")&&(apos.endLine==cpos.line)&&!aH x&&mE Tx x N sc q)=true:=by
 obtain⟨n,px,nm,apos,es,cpos,pos,rfl,g1⟩:=tW h
 obtain⟨q,rfl,g2⟩:=jF g1
 exact⟨n,px,nm,apos,q,cpos,pos,rfl,g2⟩
theorem i_ext (h:mS Tx (.ext i x) N sc p=true):∃n px nm apos q cpos pos,p=.Expr (.Call (.Attribute (.Name n px) nm apos) [q] [] cpos) pos/\(dD N sc i n&&(nm == "extend")&&(apos.endLine==cpos.line)&&!aH x&&mE Tx x N sc q)=true:=by
 obtain⟨n,px,nm,apos,es,cpos,pos,rfl,g1⟩:=tW h
 obtain⟨q,rfl,g2⟩:=jF g1
 exact⟨n,px,nm,apos,q,cpos,pos,rfl,g2⟩
theorem i_dput(h:mS Tx (.dput i y x) N sc p=true):∃n px q tpos v pos,p=.Assign [.Subscript (.Name n px) q tpos] v pos/\(dD N sc i n&&dC v&&!aH y&&mE Tx y N sc q&&!aH x&&mE Tx x N sc v)=true:=by
 obtain⟨tg,v,pos,rfl,g1⟩:=qD h
 obtain⟨n,px,q,tpos,rfl,g2⟩:=Ay g1
 exact⟨n,px,q,tpos,v,pos,rfl,g2⟩
theorem Jy(h:mS Tx (.dputV i y x) N sc p=true):∃n px q tpos v pos,p=.Assign [.Subscript (.Name n px) q tpos] v pos/\(dD N sc i n&&dC v&&!aH y&&mE Tx y N sc q&&!aH x&&mE Tx x N sc v)=true:=by
 obtain⟨tg,v,pos,rfl,g1⟩:=qD h
 obtain⟨n,px,q,tpos,rfl,g2⟩:=Ay g1
 exact⟨n,px,q,tpos,v,pos,rfl,g2⟩
theorem i_rev (h:mS Tx (.rev i) N sc p=true):∃n px nm apos cpos pos,p=.Expr (.Call (.Attribute (.Name n px) nm apos) [] [] cpos) pos/\(dD N sc i n&&(nm == "reverse")&&(apos.endLine==cpos.line))=true:=by
 obtain⟨n,px,nm,apos,es,cpos,pos,rfl,g1⟩:=tW h
 obtain⟨h1,h2⟩:=aR g1
 cases es with
 |nil=>exact⟨n,px,nm,apos,cpos,pos,rfl,h2⟩
 |cons _ _=>exact nof h1
theorem Jz{p:Expr}(hx:dC p=true)(hN:X.N.Nodup)(hi:X.N[i]?=some n)(hl:Loc X.env.scope n)(hf:X.fn n=true\/X.env.scope.names.lookup n=some .local)(h:SE T cf X x p):SS T cf X (.asg (.one i) x) (.Assign [.Name n pos'] p pos):=λH_h O0=>by
 refine PS.imp (λD' σ H hq=>?_) (mL hN hi hl (h H_h O0) (gX hx) hf)
 obtain⟨ts,e,out,⟨O,own,F,tt⟩,ev,k⟩:=hq
 rw[pD]at ev
 obtain⟨d,e1,ev⟩:=Res.bind_ok ev
 obtain⟨e2,e3,ev⟩:=Res.bind_ok ev
 cases ev
 cases e3
 exact⟨O,own,e,d,F,e1,λv H' s' r n=>k _ H' ⟨O,_,(F.grow s').setV i r,λt ht=>(tt t ht).same s'⟩⟩
theorem mB_nil(h:mB Tx (.cons a r) N sc []=true):∃i,a=.sealed i:=by
 cases a<;>first|exact nof h|exact⟨_,rfl⟩
theorem BZ{ps:List Stmt}(hs:¬ ∃i,a=.sealed i)(h:mB Tx (.cons a r) N sc (p::ps)=true):mS Tx a N sc p=true/\mB Tx r N sc ps=true:=by
 refine(aD _ _).mp ?_
 cases a<;>first|exact absurd ⟨_,rfl⟩ hs|exact h
theorem B0:∀x:S,PSx T cf Tx x/\PBx T cf Tx x:=by
 intro x
 induction x with
 |nil=>
  refine⟨noS λN sc p=>rfl,λX ps o h=>?_⟩
  cases ps with
  |nil=>exact sb_nil
  |cons _ _=>exact nof h
 |cons a r iha ihr=>
  refine⟨noS λN sc p=>rfl,λX ps o h=>?_⟩
  by_cases hs:∃i,a=.sealed i
  ·obtain⟨i,rfl⟩:=hs
   exact JV (ihr.2 X ps o h)
  ·cases ps with
   |nil=>exact absurd (mB_nil h) hs
   |cons p ps=>exact JU (iha.1 X p o (BZ hs h).1) (ihr.2 X ps o (BZ hs h).2)
 |ret x=>
  refine⟨λX p o h=>?_,noB λN sc ps=>rfl⟩
  cases p with
  |Return v pos=>cases v with
   |some p=>
    change (_&&_)=true at h;simp only[aD,bM]at h
    exact ss_ret (((cX x).1 X p o.ok h.2).2.1 h.1)
   |none=>exact nof h
  |_=>exact nof h
 |retO i=>
  refine⟨λX p o h=>?_,noB λN sc ps=>rfl⟩
  cases p with
  |Return v pos=>cases v with
   |some p=>cases p with
    |Name n pn=>
     obtain⟨a1,a2,a3,a4⟩:=gK h
     exact JW a1 a2 a3 a4
    |_=>exact nof h
   |none=>exact nof h
  |_=>exact nof h
 |asg g x=>
  refine⟨λX p o h=>?_,noB λN sc ps=>rfl⟩
  cases p with
  |Assign tgs p pos=>
   rcases tgs with _|⟨tg,_|⟨t2,tgs⟩⟩
   ·exact nof h
   ·change (_&&_)=true at h;simp only[aD,bM,fH]at h
    obtain⟨⟨⟨h1,h2⟩,h3⟩,h4⟩:=h
    obtain⟨g1,g2⟩:=uC o.ok.calm o.ok.nd (λn _=>o.fn n) h2
    by_cases hc:dC p=true
    ·by_cases ht:qA p=true
     ·exact ss_asg hc ht g2 (((cX x).1 X p o.ok h3).2.1 h1) g1
     ·rcases h4 with z|z
      ·exact absurd z.2 ht
      ·cases g with
       |one i=>cases tg with
        |Name n pn=>
         obtain⟨n1,n2,n3⟩:=lM o h2
         exact Jz hc o.ok.nd n1 n2 n3 (((cX x).1 X p o.ok h3).2.1 h1)
        |_=>cases z
       |many _=>cases z
    ·have hc':dC p=false:=by simpa using hc
     rcases h4 with z|z
     ·exact absurd z.1 hc
     ·cases g with
      |one i=>cases tg with
       |Name n pn=>exact BY false o hc' h2 h3
       |_=>cases z
      |many _=>cases z
   ·exact nof h
  |_=>exact nof h
 |asgO i x=>
  refine⟨λX p o h=>?_,noB λN sc ps=>rfl⟩
  cases p with
  |Assign tgs p pos=>
   rcases tgs with _|⟨tg,_|⟨t2,tgs⟩⟩
   ·exact nof h
   ·cases tg with
    |Name n pn=>
     change (_&&_)=true at h;simp only[aD,bM]at h
     obtain⟨⟨h1,h2⟩,h3⟩:=h
     by_cases hc:dC p=true
     ·obtain⟨n1,n2,n3⟩:=lM o h2
      exact JZ hc o.ok.nd n1 n2 n3 (((cX x).1 X p o.ok h3).2.1 h1)
     ·exact BY true o (by simpa using hc) h2 h3
    |_=>exact nof h
   ·cases tg<;>exact nof h
  |_=>exact nof h
 | «sealed» i=>exact⟨noS λN sc p=>rfl,noB λN sc ps=>rfl⟩
 |ite c a b iha ihb=>
  refine⟨λX p o h=>?_,noB λN sc ps=>rfl⟩
  cases p with
  |If p ps qs pos=>
   change (_&&_)=true at h;simp only[aD]at h
   exact ss_ite ((cX c).1 X p o.ok h.1.1).2.2.1 (iha.2 X ps o h.1.2) (ihb.2 X qs o h.2)
  |_=>exact nof h
 |forS g src b ihb=>
  refine⟨λX p o h=>?_,noB λN sc ps=>rfl⟩
  cases p with
  |For tg p ps qs pos=>cases qs with
   |nil=>
    change (_&&_)=true at h;simp only[aD]at h
    have hg:=(uC o.ok.calm o.ok.nd (λn _=>o.fn n) h.1.2).1
    obtain⟨s1,s2⟩:=(cX src).2.2 X false tg p o.ok h.1.1
    exact ss_for o.pass o.ok.calm s2 s1 hg (ihb.2 X ps o h.2)
   |cons _ _=>exact nof h
  |_=>exact nof h
 |whl n c b ihb=>
  refine⟨λX p o h=>?_,noB λN sc ps=>rfl⟩
  cases p with
  |While p ps qs pos=>cases qs with
   |nil=>
    change (_&&_)=true at h;simp only[aD]at h
    exact ss_whl o.pass ((cX c).1 X p o.ok h.1).2.2.1 (ihb.2 X ps o h.2)
   |cons _ _=>exact nof h
  |_=>exact nof h
 |app i x=>
  refine⟨λX p o h=>?_,noB λN sc ps=>rfl⟩
  obtain⟨n,px,nm,apos,q,cpos,pos,rfl,hn⟩:=i_app h
  simp only[aD,beq_iff_eq,bM]at hn
  obtain⟨a1,a2,a3,a4⟩:=gK hn.1.1.1.1
  obtain⟨_,b2,_,b4,_⟩:=(cX x).1 X q o.ok hn.2
  exact ss_app a1 a2 a3 a4 hn.1.1.1.2 (by simpa using hn.1.1.2) b4 (b2 hn.1.2)
 |rev i=>
  refine⟨λX p o h=>?_,noB λN sc ps=>rfl⟩
  obtain⟨n,px,nm,apos,cpos,pos,rfl,hn⟩:=i_rev h
  simp only[aD,beq_iff_eq]at hn
  obtain⟨a1,a2,a3,a4⟩:=gK hn.1.1
  exact ss_rev a1 a2 a3 a4 hn.1.2 (by simpa using hn.2)
 |ext i x=>
  refine⟨λX p o h=>?_,noB λN sc ps=>rfl⟩
  obtain⟨n,px,nm,apos,q,cpos,pos,rfl,hn⟩:=i_ext h
  simp only[aD,beq_iff_eq,bM]at hn
  obtain⟨a1,a2,a3,a4⟩:=gK hn.1.1.1.1
  obtain⟨_,b2,_,b4,_⟩:=(cX x).1 X q o.ok hn.2
  exact ss_ext a1 a2 a3 a4 hn.1.1.1.2 (by simpa using hn.1.1.2) b4 (b2 hn.1.2)
 |dput i y x=>
  refine⟨λX p o h=>?_,noB λN sc ps=>rfl⟩
  obtain⟨n,px,q,tpos,v,pos,rfl,hn⟩:=i_dput h
  simp only[aD,bM]at hn
  obtain⟨a1,a2,a3,a4⟩:=gK hn.1.1.1.1.1
  obtain⟨_,b2,_⟩:=(cX y).1 X q o.ok hn.1.1.2
  obtain⟨_,c2,_⟩:=(cX x).1 X v o.ok hn.2
  exact J2 o.ok.roomy a1 a2 a3 a4 hn.1.1.1.1.2 (b2 hn.1.1.1.2) (c2 hn.1.2)
 |never=>
  exact⟨λX p o h=>J3,noB λN sc ps=>rfl⟩
 |aug i op x=>
  refine⟨λX p o h=>?_,noB λN sc ps=>rfl⟩
  cases p with
  |AugAssign tg op' v pos=>cases tg with
   |Name n pn=>
    change (_&&_)=true at h;simp only[aD,fH,beq_iff_eq,bM]at h
    obtain⟨⟨⟨⟨h1,h2⟩,h3⟩,h4⟩,h5⟩:=h
    subst h1
    obtain⟨n1,n2,n3⟩:=lM o h3
    exact ss_aug o.ok.nd n1 n2 n3 (((cX x).1 X v o.ok h5).2.1 h4) h2
   |_=>exact nof h
  |_=>exact nof h
 |exp x=>
  refine⟨λX p o h=>?_,noB λN sc ps=>rfl⟩
  cases p with
  |Expr q pos=>
   change (_&&_)=true at h;simp only[aD]at h
   obtain⟨f,a,rfl⟩:=Jx h.1
   have b:=((cX (.call f a)).1 X q o.ok h.2).2.1 rfl
   obtain⟨c,_,_,pos2,rfl,_⟩:=uA h.2
   exact ss_exp rfl b
  |_=>exact nof h
 |newD i=>
  refine⟨λX p o h=>?_,noB λN sc ps=>rfl⟩
  obtain⟨n,pn,dpos,pos,rfl,hn⟩:=i_newD h
  obtain⟨n1,n2,n3⟩:=lM o hn
  exact J0 o.ok.nd n1 n2 n3
 |newT i=>
  refine⟨λX p o h=>?_,noB λN sc ps=>rfl⟩
  obtain⟨n,pn,dpos,pos,rfl,hn⟩:=i_newT h
  obtain⟨n1,n2,n3⟩:=lM o hn
  exact J1 o.ok.nd n1 n2 n3
 |dputV i y x=>
  refine⟨λX p o h=>?_,noB λN sc ps=>rfl⟩
  obtain⟨n,px,q,tpos,v,pos,rfl,hn⟩:=Jy h
  simp only[aD,bM]at hn
  obtain⟨⟨⟨⟨⟨h1,h2⟩,h3⟩,h4⟩,h5⟩,h6⟩:=hn
  obtain⟨a1,a2,a3,a4⟩:=gK h1
  exact Ju o.ok.roomy a1 a2 a3 a4 h2 (((cX y).1 X q o.ok h4).2.1 h3) (((cX x).1 X v o.ok h6).2.1 h5)
 |brk=>
  refine⟨λX p o h=>?_,noB λN sc ps=>rfl⟩
  cases p<;>first|exact ss_brk|exact nof h
 |cnt=>
  refine⟨λX p o h=>?_,noB λN sc ps=>rfl⟩
  cases p<;>first|exact ss_cnt|exact nof h
end
end Tr
namespace Tr
open PySem PySem.Spec PyProof.Rows L2 PySem.W
section
variable{T:Tab}{cf:Nat->List D->Res D}{Tx:Txt}
end
end Tr
namespace Tr
open PySem PySem.Spec PyProof.Rows L2
variable{O:Addr->Prop}{H:Hp}{ds:List D}{N:List Str}{vs:List V}{K:PySem.W.Frag}
set_option genInjectivity false in
structure DefT where
 nm:Str
 st:Stmt
 N:List Str
 ps:List Str
 body:S
 told:Option Told:=none
 qn:Str:=nm
 meth:Bool:=false
noncomputable def DefT.df(t:DefT):Df:=⟨t.N.length,t.ps.length,t.body,t.told⟩
noncomputable def kE(N P:List Str)(sc:Scope):Bool:=(sc.kind==.function)&&!sc.isCoroutine&&!sc.isGenerator&&gJ N&&(N.take P.length==P)&&P.all (λx=>(sc.names.lookup x==some .local)||(sc.names.lookup x==some .cell))&&sc.names.all (λy=>!(y.2==.free))
theorem uD{P:List Str}{sc:Scope}(h:kE N P sc=true):FnScope N P sc:=by
 simp only[kE,aD,eP,fH,bM,beq_iff_eq,beq_eq_false_iff_ne,ne_eq]at h
 obtain⟨⟨⟨⟨⟨⟨h1,h2⟩,h3⟩,h4⟩,h5⟩,h6⟩,h7⟩:=h
 exact⟨h1,h2,h3,qB h4,h5,h6,h7⟩
noncomputable def DefT.okB(Tx:Txt)(t:DefT):Bool:=kE t.N t.ps (bC t.st)&&(t.told.isSome||mB (Tx.at t.st) t.body t.N (bC t.st) (cN t.st))
noncomputable def B1(K:PySem.W.Frag)(mg:Str->Option Value)(n:Str)(d:D):Prop:=∃v u,mg n=some u/\RelV v u/\∀H O,RD K H O d v
noncomputable def IniK(K:PySem.W.Frag)(mg:Str->Option Value)(c:Str):Prop:=False
noncomputable def qH(K:PySem.W.Frag)(v:Value):Bool:=match v with
 |.ref c=>match pJ K (.ref c)with
  |some P=>PySem.W.codeHdIn K c P
  |none=>false
 |_=>false
theorem KA{v:Value}(h:qH K v=true):∃c P,v=.ref c/\pJ K v=some P/\PySem.W.codeHdIn K c P=true:=by
 unfold qH at h
 split at h
 ·rename_i c
  split at h
  ·rename_i P hP
   exact⟨c,P,rfl,hP,h⟩
  ·cases h
 ·cases h
noncomputable def lamOkB(K:PySem.W.Frag)(fd:FuncData):Bool:=(lD (AA fd.body)).isNone||qH K fd.code
noncomputable def B2(K:PySem.W.Frag):Bool:=K.all λq=>match q.2.data with
 |.func fd=>lamOkB K fd
 |_=>true
structure TextOk0(K:PySem.W.Frag)(mg:Str->Option Value)(T:Tab)(Tx:Txt)(defs:List DefT):Prop where
 dn:∀g nm,Tx.dn[g]?=some nm->T.mv g=none/\∃t,defs[g]?=some t/\nm=t.nm/\t.meth=false
 ok:defs.all (·.okB Tx)=true
 funs:∀t∈defs,∃f fd,Fun K t.nm t.qn t.st f fd/\(t.meth=false->mg t.nm=some (.ref f))/\Binds K fd t.ps []
 globs:∀g n,Tx.gn[g]?=some n->B1 K mg n (T.glob g)
 blt:∀n∈jG,mg n=none
 tf:∀q∈Tx.tf,∃(a:Addr)(xs:List V),mg q.1=some (.ref a)/\(∀H,SqT K H a xs)/\xs.length=q.2.length/\∀(j f:Nat),q.2[j]?=some f->∃(ad:Addr)(t:DefT),xs[j]?=some (V.ref ad)/\mg t.nm=some (.ref ad)/\defs[f]?=some t/\t.meth=false
 ts:∀q∈Tx.ts,∃a:Addr,mg q.1=some (.ref a)/\ModS K a q.2
 cls:∀c∈Tx.cls,∃C,ClsIs K mg c C
 ini:∀c∈Tx.icl,IniK K mg c
 dm:∀q∈Tx.dm,∃t,defs[q.1]?=some t/\q.2=t.nm/\t.meth=false
 tmv:∀q∈Tx.tf,∀f∈q.2,T.mv f=none
 lam:B2 K=true
 nolam:Tx.lam=none:=by rfl
 ck:lI K
 mt:∀q∈Tx.mt,(eC 0 0 0).lookup q.2=none/\T.mv q.1=none/\∃t f fd,defs[q.1]?=some t/\Fun K t.nm t.qn t.st f fd/\Binds K fd t.ps []/\∀C,cvK K "Count" = .ref C->Meth K C q.2 f
 mc:∀q∈Tx.mc,T.mv q.1=some 2000/\∃C t f fd,mg q.2=some (.ref C)/\cvK K "Count" = .ref C/\Mk K C f/\CntK K C/\defs[q.1]?=some t/\Fun K t.nm t.qn t.st f fd/\Binds K fd t.ps []
noncomputable def nU(K:PySem.W.Frag)(mg:Str->Option Value)(T:Tab)(defs:List DefT)(t:DefT):Prop:=∀(P:Program)(w:World)(base:Heap)(n i:Nat)(f:Addr)(fd:FuncData),defs[i]?=some t->Fun K t.nm t.qn t.st f fd ->
 (∀i t,defs[i]?=some t->∀f fd,Fun K t.nm t.qn t.st f fd->FnOk P w K mg base (CXE P w) (2*n+2) f fd t.ps (gI K T (aA T (defs.map DefT.df) n i) i)) ->
 FnOk P w K mg base (CXE P w) (2*(n+1)+2) f fd t.ps (gI K T (aA T (defs.map DefT.df) (n+1) i) i)
set_option genInjectivity false in
structure TextOk(K:PySem.W.Frag)(mg:Str->Option Value)(T:Tab)(Tx:Txt)(defs:List DefT):Prop extends TextOk0 K mg T Tx defs where
 told:∀t∈defs,∀td,t.told=some td->nU K mg T defs t
 nmv:∀i t j,defs[i]?=some t->t.told=none->T.mv i≠some j
theorem dn_of{T:Tab}{Tx:Txt}{defs:List DefT}(h3:(defs.take Tx.dn.length).all (λt=>!t.meth)=true)(h1:(defs.take Tx.dn.length).map (·.nm)=Tx.dn)(h2:(aC Tx.dn.length).all (λg=>(T.mv g).isNone)=true):∀g nm,Tx.dn[g]?=some nm->T.mv g=none/\∃t,defs[g]?=some t/\nm=t.nm/\t.meth=false:=λg nm h=>by
 have hl:g<Tx.dn.length:=by
  by_cases z:g<Tx.dn.length
  ·exact z
  ·rw[jR (by lia)]at h;cases h
 refine⟨OE.mp (eP.mp h2 g (cF.mpr hl)),?_⟩
 rw[<-h1,bX,Ez hl]at h
 cases e:defs[g]? with
 |none=>rw[e]at h;cases h
 |some t=>
  rw[e]at h;cases h
  have:=eP.mp h3 t (iB (i:=g) (by rw[Ez hl];exact e))
  exact⟨t,rfl,rfl,by simpa using this⟩
theorem uE{P:Program}{w:World}{K:PySem.W.Frag}{mg:Str->Option Value}{base:Heap}{T:Tab}{Tx:Txt}{defs:List DefT}(X:TextOk0 K mg T Tx defs){n:Nat}{N:List Str}{nm:Str}{sc:Scope}{f:Addr}{cdv:Value}{A:Around}{outer:List Env}{s:Shared}{H:Hp}{E:XK}(hr:Room (2*n+3) (A.deeper (envOfC nm sc s.heap.objs.size f cdv)))(nd:N.Nodup)
 (ih:∀i t,defs[i]?=some t->∀f fd,Fun K t.nm t.qn t.st f fd->FnOk P w K mg base (CXE P w) (2*n+2) f fd t.ps (gI K T (aA T (defs.map DefT.df) n i) i)) :
 OkX T (aA T (defs.map DefT.df) n) Tx (fM (CXE P w) P w K mg base N nm sc f cdv A outer s H E).nox:=by
 have dfa:∀g t',t'.meth=false->defs[g]?=some t'->Aq T (aA T (defs.map DefT.df) n) (fM (CXE P w) P w K mg base N nm sc f cdv A outer s H E).nox g t'.nm:=λg t' hme e=>by
  obtain⟨f',fd',F',m',b'⟩:=X.funs t' (iB e)
  exact⟨2*n+2,f',fd',t'.ps,ih g t' e f' fd' F',hr.mono (by lia),m' hme,F'.kp,b'⟩
 have dfi:∀g t',t'.meth=false->T.mv g=none->defs[g]?=some t'->nP T (aA T (defs.map DefT.df) n) (fM (CXE P w) P w K mg base N nm sc f cdv A outer s H E).nox g t'.nm:=λg t' hme hm e=>by
  obtain⟨k',f',fd',ps',h1,h2⟩:=dfa g t' hme e
  rw[lJ hm]at h1
  exact⟨k',f',fd',ps',h1,h2⟩
 exact⟨rfl,hr.units,λg nm hg=>by
  obtain⟨hm,t',e,rfl,hme⟩:=X.dn g nm hg
  exact dfi g t' hme hm e,λg nm hg=>X.globs g nm hg,X.blt,nd,λq hq=>by
  obtain⟨a,xs,h1,h2,h3,h4⟩:=X.tf q hq
  refine⟨a,xs,h1,h2,h3,λj g hg=>?_⟩
  obtain⟨ad,t',h5,h6,h7,hme⟩:=h4 j g hg
  exact⟨ad,t'.nm,h5,h6,dfi g t' hme (X.tmv q hq g (iB hg)) h7⟩,X.ts,λq hq=>by
  obtain⟨t',e,e2,hme⟩:=X.dm q hq
  rw[e2]
  exact dfa q.1 t' hme e,X.ck,λq hq=>by
  obtain⟨h1,hm,t',f',fd',e,F',b',h2⟩:=X.mt q hq
  refine⟨h1,λC hC=>⟨2*n+2,f',fd',t'.ps,h2 C hC,?_,hr.mono (by lia),b'⟩⟩
  have:=ih q.1 t' e f' fd' F'
  rw[lJ hm]at this
  exact this,λq hq=>by
  obtain⟨hm,C,t',f',fd',g1,g2,g3,g4,e,F',b'⟩:=X.mc q hq
  refine⟨C,2*n+2,f',fd',t'.ps,g1,g2,g3,g4,?_,hr,b'⟩
  have:=ih q.1 t' e f' fd' F'
  rw[Ap hm]at this
  exact this⟩
theorem uF{P:Program}{w:World}{K:PySem.W.Frag}{mg:Str->Option Value}{base:Heap}{x qual:Str}{st:Stmt}{f:Addr}{fd:FuncData}{N ps:List Str}{k:Nat}{sp:Sp}(F:Fun K x qual st f fd)(S:FnScope N ps (bC st))(len:∀vs H Q E,sp vs H Q E->vs.length=ps.length)
 (hbody:∀(cdv:Value)(A:Around)(outer:List Env)(s:Shared)(H:Hp)(vs:List V)(Q:VK)(E:XK),fd.code=cdv->Room k (A.deeper (envOfC qual (bC st) s.heap.objs.size f cdv))->sp vs H Q E ->
  ∃t,PSs (fM (CXE P w) P w K mg base N qual (bC st) f cdv A outer s H E) (cN st) t/\t {nx:=λ_ H'=>Q .non H',rt:=Q} (dM N vs) H):FnOk P w K mg base (CXE P w) (k+1) f fd ps sp:=by
 obtain⟨oc,od,kV,doc,pm,an,cdv,ct,osl,rfl,lk,hcd⟩:=F.ex
 exact fn_of lk hcd S len λA outer s H vs Q E hr hsp=>hbody cdv A outer s H vs Q E rfl hr hsp
theorem OkX.at{T:Tab}{cf:Nat->List D->Res D}{Tx:Txt}{X:Cx}{st:Stmt}(o:OkX T cf Tx X):OkX T cf (Tx.at st) X:=⟨o.calm,o.roomy,o.defs,o.globs,o.blt,o.nd,o.tf,o.ts,o.dm,o.ck,o.mt,o.mc⟩
theorem B3{x0:Str}{P:Program}{w:World}{mg:Str->Option Value}{base:Heap}{Tx:Txt}{nm:Str}{st:Stmt}{f:Addr}{fd:FuncData}{cdv:Value}{A:Around}{outer:List Env}{s:Shared}{E:XK}(hl:B2 K=true)(F:Fun K x0 nm st f fd)(hc:fd.code=cdv)(hr:Room 2 (A.deeper (envOfC nm (bC st) s.heap.objs.size f cdv))) :
 ∀p,(Tx.at st).lam=some p->LamX (fM (CXE P w) P w K mg base N nm (bC st) f cdv A outer s H E).nox p:=λp hp=>by
 obtain⟨oc,od,kV,doc,pm,an,cdv',ct,osl,rfl,lk,_⟩:=F.ex
 have hm:=PySem.W.mem_of_lookupK lk
 have h1:=eP.mp hl _ hm
 have hp:lD (cN st)=some p:=hp
 have h2:((lD (cN st)).isNone||qH K cdv')=true:=h1
 rw[hp,Option.isNone_some,lX]at h2
 have hc:cdv'=cdv:=hc
 subst hc
 obtain⟨c,Q,rfl,hQ,h3⟩:=KA h2
 refine⟨hr,c,Q,rfl,h3,?_⟩
 refine Eu.mpr ⟨_,hm,?_⟩
 show((lD (cN st)).bind λp=>(pJ K (.ref c)).map λP=>(P,p,nm ++ ".<locals>." ++ "<lambda>"))=_
 rw[hp,hQ];rfl
section
variable{P:Program}{w:World}{K:PySem.W.Frag}{mg:Str->Option Value}{base:Heap}{T:Tab}{Tx:Txt}{defs:List DefT}
theorem KB{Hb:Hp}(sm:Same Hb H)(w:RDs K H O ds vs)(tr:Trk K Hb O)(n:Nat)(hn:n=N.length-vs.length) :
 Fm K Hb O H O (λ_=>none) (ds.map Sl.v++aQ n Sl.no) (dM N vs) where
 len:=by
  unfold L2.dM
  rw[bB,bB,aI,aI,eB,eB,w.length,hn,w.length]
 sl:=λi=>by
  by_cases hi:i<ds.length
  ·obtain⟨v,h1,h2⟩:=w.get (aP hi)
   have e1:Nv.at (ds.map Sl.v++aQ n Sl.no) i=.v ds[i]:=by
    unfold Nv.at
    rw[jP (by rw[aI];exact hi),bX,aP hi];rfl
   have e2:bY (dM N vs) i=some v:=by
    unfold bY L2.dM
    rw[jP (by rw[aI,w.length];exact hi),bX,h1];rfl
   rw[e1,e2]
   exact⟨v,rfl,h2⟩
  ·have e1:Nv.at (ds.map Sl.v++aQ n Sl.no) i=.no:=by
    unfold Nv.at
    rw[gE (by rw[aI];lia),lV]
    split<;>rfl
   rw[e1];trivial
 inj:=λ_ _ _ h=>by cases h
 same:=sm
 sub:=λ_ h=>h
 trk0:=tr
 trk:=λa h=>let ⟨o,q⟩:=tr.1 a h;⟨o,sm _ _ q⟩
 new:=λ_ _ h=>by cases h
 nw:=λi d a h _=>by
  exfalso
  by_cases hi:i<ds.length
  ·have e1:Nv.at (ds.map Sl.v++aQ n Sl.no) i=.v ds[i]:=by
    unfold Nv.at
    rw[jP (by rw[aI];exact hi),bX,aP hi];rfl
   rw[e1]at h;cases h
  ·have e1:Nv.at (ds.map Sl.v++aQ n Sl.no) i=.no:=by
    unfold Nv.at
    rw[gE (by rw[aI];lia),lV]
    split<;>rfl
   rw[e1]at h;cases h
theorem B4(w:RDs K H O ds vs)(tr:Trk K H O)(n:Nat)(hn:n=N.length-vs.length) :
 Fm K H O H O (λ_=>none) (ds.map Sl.v++aQ n Sl.no) (dM N vs):=KB (Same.refl H) w tr n hn
theorem B5(X:TextOk K mg T Tx defs):∀n i t,defs[i]?=some t->∀f fd,Fun K t.nm t.qn t.st f fd->FnOk P w K mg base (CXE P w) (2*n+2) f fd t.ps (gI K T (aA T (defs.map DefT.df) n i) i)
 |0,i,t,hi,f,fd,F=>by
  have no:∀vs H Q E,¬gI K T (aA T (defs.map DefT.df) 0 i) i vs H Q E:=λvs H Q E h=>by
   cases hmv:T.mv i with
   |none=>
    rw[lJ hmv]at h
    obtain⟨O,ds,_,_,⟨d,ev,_⟩|⟨c,d,ev,_⟩⟩:=h
    ·cases ev
    ·cases ev
   |some j=>
    unfold gI at h
    rw[hmv]at h
    obtain⟨_,_,_,_,_,_,_,_,_,_,_,_,_,_,ev,_⟩:=h
    cases ev
  exact⟨λvs H Q E h=>absurd h (no vs H Q E),λA outer s H args us vs Q E _ _ _ _ h=>absurd h (no vs H Q E)⟩
 |n+1,i,t,hi,f,fd,F=>by
  have ih:=B5 X n
  cases ht:t.told with
  |some td=>
   exact X.told t (iB hi) td ht P w base n i f fd hi F ih
  |none=>
  have hok:=eP.mp X.ok t (iB hi)
  unfold DefT.okB at hok
  rw[ht,Nu,lX,aD]at hok
  have S:=uD hok.1
  have hdf:(defs.map DefT.df)[i]?=some ⟨t.N.length,t.ps.length,t.body,none⟩:=by rw[bX,hi];show some (DefT.df t)=_;unfold DefT.df;rw[ht]
  have lenOf:∀ds r,aA T (defs.map DefT.df) (n+1) i ds=r->r≠.no->ds.length=t.ps.length:=by
   intro ds r ev hr
   rw[lB,hdf]at ev
   by_cases c:(ds.length==t.df.pars)=true
   ·exact(by simpa using c:ds.length=t.df.pars)
   ·have c':(ds.length==t.df.pars)=false:=by simpa using c
    have ev:aE (ds.length==t.df.pars) _=r:=ev
    rw[c']at ev
    exact absurd ev.symm hr
  have open1:∀ds,ds.length=t.ps.length->aA T (defs.map DefT.df) (n+1) i ds=(match exS T (aA T (defs.map DefT.df) n) t.body (ds.map Sl.v++aQ (t.N.length-t.ps.length) Sl.no)with
   |.ok (.rt x k)=>aE (k||!T.fresh i) (.ok x)
   |.ok (.nx _)=>aE (!T.fresh i) (.ok .non)
   |_=>.no):=by
   intro ds hl
   rw[lB,hdf]
   exact bV (by simpa using hl) _
  have un:∀ds r,aA T (defs.map DefT.df) (n+1) i ds=r->r≠.no->∃out d,r=.ok d/\exS T (aA T (defs.map DefT.df) n) t.body (ds.map Sl.v++aQ (t.N.length-t.ps.length) Sl.no)=.ok out /\
   ((∃k,out=.rt d k/\(k=true\/T.fresh i=false))\/(∃e,out=.nx e/\d=.non/\T.fresh i=false)):=by
   intro ds r ev hr
   rw[open1 ds (lenOf ds _ ev hr)]at ev
   cases hs:exS T (aA T (defs.map DefT.df) n) t.body (ds.map Sl.v++aQ (t.N.length-t.ps.length) Sl.no)with
   |ok out=>
    rw[hs]at ev
    cases out with
    |nx e=>
     have ev:aE (!T.fresh i) (Res.ok D.non)=r:=ev
     cases c:T.fresh i with
     |true=>rw[c]at ev;exact absurd ev.symm hr
     |false=>rw[c]at ev;exact⟨_,_,ev.symm,rfl,.inr ⟨e,rfl,rfl,rfl⟩⟩
    |rt x k=>
     have ev:aE (k||!T.fresh i) (Res.ok x)=r:=ev
     cases c:(k||!T.fresh i)with
     |false=>rw[c]at ev;exact absurd ev.symm hr
     |true=>rw[c]at ev;exact⟨_,_,ev.symm,rfl,.inl ⟨k,rfl,by simpa using c⟩⟩
    |_=>exact absurd ev.symm hr
   |_=>rw[hs]at ev;exact absurd ev.symm hr
  have core:∀(cdv:Value)(A:Around)(outer:List Env)(s:Shared)(H Hb:Hp)(O:Addr->Prop)(ds:List D)(vs:List V)(own:Nat->Option Addr)(Q:VK)(E:XK),fd.code=cdv->Room (2*n+3) (A.deeper (envOfC t.qn (bC t.st) s.heap.objs.size f cdv))->Fm K Hb O H O own (ds.map Sl.v++aQ (t.N.length-t.ps.length) Sl.no) (dM t.N vs) ->
   ((∃d,aA T (defs.map DefT.df) (n+1) i ds=.ok d/\∀v H',Same Hb H'->RD K H' O d v->(T.fresh i=true->NewR K Hb H' O d v)->Q v H')\/∃c d,aA T (defs.map DefT.df) (n+1) i ds=.err c d/\∀od H',Same Hb H'->A5 d od H'->E (cvK K c) od H') ->
   ∃tt,PSs (fM (CXE P w) P w K mg base t.N t.qn (bC t.st) f cdv A outer s H E) (cN t.st) tt/\tt {nx:=λ_ H'=>Q .non H',rt:=Q} (dM t.N vs) H:=by
   intro cdv A outer s H Hb O ds vs own Q E hcd hr Fs h
   have okx:=uE (P:=P) (w:=w) (base:=base) X.toTextOk0 (cdv:=cdv) (outer:=outer) (H:=H) (E:=E) (f:=f) hr S.nd ih
   have oks:OkS T (aA T (defs.map DefT.df) n) (Tx.at t.st) (fM (CXE P w) P w K mg base t.N t.qn (bC t.st) f cdv A outer s H E).nox:=⟨okx.at,rfl,λ_=>rfl,B3 X.lam F hcd (hr.mono (by lia))⟩
   rcases h with⟨d,ev,k⟩|⟨c,d,ev,k⟩
   ·obtain⟨out,d',e0,e1,e2⟩:=un ds _ ev (λz=>by cases z)
    cases e0
    refine⟨_,((B0 t.body).2 _ _ oks hok.2 Hb O).nox,?_⟩
    refine⟨[],_,out,⟨O,own,Fs,λt ht=>by cases ht⟩,e1,?_⟩
    rcases e2 with⟨fr,rfl,hf⟩|⟨e,rfl,rfl,hf⟩
    ·intro v H' s' r nl
     refine k v H' s' r λz=>nl ?_
     rcases hf with q|q
     ·exact q
     ·rw[z]at q;cases q
    ·rintro σ' H' ⟨O',own',F',_⟩
     exact k .non H' F'.same rfl λz=>by rw[z]at hf;cases hf
   ·obtain⟨_,_,e0,_⟩:=un ds _ ev (λz=>by cases z)
    cases e0
  cases hmv:T.mv i with
  |none=>
   rw[lJ hmv]
   refine uF F S (λvs H Q E h=>?_) (λcdv A outer s H vs Q E hcd hr h=>?_)
   ·obtain⟨O,ds,_,rr,⟨d,ev,_⟩|⟨c,d,ev,_⟩⟩:=h
    ·rw[rr.length];exact lenOf ds _ ev (λz=>by cases z)
    ·rw[rr.length];exact lenOf ds _ ev (λz=>by cases z)
   ·obtain⟨O,ds,tr,rr,h⟩:=h
    have hl:ds.length=t.ps.length:=by
     rcases h with⟨d,ev,_⟩|⟨c,d,ev,_⟩
     ·exact lenOf ds _ ev (λz=>by cases z)
     ·exact lenOf ds _ ev (λz=>by cases z)
    exact core cdv A outer s H H O ds vs _ Q E hcd hr (B4 (N:=t.N) rr tr (t.N.length-t.ps.length) (by rw[rr.length,hl])) h
  |some j=>exact absurd hmv (X.nmv i t j hi ht)
theorem law_sp{i n:Nat}(hT:∀ns:List Int,ns.length<=63->aA T (defs.map DefT.df) n i [.lst (ns.map D.int)]=.ok (.bl true))(K:PySem.W.Frag)(H:Hp)(a:Addr)(ns:List Int)(hl:ns.length<=63)(ht:TabK K H)(hS:SqL K H a (ns.map V.int)){Q:VK}(hQ:∀H',Same H H'->Q (.bl true) H') :
 spD K (aA T (defs.map DefT.df) n i) (T.fresh i) [.ref a] H Q (λ_ _ _=>False):=by
 refine⟨no,[.lst (ns.map D.int)],⟨λa h=>h.elim,ht⟩,⟨.ref a,[],rfl,⟨a,ns.map V.int,rfl,?_,?_⟩,rfl⟩,.inl ⟨.bl true,hT ns hl,λv H' s r _=>by
  cases (show v=.bl true from r)
  exact hQ H' s⟩⟩
 ·rcases hS with z|z
  ·exact .inl ⟨λq=>q,z⟩
  ·exact .inr z
 ·clear hl hS
  induction ns with
  |nil=>exact rfl
  |cons i r ih=>exact⟨.int i,r.map V.int,rfl,rfl,ih⟩
end
end Tr
namespace Tr
open PySem PySem.Spec PyProof.Rows L2
variable{d:D}{x:E}{n:Int}{cl:List (Int×Int)}{kss:List (List Int)}{ds ks:List D}{xs:List V}{m:Nat}{cf:Nat->List D->Res D}{r:Nv}
section
variable{K:PySem.W.Frag}{H:Hp}{O:Addr->Prop}
theorem KC{K:PySem.W.Frag}{H:Hp}{O:Addr->Prop}:∀{ks:List D} {q:List Int} {xs:List V},cO ks=.ok q->RDs K H O ks xs->xs=q.map V.int:=λh w=>nK h w
theorem B6{q:List Int}{c:Addr}(h:cO ks=.ok q)(w:RDs K H O ks xs)(t:TupV K H c xs):H c=some (.tup (q.map V.int)):=by
 have e:=KC h w
 subst e
 rcases t with t|⟨⟨ss,ne,e⟩,_⟩
 ·exact t
 ·exfalso
  cases q with
  |nil=>cases ss with
   |nil=>exact ne rfl
   |cons _ _=>cases e
  |cons i q=>cases ss with
   |nil=>exact ne rfl
   |cons _ _=>rw[aL,aL]at e;injection e with e _;cases e
theorem B7{K:PySem.W.Frag}{H:Hp}{O:Addr->Prop}:∀{ks:List D} {kss:List (List Int)} {xs:List V},gU ks=.ok kss->RDs K H O ks xs->Paired (λ(ks:List Int) (v:V)=>∃c,v=V.ref c/\H c=some (.tup (ks.map V.int))) kss xs
 |[],kss,xs,h,w=>by
  cases h
  rw[RDs]at w;subst w;exact .nil
 |.tup q::r,kss,xs,h,w=>by
  obtain⟨q',h1,h⟩:=Res.bind_ok (show(cO q>>=_)=Res.ok kss from h)
  obtain⟨qs,h2,h⟩:=Res.bind_ok h
  cases h
  obtain⟨v,ys,rfl,⟨c,zs,rfl,t,w1⟩,w2⟩:=w
  exact .cons ⟨c,rfl,B6 h1 w1 t⟩ (B7 h2 w2)
 |.non::_,_,_,h,_ | .bl _::_,_,_,h,_ | .int _::_,_,_,h,_ | .str _::_,_,_,h,_ | .lst _::_,_,_,h,_ | .dct _::_,_,_,h,_ | .tdc _::_,_,_,h,_ | .cnt _ _::_,_,_,h,_=>by cases h
theorem key_rd{p:Addr}(ne:ks≠[])(h:gU ks=.ok kss)(w:RDs K H O ks xs)(t:TupV K H p xs):gF H kss p:=by
 have pr:=B7 h w
 rcases t with t|⟨⟨ss,ne',e⟩,_⟩
 ·exact⟨xs,t,pr⟩
 ·exfalso
  subst e
  cases ss with
  |nil=>exact ne' rfl
  |cons s ss=>
   rw[aL]at pr
   cases pr with
   |cons z _=>obtain⟨c,e2,_⟩:=z;cases e2
end
noncomputable def lO:S:=.ite (.cmp .Eq (.var 1) (.tup .anil)) (.cons (.ret (.con (.int 1))) .nil) .nil
theorem B8:∀{ks:List D} {q:List Int} (n:Nat),cO ks=.ok q->D.pls (n+1) ks=true
 |[],_,_,_=>by rw[D.pls]
 |.int i::r,q,n,h=>by
  obtain⟨q',h1,_⟩:=Res.bind_ok (show(cO r>>=_)=Res.ok q from h)
  rw[D.pls,aD]
  exact⟨by simp[D.pl],B8 n h1⟩
 |.non::_,_,_,h | .bl _::_,_,_,h | .tup _::_,_,_,h | .str _::_,_,_,h | .lst _::_,_,_,h | .dct _::_,_,_,h | .tdc _::_,_,_,h | .cnt _ _::_,_,_,h=>by cases h
theorem B9:∀{ks:List D} {q:List (List Int)} (n:Nat),gU ks=.ok q->D.pls (n+2) ks=true
 |[],_,_,_=>by rw[D.pls]
 |.tup i::r,q,n,h=>by
  obtain⟨q',h1,h⟩:=Res.bind_ok (show(cO i>>=_)=Res.ok q from h)
  obtain⟨qs,h2,h⟩:=Res.bind_ok h
  rw[D.pls,aD]
  exact⟨by rw[D.pl];exact B8 n h1,B9 n h2⟩
 |.non::_,_,_,h | .bl _::_,_,_,h | .int _::_,_,_,h | .str _::_,_,_,h | .lst _::_,_,_,h | .dct _::_,_,_,h | .tdc _::_,_,_,h | .cnt _ _::_,_,_,h=>by cases h
theorem KD{T:Tab}(h:jD T cf x m ds=.ok d):∃n cl ks,ds=[.cnt n cl,.tup ks]/\((ks=[]/\d=.int 1) \/
 ∃kss,ks≠[]/\gU ks=.ok kss/\fJ kss=true/\evE T cf x ([.v (.cnt n cl),.v (.tup ks)]++aQ m Sl.no)=.ok (.int (dS n cl kss))/\d=.int (dS n cl kss)):=by
 unfold jD at h
 split at h
 ·cases h
  exact⟨_,_,_,rfl,.inl ⟨rfl,rfl⟩⟩
 ·rename_i n cl ks hne
  split at h
  ·rename_i kss hk
   split at h
   ·rename_i v hv
    obtain⟨c,h⟩:=aS h
    cases h
    rw[aD,beq_iff_eq]at c
    obtain⟨c1,rfl⟩:=c
    refine⟨n,cl,ks,rfl,.inr ⟨kss,λz=>?_,hk,c1,hv,rfl⟩⟩
    subst z
    exact hne rfl
   ·cases h
  ·cases h
 ·cases h
theorem KE{T:Tab}{c:Str}:jD T cf x m ds≠.err c d:=λh=>by
 unfold jD at h
 split at h
 ·cases h
 ·split at h
  ·split at h
   ·unfold aE at h;split at h<;>cases h
   ·cases h
  ·cases h
 ·cases h
theorem KF{T:Tab}:exS T cf lO ([.v (.cnt n cl),.v (.tup [])]++r)=.ok (.rt (.int 1) false):=by
 unfold lO
 rw[sR,sP,yY,nA]
 show(do let x<-(do let x<-(Res.ok (D.tup []):Res D);let y<-(do let xs<-evA T cf .anil _;Res.ok (D.tup xs));D.cmp .Eq x y);let k<-x.truth;if k then _ else _)=_
 rfl
theorem KG{T:Tab}(ne:ks≠[])(h:gU ks=.ok kss):exS T cf lO ([.v (.cnt n cl),.v (.tup ks)]++r)=.ok (.nx ([.v (.cnt n cl),.v (.tup ks)]++r)):=by
 have e1:evE T cf (.cmp .Eq (.var 1) (.tup .anil)) ([.v (.cnt n cl),.v (.tup ks)]++r)=D.cmp .Eq (.tup ks) (.tup []):=rfl
 have e2:D.cmp .Eq (.tup ks) (.tup [])=.ok (.bl false):=by
  have e3:D.eqOk (.tup ks) (.tup [])=true:=by
   show(D.pls 30 ks&&true)=true
   rw[B9 28 h];rfl
  have e4:D.eqb (.tup ks) (.tup [])=false:=by
   cases ks with
   |nil=>exact absurd rfl ne
   |cons a r=>rfl
  show aE (D.eqOk (.tup ks) (.tup [])) (Res.ok (D.bl (D.eqb (.tup ks) (.tup []))))=_
  rw[e3,e4];rfl
 unfold lO
 rw[sR,e1,e2]
 rfl
section
variable{P:Program}{w:World}{K:PySem.W.Frag}{mg:Str->Option Value}{base:Heap}{T:Tab}{Tx:Txt}{defs:List DefT}
theorem mem_ok(X:TextOk0 K mg T Tx defs){t:DefT}{td:Told}{ve:E}{x y:Str}{value:Expr}(ht:t.told=some td)(hm:td.mem=some ve)(hmv:∀i,defs[i]?=some t->T.mv i=none)(hf:kE t.N t.ps (bC t.st)=true)(hps:t.ps.length=2)
 (hx:dD t.N (bC t.st) 0 x=true) (hy:dD t.N (bC t.st) 1 y=true)
 (hsh:∃(p1 p2 p3 p4 p5 p6 p7 p8 p9 p10 p11 p12 p13 p14 p15:Pos)(r1:Stmt),mS (Tx.at t.st) lO t.N (bC t.st) r1=true/\dC value=true/\aH ve=false/\mE (Tx.at t.st) ve t.N (bC t.st) value=true /\
  cN t.st=[r1,.If (.Compare (.Name y p1) [.NotIn] [.Attribute (.Name x p2) "known" p3] p4) [.Assign [.Subscript (.Attribute (.Name x p5) "known" p6) (.Name y p7) p8] value p9] [] p10,
   .Return (some (.Subscript (.Attribute (.Name x p11) "known" p12) (.Name y p13) p14)) p15]):nU K mg T defs t:=by
 intro P w base n i f fd hi F ih
 have S:=uD hf
 obtain⟨p1,p2,p3,p4,p5,p6,p7,p8,p9,p10,p11,p12,p13,p14,p15,r1,hr1,hnc,hrd,hve,hsh⟩:=hsh
 obtain⟨a1,a2,a3,a4⟩:=gK hx
 obtain⟨b1,b2,b3,b4⟩:=gK hy
 have hdf:(defs.map DefT.df)[i]?=some ⟨t.N.length,t.ps.length,t.body,some td⟩:=by rw[bX,hi];show some (DefT.df t)=_;unfold DefT.df;rw[ht]
 rw[lJ (hmv i hi)]
 have op:∀ds,aA T (defs.map DefT.df) (n+1) i ds=aE (ds.length==t.ps.length) (aE (!T.fresh i) (jD T (aA T (defs.map DefT.df) n) ve (t.N.length-t.ps.length) ds)):=λds=>by
  rw[lB,hdf]
  dsimp only
  rw[hm]
 have opx:∀ds c d,aA T (defs.map DefT.df) (n+1) i ds≠.err c d:=λds c d z=>by
  rw[op]at z
  unfold aE at z
  split at z
  ·split at z
   ·exact KE z
   ·cases z
  ·cases z
 refine uF F S (λvs H Q E h=>?_) (λcdv A outer s H vs Q E hcd hr h=>?_)
 ·obtain⟨O,ds,_,rr,⟨d,ev,_⟩|⟨c,d,ev,_⟩⟩:=h
  ·rw[op]at ev
   obtain⟨c,_⟩:=aS ev
   rw[rr.length];exact beq_iff_eq.mp c
  ·exact absurd ev (opx _ _ _)
 ·obtain⟨O,ds,tr,rr,⟨d,ev,k⟩|⟨c,d,ev,_⟩⟩:=h
  case inr=>exact absurd ev (opx _ _ _)
  rw[op]at ev
  obtain⟨hl,ev⟩:=aS ev
  obtain⟨hfr,ev⟩:=aS ev
  have hfr:T.fresh i=false:=by simpa using hfr
  have hl:ds.length=t.ps.length:=beq_iff_eq.mp hl
  have okx:=uE (P:=P) (w:=w) (base:=base) X (cdv:=cdv) (outer:=outer) (H:=H) (E:=E) (f:=f) (s:=s) hr S.nd ih
  have oks:OkS T (aA T (defs.map DefT.df) n) (Tx.at t.st) (fM (CXE P w) P w K mg base t.N t.qn (bC t.st) f cdv A outer s H E).nox:=⟨okx.at,rfl,λ_=>rfl,B3 X.lam F hcd (hr.mono (by lia))⟩
  have P1:=(B0 lO).1 _ r1 oks hr1 H O
  have P2:=((cX ve).1 _ value okx.at hve).2.1 hrd H O
  rw[hsh]
  have hu:(A.deeper (envOfC t.qn (bC t.st) s.heap.objs.size f cdv)).units+9<cLine:=by have:=hr.un;lia
  refine⟨_,(oR P1 (IE (p1:=p1) (p2:=p2) (p3:=p3) (p4:=p4) (p5:=p5) (p6:=p6) (p7:=p7) (p8:=p8) (p9:=p9) (p10:=p10) (p11:=p11) (p12:=p12) (p13:=p13) (p14:=p14) (p15:=p15) hu a1 a2 a3 a4 b1 b2 b3 b4 P2 (gX hnc))).nox,?_⟩
  have fr:∀{q:Prop},T.fresh i=true->q:=λz=>by rw[hfr]at z;cases z
  have fm:=B4 (N:=t.N) rr tr (t.N.length-t.ps.length) (by rw[rr.length,hl])
  obtain⟨n0,cl,ks,rfl,hk⟩:=KD ev
  rcases hk with⟨rfl,rfl⟩|⟨kss,ne,hk,sk,hev,rfl⟩
  ·exact⟨[],_,_,⟨O,_,fm,λt ht=>by cases ht⟩,KF,λv H' s' r' _=>k v H' s' r' fr⟩
  ·refine⟨[],_,_,⟨O,_,fm,λt ht=>by cases ht⟩,KG ne hk,?_⟩
   rintro σ' H' ⟨O',own',F',_⟩
   obtain⟨v0,e0,a,b,rfl,o,C,dx,kd,xs,g1,g23,g4⟩:=F'.sl 0
   obtain⟨v1,e1,p,ys,rfl,q1,w1⟩:=F'.sl 1
   have ix:∀j v,bY σ' j=some v->σ'[j]?=some (some v):=λj v h=>by
    unfold bY at h
    cases e:σ'[j]? with
    |none=>rw[e]at h;cases h
    |some u=>rw[e]at h;cases u with
     |none=>cases h
     |some u=>cases h;rfl
   refine⟨a,b,dx,kd,C,o,n0,cl,kss,p,ix 0 _ e0,ix 1 _ e1,g1,(X.ck C g4).c,(X.ck C g4).n3,key_rd ne hk w1 q1,sk,⟨O',own',_,_,F',hev,λv H1 s1 r1 _=>⟨r1,s1,k _ _ (F'.same.trans s1) rfl fr⟩⟩,k _ _ F'.same rfl fr⟩
end
end Tr
namespace Tr
open PySem PySem.Spec PyProof.Rows L2
variable{c x:Addr}{d:D}{H:Hp}{v:V}
noncomputable def iP(H:Hp)(x:Addr):Hp:=λc=>if c=x then none else H c
theorem uG(h:c≠x):iP H x c=H c:=by unfold iP;rw[if_neg h]
theorem uH{o:HO}(h:iP H x c=some o):c≠x/\H c=some o:=by
 unfold iP at h
 split at h
 ·cases h
 ·exact⟨by assumption,h⟩
section
variable{K:PySem.W.Frag}{H H':Hp}{O:Addr->Prop}{x C dx:Addr}{fs:List (Str×V)}
theorem rd_but(hx:H x=some (.ins C dx fs))(k:∀c o,c≠x->H c=some o->H' c=some o)(r:RD K H O d v):RD K H' O d v:=by
 have nx:∀c u,H c=some u->(∀a b f,u≠.ins a b f)->c≠x:=λc u e z y=>by subst y;rw[hx]at e;cases e;exact z _ _ _ rfl
 refine RD.map (λa xs t=>?_) (λa xs n r=>⟨n,?_⟩) (λa o u e=>k a _ (nx a _ e λ_ _ _ z=>nomatch z) e) r
 ·rcases t with t|t
  ·exact .inl (k a _ (nx a _ t λ_ _ _ z=>nomatch z) t)
  ·exact .inr t
 ·rcases r with r|⟨o,r⟩
  ·exact .inl (k a _ (nx a _ r λ_ _ _ z=>nomatch z) r)
  ·exact .inr ⟨o,k a _ (nx a _ r λ_ _ _ z=>nomatch z) r⟩
theorem KH{ds:List D}:∀{cl:List (Int×Int)} {xs:List V},jC ds=.ok cl->RDs K H O ds xs->nD H cl xs:=by
 induction ds with
 |nil=>
  intro cl xs h w
  cases h
  rw[RDs]at w;subst w;exact .nil
 |cons d ds ih=>
  intro cl xs h w
  unfold jC at h
  split at h
  ·rename_i heq;cases heq
  ·rename_i i j r heq
   cases heq
   obtain⟨q,h1,h⟩:=Res.bind_ok h
   cases h
   obtain⟨v,ys,rfl,⟨c,zs,rfl,t,w1⟩,w2⟩:=w
   refine .cons ⟨c,rfl,?_⟩ (ih h1 w2)
   exact B6 (q:=[i,j]) rfl w1 t
  ·cases h
theorem B_{Hb:Hp}{N:List Str}{v0:V}(sm:Same Hb H)(r:RD K H O d v)(tr:Trk K Hb O)(n:Nat)(hn:n=N.length-2):Fm K Hb O H O (λ_=>none) ([.no,.v d]++aQ n Sl.no) (dM N [v0,v]) where
 len:=by
  unfold L2.dM
  rw[bB,bB,eB,eB,hn];rfl
 sl:=λi=>by
  match i with
  |0=>trivial
  |1=>exact⟨v,rfl,r⟩
  |i+2=>
   have e1:Nv.at ([.no,.v d]++aQ n Sl.no) (i+2)=.no:=by
    unfold Nv.at
    rw[gE (by show 2<=i+2;lia),lV]
    split<;>rfl
   rw[e1];trivial
 inj:=λ_ _ _ h=>by cases h
 same:=sm
 sub:=λ_ h=>h
 trk0:=tr
 trk:=λa h=>let ⟨o,q⟩:=tr.1 a h;⟨o,sm _ _ q⟩
 new:=λ_ _ h=>by cases h
 nw:=λi d' a h _=>by
  exfalso
  match i with
  |0=>cases h
  |1=>cases h
  |i+2=>
   have e1:Nv.at ([.no,.v d]++aQ n Sl.no) (i+2)=.no:=by
    unfold Nv.at
    rw[gE (by show 2<=i+2;lia),lV]
    split<;>rfl
   rw[e1]at h;cases h
end
theorem mk_inv{T:Tab}{cf:Nat->List D->Res D}{x y:E}{m:Nat}{n:Int}{cl:List (Int×Int)}(h:mkR T cf x y m [.non,d]=.ok (.cnt n cl)):evE T cf x ([.no,.v d]++aQ m Sl.no)=.ok (.int n) /\
 ∃ds,evE T cf y ([.no,.v d]++aQ m Sl.no)=.ok (.lst ds)/\jC ds=.ok cl/\cP T y=true:=by
 unfold mkR at h
 obtain⟨d1,h1,h⟩:=Res.bind_ok h
 cases d1 with
 |int n1=>
  obtain⟨d2,h2,h⟩:=Res.bind_ok h
  cases d2 with
  |lst ds=>
   obtain⟨cl1,h3,h⟩:=Res.bind_ok h
   obtain⟨c,h⟩:=aS h
   cases h
   exact⟨h1,ds,h2,h3,c⟩
  |_=>cases h
 |_=>cases h
section
variable{P:Program}{w:World}{K:PySem.W.Frag}{mg:Str->Option Value}{base:Heap}{T:Tab}{Tx:Txt}{defs:List DefT}
theorem mk_ok(X:TextOk0 K mg T Tx defs){t:DefT}{td:Told}{ve we:E}{x:Str}{value wal:Expr}(ht:t.told=some td)(hm0:td.mem=none)(hm:td.ini2=some (ve,we))(hmv:∀i,defs[i]?=some t->T.mv i=some 2000)(hf:kE t.N t.ps (bC t.st)=true)(hps:t.ps.length=2)
 (hx:dD t.N (bC t.st) 0 x=true)
 (hsh:∃(p1 p2 p3 p4 p5 p6 p7 p8 p9 p10:Pos),dC value=true/\dC wal=true/\aH ve=false/\aH we=false/\mE (Tx.at t.st) ve t.N (bC t.st) value=true/\mE (Tx.at t.st) we t.N (bC t.st) wal=true /\
  cN t.st=[.Assign [.Attribute (.Name x p1) "parts" p2] value p3,.Assign [.Attribute (.Name x p4) "clashes" p5] wal p6,.Assign [.Attribute (.Name x p7) "known" p8] (.Dict [] [] p9) p10]):nU K mg T defs t:=by
 intro P w base n i f fd hi F ih
 have S:=uD hf
 obtain⟨p1,p2,p3,p4,p5,p6,p7,p8,p9,p10,hc1,hc2,hr1,hr2,hve,hwe,hsh⟩:=hsh
 obtain⟨a1,a2,a3,a4⟩:=gK hx
 have hdf:(defs.map DefT.df)[i]?=some ⟨t.N.length,t.ps.length,t.body,some td⟩:=by rw[bX,hi];show some (DefT.df t)=_;unfold DefT.df;rw[ht]
 rw[Ap (hmv i hi)]
 have op:∀ds,aA T (defs.map DefT.df) (n+1) i ds=aE (ds.length==t.ps.length) (mkR T (aA T (defs.map DefT.df) n) ve we (t.N.length-t.ps.length) ds):=λds=>by
  rw[lB,hdf]
  dsimp only
  rw[hm0]
  dsimp only
  rw[hm]
 refine uF F S (λvs H Q E h=>?_) (λcdv A outer s H vs Q E hcd hr h=>?_)
 ·obtain⟨_,_,_,_,_,_,_,_,rfl,_⟩:=h
  exact hps.symm
 ·obtain⟨O,d,v,xa,C,dx,n0,cl,rfl,h1,ck,nO,tr,rr,ev,k⟩:=h
  rw[op]at ev
  obtain⟨_,ev⟩:=aS ev
  obtain⟨e1,ds,e2,e3,e4⟩:=mk_inv ev
  have okx:=uE (P:=P) (w:=w) (base:=base) X (cdv:=cdv) (outer:=outer) (H:=H) (E:=E) (f:=f) (s:=s) hr S.nd ih
  have P1:=((cX ve).1 _ value okx.at hve).2.1 hr1 (iP H xa) O
  have P2:=((cX we).1 _ wal okx.at hwe).2.1 hr2 (iP H xa) O
  rw[hsh]
  refine⟨_,(oR (sA (pos:=p3) (pos':=p2) (f := "parts") (fV (pos:=p1) a1 a2 a3 a4) P1 (gX hc1)) (oR (sA (pos:=p6) (pos':=p5) (f := "clashes") (fV (pos:=p4) a1 a2 a3 a4) P2 (gX hc2)) (Fh (sA (pos:=p10) (pos':=p8) (f := "known") (fV (pos:=p7) a1 a2 a3 a4) (yV (pos:=p9)) rfl)))).nox,?_⟩
  have trb:Trk K (iP H xa) O:=⟨λc hc=>by
   obtain⟨o,q⟩:=tr.1 c hc
   have nc:c≠xa:=λz=>by rw[z]at hc;exact nO hc
   exact⟨o,by rw[uG nc];exact q⟩,?tab⟩
  case tab=>
   refine⟨λq hq=>?_,λq=>?_⟩
   ·rw[uG (λz=>by have:=tr.2.1 q hq;rw[z,h1]at this;cases this)]
    exact tr.2.1 q hq
   ·obtain⟨bm,ob,g1,g2,g3⟩:=tr.2.2 q
    exact⟨bm,ob,g1,by rw[uG (λz=>by rw[z,h1]at g2;cases g2)];exact g2,g3⟩
  have sm0:Same (iP H xa) H:=λc o q=>(uH q).2
  have sl0:(dM t.N [V.ref xa,v])[0]?=some (some (V.ref xa)):=rfl
  refine⟨O,_,_,_,B_ (v0:=.ref xa) sm0 rr trb (t.N.length-t.ps.length) (by rw[hps]),e1,λv1 H1 s1 r1 _=>?_⟩
  cases (show v1=.int n0 from r1)
  have x1:H1 xa=some (.ins C dx []):=s1 _ _ h1
  refine⟨.ref xa,sl0,xa,C,dx,[],rfl,x1,ck.c,ck.n1,by decide,?_⟩
  have k2:∀c o,c≠xa->H c=some o->upd H1 xa (.ins C dx (dB "parts" (.int n0) [])) c=some o:=λc o z q=>by rw[aG z];exact s1 _ _ q
  have sm2:Same (iP H xa) (upd H1 xa (.ins C dx (dB "parts" (.int n0) []))):=λc o q=>k2 c o (uH q).1 (uH q).2
  refine⟨O,_,_,_,B_ (v0:=.ref xa) sm2 (rd_but h1 k2 rr) trb (t.N.length-t.ps.length) (by rw[hps]),e2,λv2 H2 s2 r2 n2=>?_⟩
  obtain⟨b,rfl,nb,xs,gb,wb⟩:=n2 e4 rfl
  have x2:H2 xa=some (.ins C dx (dB "parts" (.int n0) [])):=s2 _ _ bA
  refine⟨.ref xa,sl0,xa,C,dx,_,rfl,x2,ck.c,ck.n2,(by have:=mN "parts" (V.int n0) [];rw[oM]at this;lia),?_⟩
  intro kd hkd
  have nkx:kd≠xa:=λz=>by rw[z,bA]at hkd;cases hkd
  have nbx:b≠xa:=λz=>by rw[z,bA]at nb;cases nb
  have nkb:kd≠b:=λz=>by rw[z,aG nbx,gb]at hkd;cases hkd
  refine⟨.ref xa,sl0,xa,C,dx,_,rfl,by rw[aG nkx.symm,bA],ck.c,ck.n3,(by have h1:=mN "parts" (V.int n0) [];have h2:=mN "clashes" (V.ref b) (dB "parts" (V.int n0) []);rw[oM]at h1;lia),?_⟩
  refine k _ b kd xs (λc o z q=>?_) bA (by rw[aG nkx,bA]) ?_ ?_ ?_ ?_
  ·have q1:=k2 c o z q
   have q2:=s2 _ _ q1
   have nck:c≠kd:=λy=>by rw[aG nkx]at hkd;rw[y,hkd]at q2;cases q2
   rw[aG z,aG nck,aG z];exact q2
  ·rw[aG nbx,aG nkb.symm,aG nbx];exact gb
  ·cases hq:H b with
   |none=>rfl
   |some o=>have:=k2 b o nbx hq;rw[this]at nb;cases nb
  ·cases hq:H kd with
   |none=>rfl
   |some o=>have:=s2 _ _ (k2 kd o nkx hq);rw[aG nkx,this]at hkd;cases hkd
  ·refine Paired.mapP (KH e3 wb) λp v ⟨q,z1,z2⟩=>⟨q,z1,?_⟩
   have nqk:q≠kd:=λy=>by rw[y,]at z2;rw[aG nkx]at hkd;rw[hkd]at z2;cases z2
   have nqx:q≠xa:=λy=>by rw[y,x2]at z2;cases z2
   rw[aG nqx,aG nqk,aG nqx];exact z2
end
end Tr
namespace Tr
open PySem PySem.Spec PyProof.Rows L2 PySem.W
section
variable{X:Cx}{i:Nat}{x c:Str}{C:Addr}{b:Bool}{p:Expr}
end
noncomputable def isNon:D->Bool
 |.non=>true
 |_=>false
section
variable{T:Tab}{cf:Nat->List D->Res D}
end
section
variable{K:PySem.W.Frag}{mg:Str->Option Value}{T:Tab}{Tx:Txt}{defs:List DefT}
theorem nmv_of(h:(aC defs.length).all (λi=>match T.mv i with|none=>true|some j=>(match defs[i]? with|some t=>t.told.isSome|none=>true))=true):∀i t j,defs[i]?=some t->t.told=none->T.mv i≠some j:=λi t j hi hs hj=>by
 have:=eP.mp h i (cF.mpr (cT.mp hi).1)
 rw[hj,hi]at this
 dsimp only at this
 rw[hs]at this
 cases this
theorem KI(X:TextOk0 K mg T Tx defs)(h:∀t∈defs,∀td,t.told=some td->nU K mg T defs t)(hmv:(aC defs.length).all (λi=>match T.mv i with|none=>true|some j=>(match defs[i]? with|some t=>t.told.isSome|none=>true))=true:=by rfl):TextOk K mg T Tx defs:=
 ⟨X,h,nmv_of hmv⟩
end
end Tr
namespace Tr
open PySem PySem.Spec PyProof.Rows L2
variable{h:Heap}{P:List Value->Prop}{K:PySem.W.Frag}{x:Str}{mg:Str->Option Value}
theorem jH(h:∀a0:Value,P [a0]):∀us:List Value,us.length=1->P us
 |[_],_=>h _
theorem dN(h:∀a0 a1:Value,P [a0,a1]):∀us:List Value,us.length=2->P us
 |[_,_],_=>h _ _
theorem eU(h:∀a0 a1 a2:Value,P [a0,a1,a2]):∀us:List Value,us.length=3->P us
 |[_,_,_],_=>h _ _ _
theorem nV(h:∀a0 a1 a2 a3:Value,P [a0,a1,a2,a3]):∀us:List Value,us.length=4->P us
 |[_,_,_,_],_=>h _ _ _ _
theorem len5(h:∀a0 a1 a2 a3 a4:Value,P [a0,a1,a2,a3,a4]):∀us:List Value,us.length=5->P us
 |[_,_,_,_,_],_=>h _ _ _ _ _
theorem aY{K:PySem.W.Frag}{h:Heap}{mg:Str->Option Value}(X:K.In h)(G:h.Ns mainGlobals mg){x:Str}{st:Stmt}{ps:List Str}{f:Addr}{oc:Value}{od an:Option Addr}{osl:Array (Option Value)}{kV doc pm cdv ct:Value}
 (a:PySem.W.nsIn K mainGlobals x=some (some (.ref f))) (l:K.lookup f=some ⟨oc,od,.func (PySem.W.fnOf x x (fN st) (cN st) (bC st) .none kV doc pm an cdv ct),osl⟩)
 (c:PySem.W.codeIn K cdv x=true) (k:PySem.W.keepIn K (.ref f)=true)
 (hb:∀(kV doc pm:Value)(an:Option Addr)(cdv ct:Value)(us:List Value),us.length=ps.length->bindArgs (PySem.W.fnOf x x (fN st) (cN st) (bC st) .none kV doc pm an cdv ct) ⟨us,[]⟩=pure (ps.zip us)) :
 ∃f fd,Fun K x x st f fd/\(false=false->mg x=some (.ref f))/\Binds K fd ps []:=
 ⟨f,_,jA l c k,λ_=>PySem.W.mg_of X G a,(jA (st:=st) l c k).binds hb⟩
theorem uI{K:PySem.W.Frag}{mg:Str->Option Value}{x qual:Str}{st:Stmt}{ps:List Str}{C f:Addr}{cd:ClassData}{sl:Array (Option Value)}{oc:Value}{dd od an:Option Addr}{osl:Array (Option Value)}{kV doc pm cdv ct:Value}
 (_:PySem.W.nsIn K mainGlobals "Count" = some (some (.ref C))) (_:K.lookup C=some ⟨.type "type", dd,.cls cd,sl⟩) (_:PySem.W.nsIn K cd.ns x=some (some (.ref f)))
 (l:K.lookup f=some ⟨oc,od,.func (PySem.W.fnOf x qual (fN st) (cN st) (bC st) .none kV doc pm an cdv ct),osl⟩)
 (c:PySem.W.codeIn K cdv qual=true) (k:PySem.W.keepIn K (.ref f)=true)
 (hb:∀(kV doc pm:Value)(an:Option Addr)(cdv ct:Value)(us:List Value),us.length=ps.length->bindArgs (PySem.W.fnOf x qual (fN st) (cN st) (bC st) .none kV doc pm an cdv ct) ⟨us,[]⟩=pure (ps.zip us)) :
 ∃f fd,Fun K x qual st f fd/\(true=false->mg x=some (.ref f))/\Binds K fd ps []:=
 ⟨f,_,jA l c k,λz=>(by cases z),(jA (st:=st) l c k).binds hb⟩
theorem qI(X:K.In h)(G:h.Ns mainGlobals mg){i:Int}{t:Tok}(a:PySem.W.nsIn K mainGlobals x=some (some (.int i t))):B1 K mg x (.int i):=
 ⟨.int i,.int i t,PySem.W.mg_of X G a,⟨t,rfl⟩,λ_ _=>rfl⟩
theorem dH(X:K.In h)(G:h.Ns mainGlobals mg)(a:PySem.W.nsIn K mainGlobals x=some none):mg x=none:=PySem.W.mg_none_of X G a
theorem walkT{l:PySem.W.OpenLaw}{q:Program}{loose:List Str}{XP:(Str->Option Value)->Heap->Prop}{YP:World->Heap->Prop}{d:DefRec}{K:Params->PySem.W.Frag}{T:Tab}{Tx:Txt}{defs:List DefT}{i n:Nat}{tl:DefT}{x:Str}
 (hi:defs[i]?=some tl) (hps:tl.ps=[x]) (hnm:tl.nm=d.name)
 (hn:l.most=some 63) (hdf:d.params.defaults=[]) (hr:Room (2*n+2) callerA)
 (hT:∀ns:List Int,ns.length<=63->aA T (defs.map DefT.df) n i [.lst (ns.map D.int)]=.ok (.bl true))
 (hY:∀(w:World)(h:Heap),YP w h->(K w.params).In h)
 (hX:∀(w:World)(mg:Str->Option Value)(h:Heap),(K w.params).In h->h.Ns mainGlobals mg->TextOk (K w.params) mg T Tx defs)
 (hL:∀p,nE (K p)=[])
 (hb:∀(kV doc pm:Value)(an:Option Addr)(cdv ct:Value)(u:Value),bindArgs (PySem.W.fnOf tl.nm tl.qn (fN tl.st) (cN tl.st) (bC tl.st) .none kV doc pm an cdv ct) ⟨[u],[]⟩=pure [(x,u)]) (hmv:T.mv i=none:=by rfl) (hme:tl.meth=false:=by rfl) :
 PySem.W.WalkO q loose XP YP l.row.toRowW d [] (λf vs=>PySem.call f vs):=by
 refine L2.Gu (K:=K) (n:=63) (k:=2*n+2) (x:=x) (CX:=λw=>CXE l.prog w) (sp:=λw=>spD (K w.params) (aA T (defs.map DefT.df) n i) (T.fresh i)) hn (by decide) hdf hr hY ?_ (λw H a ns hl _ hS=>law_sp hT (K w.params) H a ns hl (.none (hL w.params)) hS λ_ _=>rfl) (λ_ _ _ _ _ h=>by obtain⟨_,_,_,_,_,_,_,_,_,_,_,_,_,_,_,_,_,z⟩:=h;exact z.elim)
 intro w mg fa h KX G hmg
 have tx:=hX w mg h KX G
 obtain⟨f,fd,F,m,_⟩:=tx.funs tl (iB hi)
 have m:=m hme
 rw[hnm,hmg]at m
 cases m
 refine⟨fd,λs u=>?_,λbase kb nb=>?_⟩
 ·obtain⟨oc,od,kV,doc,pm,an,cdv,ct,osl,rfl,lk,hcd⟩:=F.ex
  exact .of_eq (hb kV doc pm an cdv ct u)
 ·have:=B5 (P:=l.prog) (w:=w) (base:=base) tx n i tl hi fa fd F
  rw[hps,lJ hmv]at this
  exact this
end Tr
namespace Tr
theorem all_cons{α:Type}{p:α->Prop}{a:α}{l:List α}(h:p a)(r:∀x∈l,p x):∀x∈a::l,p x:=List.forall_mem_cons.mpr ⟨h,r⟩
theorem gL{α:Type}{p:α->Prop}:∀x∈([]:List α),p x:=λ_ h=>by cases h
theorem qJ{α:Type}{p:Nat->α->Prop}{a:α}{l:List α}(h:p 0 a)(r:∀g n,l[g]?=some n->p (g+1) n):∀g n,(a::l)[g]?=some n->p g n
 |0,n,e=>by simp at e;subst e;exact h
 |g+1,n,e=>r g n (by simpa using e)
theorem gl_nil{α:Type}{p:Nat->α->Prop}:∀g n,([]:List α)[g]?=some n->p g n:=λg n e=>by simp at e
end Tr
namespace Tr
open PySem PySem.Spec PyProof.Rows L2 PySem.W
section
variable{X:Cx}
end
section
variable{K:PySem.W.Frag}{mg:Str->Option Value}{T:Tab}{Tx:Txt}{defs:List DefT}
end
section
variable{K:PySem.W.Frag}{mg:Str->Option Value}{T:Tab}{defs:List DefT}{C:Addr}
theorem uJ (a:PySem.W.nsIn K mainGlobals "Count" = some (some (.ref C))):cvK K "Count" = .ref C:=by unfold cvK;rw[a]
theorem cnt_ok (a:PySem.W.nsIn K mainGlobals "Count" = some (some (.ref C))) (c:CntK K C):lI K:=λC' h=>by
 rw[uJ a]at h;cases h;exact c
theorem Ba {i:Nat} {m:Str} {t:DefT} {f:Addr} {cd:ClassData} {sl:Array (Option Value)} {oc:Value} {dd od an:Option Addr} {osl:Array (Option Value)} {kV doc pm cdv ct:Value} (a:PySem.W.nsIn K mainGlobals "Count" = some (some (.ref C))) (_:K.lookup C=some ⟨.type "type", dd,.cls cd,sl⟩) (_:PySem.W.nsIn K cd.ns t.nm=some (some (.ref f))) (h1:(eC 0 0 0).lookup m=none) (hm:T.mv i=none) (hi:defs[i]?=some t) (M:Meth K C m f)
 (l:K.lookup f=some ⟨oc,od,.func (PySem.W.fnOf t.nm t.qn (fN t.st) (cN t.st) (bC t.st) .none kV doc pm an cdv ct),osl⟩) (c:PySem.W.codeIn K cdv t.qn=true)
 (hb:∀(kV doc pm:Value)(an:Option Addr)(cdv ct:Value)(us:List Value),us.length=t.ps.length->bindArgs (PySem.W.fnOf t.nm t.qn (fN t.st) (cN t.st) (bC t.st) .none kV doc pm an cdv ct) ⟨us,[]⟩=pure (t.ps.zip us)) :
 (eC 0 0 0).lookup (i,m).2=none/\T.mv (i,m).1=none/\∃t f fd,defs[(i,m).1]?=some t/\Fun K t.nm t.qn t.st f fd/\Binds K fd t.ps []/\∀C,cvK K "Count" = .ref C->Meth K C (i,m).2 f:=
 ⟨h1,hm,t,f,_,hi,jA l c M.kp,(jA (st:=t.st) l c M.kp).binds hb,λC' h=>by rw[uJ a]at h;cases h;exact M⟩
theorem mc_in {h:Heap} (X:K.In h) (G:h.Ns mainGlobals mg) {i:Nat} {t:DefT} {f:Addr} {cd:ClassData} {sl:Array (Option Value)} {oc:Value} {dd od an:Option Addr} {osl:Array (Option Value)} {kV doc pm cdv ct:Value} (a:PySem.W.nsIn K mainGlobals "Count" = some (some (.ref C))) (_:K.lookup C=some ⟨.type "type", dd,.cls cd,sl⟩) (_:PySem.W.nsIn K cd.ns t.nm=some (some (.ref f))) (hm:T.mv i=some 2000) (hi:defs[i]?=some t) (M:Mk K C f) (ck:CntK K C)
 (l:K.lookup f=some ⟨oc,od,.func (PySem.W.fnOf t.nm t.qn (fN t.st) (cN t.st) (bC t.st) .none kV doc pm an cdv ct),osl⟩) (c:PySem.W.codeIn K cdv t.qn=true) (k:PySem.W.keepIn K (.ref f)=true)
 (hb:∀(kV doc pm:Value)(an:Option Addr)(cdv ct:Value)(us:List Value),us.length=t.ps.length->bindArgs (PySem.W.fnOf t.nm t.qn (fN t.st) (cN t.st) (bC t.st) .none kV doc pm an cdv ct) ⟨us,[]⟩=pure (t.ps.zip us)) :
 T.mv (i,("Count" : Str)).1=some 2000/\∃C t f fd,mg (i,("Count" : Str)).2=some (.ref C)/\cvK K "Count" = .ref C/\Mk K C f/\CntK K C/\defs[(i,("Count" : Str)).1]?=some t/\Fun K t.nm t.qn t.st f fd/\Binds K fd t.ps []:=
 ⟨hm,C,t,f,_,PySem.W.mg_of X G a,uJ a,M,ck,hi,jA l c k,(jA (st:=t.st) l c k).binds hb⟩
theorem mvN_of{t:DefT}(h:(aC defs.length).all (λi=>(T.mv i).isNone||(match defs[i]? with|some u=>u.nm != t.nm|none=>true))=true):∀i,defs[i]?=some t->T.mv i=none:=λi hi=>by
 have:=eP.mp h i (cF.mpr (cT.mp hi).1)
 rw[hi]at this
 dsimp only at this
 rw[bne_self_eq_false,wY,OE]at this
 exact this
theorem mvC_of{t:DefT}(h:(aC defs.length).all (λi=>(T.mv i==some 2000)||(match defs[i]? with|some u=>u.nm != t.nm|none=>true))=true):∀i,defs[i]?=some t->T.mv i=some 2000:=λi hi=>by
 have:=eP.mp h i (cF.mpr (cT.mp hi).1)
 rw[hi]at this
 dsimp only at this
 rw[bne_self_eq_false,wY,beq_iff_eq]at this
 exact this
theorem KJ{Tx:Txt}(X:TextOk0 K mg T Tx defs)(h:TextOk0 K mg T Tx defs->∀t∈defs,∀td,t.told=some td->nU K mg T defs t)(hmv:(aC defs.length).all (λi=>match T.mv i with|none=>true|some j=>(match defs[i]? with|some t=>t.told.isSome|none=>true))=true:=by rfl):TextOk K mg T Tx defs:=KI X (h X) hmv
end
end Tr
namespace Tr
open PySem
variable{d:D}{f:D->Nv->Res Out}{a b c src x:E}{g:G}{j lo:Int}{kvs:List (Sum Int Str×D)}{r:List D}{i n:Nat}{e e1:Nv}{o:Operator}
section
variable{T:Tab}{cf:Nat->List D->Res D}{e:Nv}
@[simp] theorem KL:evE T cf (.var i) e=(e.at i).val:=id rfl
@[simp] theorem KM:evE T cf (.con d) e=.ok d:=id rfl
@[simp] theorem KN{g:Nat}:evE T cf (.glob g) e=.ok (T.glob g):=id rfl
@[simp] theorem KO:evE T cf (.bin o a b) e=(do let x<-evE T cf a e;let y<-evE T cf b e;D.bin o x y):=id rfl
@[simp] theorem Bb{o:CmpOp}:evE T cf (.cmp o a b) e=(do let x<-evE T cf a e;let y<-evE T cf b e;D.cmp o x y):=id rfl
@[simp] theorem KP:evE T cf (.and a b) e=(do let x<-evE T cf a e;let k<-x.truth;if k then evE T cf b e else .ok x):=id rfl
@[simp] theorem evE_or:evE T cf (.or a b) e=(do let x<-evE T cf a e;let k<-x.truth;if k then .ok x else evE T cf b e):=id rfl
@[simp] theorem KQ:evE T cf (.not a) e=(do let x<-evE T cf a e;let k<-x.truth;.ok (.bl (!k))):=id rfl
@[simp] theorem KR:evE T cf (.ife c a b) e=(do let x<-evE T cf c e;let k<-x.truth;if k then evE T cf a e else evE T cf b e):=id rfl
@[simp] theorem evE_ix:evE T cf (.ix a b) e=(do let x<-evE T cf a e;let y<-evE T cf b e;D.ix x y):=id rfl
@[simp] theorem evE_sl{lo hi:E}:evE T cf (.sl a lo hi) e=(do let x<-evE T cf a e;let l<-evE T cf lo e;let l<-l.part;let h<-evE T cf hi e;let h<-h.part;D.sl x l h):=id rfl
@[simp] theorem KS:evE T cf .omit e=.ok .non:=id rfl
@[simp] theorem KU:evE T cf (.tup a) e=(do let xs<-evA T cf a e;.ok (.tup xs)):=id rfl
@[simp] theorem KW:evE T cf (.lst a) e=(do let xs<-evA T cf a e;.ok (.lst xs)):=id rfl
@[simp] theorem KY{f:Nat}:evE T cf (.call f a) e=(do let xs<-evA T cf a e;cf f xs):=id rfl
@[simp] theorem KZ:evE T cf (.dlit a b) e=(do let x<-evE T cf a e;let y<-evE T cf b e;mV x y):=id rfl
@[simp] theorem K1:evE T cf (.trng a) e=(do let x<-evE T cf a e;mT x):=id rfl
@[simp] theorem K3:evE T cf (.getV a b) e=(do let x<-evE T cf a e;let y<-evE T cf b e;mU x y):=id rfl
@[simp] theorem K4:evI T cf (.seqD a) e=(do let x<-evE T cf a e;mW x):=id rfl
@[simp] theorem evE_bt{b:Bt}:evE T cf (.bt b a) e=(do let xs<-evA T cf a e;b.run xs):=id rfl
@[simp] theorem K5{t:Ty}:evE T cf (.isi a t) e=(do let x<-evE T cf a e;aE (!x.isDct) (.ok (.bl (x.isTy t)))):=id rfl
@[simp] theorem K6:evE T cf (.lrng a) e=(do let x<-evE T cf a e;mR x):=id rfl
noncomputable def negR:D->Res D
 |.int i=>.ok (.int (-i))
 |_=>.no
@[simp] theorem K7:evE T cf (.neg a) e=(evE T cf a e>>=negR):=by
 rw[zD]
 cases evE T cf a e with
 |ok x=>cases x<;>rfl
 |err _ _=>rfl
 |no=>rfl
noncomputable def Bc(r:Res D):D->Res D
 |.bl true=>r
 |.bl false=>.ok (.bl false)
 |_=>.no
@[simp] theorem K8{r:Res D}{b:Bool}:Bc r (.bl b)=if b=true then r else .ok (.bl false):=by cases b<;>rfl
@[simp] theorem K9{o p:CmpOp}:evE T cf (.chain o p a b c) e=(do
 let x<-evE T cf a e
 let y<-evE T cf b e
 let w<-D.cmp o x y
 Bc (do let z<-evE T cf c e;D.cmp p y z) w):=by
 rw[sQ]
 cases evE T cf a e with
 |ok x=>
  cases evE T cf b e with
  |ok y=>
   show(D.cmp o x y>>=_)=(D.cmp o x y>>=_)
   cases D.cmp o x y with
   |ok w=>
    cases w with
    |bl b=>cases b<;>rfl
    |_=>rfl
   |err _ _=>rfl
   |no=>rfl
  |err _ _=>rfl
  |no=>rfl
 |err _ _=>rfl
 |no=>rfl
noncomputable def Bd(T:Tab)(cf:Nat->List D->Res D)(own:Nat)(caps:List Nat)(g:G)(elt cond:E)(e:Nv)(d:D):Res (Option D):=do
 let e1<-g.put d (fA own caps e)
 let c<-evE T cf cond e1
 let k<-c.truth
 if k then do let y<-evE T cf elt e1;.ok (some y)else .ok none
@[simp] theorem K_{own:Nat}{caps:List Nat}{elt cond:E}:evE T cf (.comp own caps g elt src cond) e=(do
 let ds<-evI T cf src e
 let ys<-bR (Bd T cf own caps g elt cond e) ds
 aE (decide (ds.length<=big)) (.ok (.lst ys))):=id rfl
@[simp] theorem uK:evA T cf .anil e=.ok []:=id rfl
@[simp] theorem Ka{r:E}:evA T cf (.acons a r) e=(do let x<-evE T cf a e;let q<-evA T cf r e;aE (decide (q.length<1000)) (.ok (x::q))):=id rfl
@[simp] theorem Kb:evI T cf (.seq a) e=(do let x<-evE T cf a e;x.items):=id rfl
noncomputable def kF:D->Res (List D)
 |.int n=>aE (bN n) (.ok (bQ 0 n.toNat))
 |_=>.no
noncomputable def nW:D->D->Res (List D)
 |.int n,.int m=>aE (bN n&&bN m) (.ok (bQ n (m-n).toNat))
 |_,_=>.no
noncomputable def qK:D->Res (List D)
 |.lst ds=>.ok (bJ 0 ds)
 |_=>.no
@[simp] theorem Kc:evI T cf (.rng a) e=(do let x<-evE T cf a e;kF x):=by
 rw[zH]
 cases evE T cf a e with
 |ok x=>cases x<;>rfl
 |err _ _=>rfl
 |no=>rfl
@[simp] theorem Kd:evI T cf (.rng2 a b) e=(do let x<-evE T cf a e;match x with | .int _=>do let y<-evE T cf b e;nW x y|_=>.no):=by
 rw[zI]
 cases evE T cf a e with
 |ok x=>
  cases x<;>try rfl
  show(do let y<-evE T cf b e;_)=(do let y<-evE T cf b e;_)
  cases evE T cf b e with
  |ok y=>cases y<;>rfl
  |err _ _=>rfl
  |no=>rfl
 |err _ _=>rfl
 |no=>rfl
@[simp] theorem Ke:evI T cf (.enum a) e=(do let x<-evE T cf a e;qK x):=by
 rw[zJ]
 cases evE T cf a e with
 |ok x=>cases x<;>rfl
 |err _ _=>rfl
 |no=>rfl
theorem Be(h:n<4611686018427387904):kF (.int n)=.ok (bQ 0 n):=by
 show aE (bN n) _=_
 rw[bV (by unfold bN;rw[decide_eq_true (by lia),decide_eq_true (by lia)];rfl)]
 simp
theorem Kf{m:Nat}(h:n<4611686018427387904)(h2:m<4611686018427387904):nW (.int n) (.int m)=.ok (bQ n (m-n)):=by
 show aE (bN n&&bN m) _=_
 rw[bV (by unfold bN;rw[decide_eq_true (by lia),decide_eq_true (by lia),decide_eq_true (by lia),decide_eq_true (by lia)];rfl)]
 congr 2
 lia
@[simp] theorem uL{ds:List D}:qK (.lst ds)=.ok (bJ 0 ds):=id rfl
noncomputable def aV(T:Tab)(cf:Nat->List D->Res D)(g:G)(b:S)(d:D)(e0:Nv):Res Out:=do let e1<-g.put d e0;exS T cf b e1
noncomputable def nX(T:Tab)(cf:Nat->List D->Res D)(c:E)(e0:Nv):Res Bool:=do let x<-evE T cf c e0;x.truth
noncomputable def kG(T:Tab)(cf:Nat->List D->Res D)(r:S):Out->Res Out
 |.nx e1=>exS T cf r e1
 |o=>.ok o
@[simp] theorem Kg{r:S}{k:Bool}:kG T cf r (.rt d k)=.ok (.rt d k):=id rfl
@[simp] theorem Kh{r:S}:kG T cf r (.bk e)=.ok (.bk e):=id rfl
@[simp] theorem Ki:exS T cf .nil e=.ok (.nx e):=id rfl
@[simp] theorem Kj{a r:S}:exS T cf (.cons a r) e=(exS T cf a e>>=kG T cf r):=by
 rw[pC]
 cases exS T cf a e with
 |ok o=>cases o<;>rfl
 |err _ _=>rfl
 |no=>rfl
@[simp] theorem Kk:exS T cf (.ret x) e=(do let d<-evE T cf x e;.ok (.rt d (cP T x&&!mZ d))):=id rfl
@[simp] theorem Kl:exS T cf (.retO i) e=(do let a<-(e.at i).ownA;.ok (.rt a (!a.isDct))):=id rfl
@[simp] theorem Km:exS T cf (.newD i) e=.ok (.nx (e.set i (.o (.dct [])))):=id rfl
@[simp] theorem Ko:exS T cf (.newT i) e=.ok (.nx (e.set i (.o (.tdc [])))):=id rfl
@[simp] theorem Kp{k:E}:exS T cf (.dputV i k x) e=(do
 let d<-evE T cf x e
 let a<-(e.at i).ownT
 let y<-evE T cf k e
 let key<-lA y
 aE (decide (a.length<big)) (.ok (.nx (e.set i (.o (.tdc (iJ a key d))))))):=id rfl
@[simp] theorem Kq:exS T cf (.asg g x) e=(do let d<-evE T cf x e;let e1<-g.put d e;.ok (.nx e1)):=id rfl
noncomputable def setO(k:Bool)(i:Nat)(e:Nv):D->Res Out
 |.lst a=>aE k (.ok (.nx (e.set i (.o (.lst a)))))
 |.dct a=>aE k (.ok (.nx (e.set i (.o (.dct a)))))
 |.tdc a=>aE k (.ok (.nx (e.set i (.o (.tdc a)))))
 |_=>.no
@[simp] theorem Kr:exS T cf (.asgO i x) e=(do let d<-evE T cf x e;setO (cP T x) i e d):=by
 rw[pE]
 cases evE T cf x e with
 |ok o=>cases o<;>rfl
 |err _ _=>rfl
 |no=>rfl
@[simp] theorem Ks{a b:S}:exS T cf (.ite c a b) e=(do let x<-evE T cf c e;let k<-x.truth;if k then exS T cf a e else exS T cf b e):=id rfl
@[simp] theorem Kt{b:S}:exS T cf (.forS g src b) e=(do let ds<-evI T cf src e;aO (aV T cf g b) ds e):=id rfl
@[simp] theorem Ku:exS T cf (.app i x) e=(do
 let d<-evE T cf x e
 let a<-(e.at i).own
 aE (decide (a.length<big)) (.ok (.nx (e.set i (.o (.lst (a++[d]))))))):=id rfl
@[simp] theorem Kv:exS T cf (.rev i) e=(do let a<-(e.at i).own;.ok (.nx (e.set i (.o (.lst a.reverse))))):=id rfl
@[simp] theorem Kw{k:E}:exS T cf (.dput i k x) e=(do
 let d<-evE T cf x e
 let a<-(e.at i).ownD
 let y<-evE T cf k e
 let key<-Res.of (eR y)
 aE (decide (a.length<big)) (.ok (.nx (e.set i (.o (.dct (dX a key d))))))):=id rfl
noncomputable def extO(k:Bool)(i:Nat)(e:Nv):D->Res Out
 |.lst b=>do
  let a<-(e.at i).own
  aE (k&&decide (a.length+b.length<=big)) (.ok (.nx (e.set i (.o (.lst (a++b))))))
 |_=>.no
@[simp] theorem Kx{k:Bool}{b:List D}:extO k i e (.lst b)=(do
 let a<-(e.at i).own
 aE (k&&decide (a.length+b.length<=big)) (.ok (.nx (e.set i (.o (.lst (a++b))))))):=id rfl
@[simp] theorem Ky:exS T cf (.ext i x) e=(do let d<-evE T cf x e;extO (cP T x) i e d):=by
 rw[zL]
 cases evE T cf x e with
 |ok o=>cases o<;>rfl
 |err _ _=>rfl
 |no=>rfl
@[simp] theorem Kz:exS T cf (.aug i o x) e=(do
 let d<-(e.at i).val
 let y<-evE T cf x e
 let z<-D.aug o d y
 .ok (.nx (e.set i (.v z)))):=id rfl
@[simp] theorem LA:exS T cf (.exp x) e=(do let _<-evE T cf x e;.ok (.nx e)):=id rfl
@[simp] theorem LB:exS T cf .brk e=.ok (.bk e):=id rfl
end
@[simp] theorem val_v:(Sl.v d).val=.ok d:=id rfl
@[simp] theorem Bf{a:List D}:(Sl.o (.lst a)).own=.ok a:=id rfl
@[simp] theorem ownD_o{a:List (Sum Int Str×D)}:(Sl.o (.dct a)).ownD=.ok a:=id rfl
@[simp] theorem Bg{i:Int}:Res.of (eR (.int i))=.ok (.inl i):=id rfl
theorem LC{k:D}:D.cmp .In k (.dct kvs)=(do let q<-Res.of (eR k);.ok (.bl (bE kvs q).isSome)):=by
 show(do let b<-(do let q<-Res.of (eR k);.ok (bE kvs q).isSome:Res Bool);.ok (D.bl b))=_
 cases Res.of (eR k)<;>rfl
theorem ix_dct{k:D}:D.ix (.dct kvs) k=(do let q<-Res.of (eR k);Res.of (bE kvs q)):=by cases k<;>rfl
@[simp] theorem LD{b:Bool}:(D.bl b).truth=.ok b:=id rfl
@[simp] theorem LF{i:Int}:D.bin .Add (.int i) (.int j)=.ok (.int (i+j)):=id rfl
@[simp] theorem LG{i:Int}:D.bin .Sub (.int i) (.int j)=.ok (.int (i-j)):=id rfl
@[simp] theorem hU{i:Int}(h:-(2^64)<i/\i<2^64):D.bin .Mult (.int i) (.int j)=.ok (.int (i*j)):=by
 show aE (iH i||iH j) _=_
 rw[bV]
 unfold iH
 rw[decide_eq_true h.1,decide_eq_true h.2];rfl
@[simp] theorem uM{i:Int}(h:-(2^64)<j/\j<2^64):D.bin .Mult (.int i) (.int j)=.ok (.int (i*j)):=by
 show aE (iH i||iH j) _=_
 rw[bV]
 unfold iH
 rw[decide_eq_true h.1,decide_eq_true h.2];simp
@[simp] theorem lP{i:Int}(h:0<j):D.bin .Mod (.int i) (.int j)=.ok (.int (i%j)):=by
 show aE (decide (0<j)) _=_
 rw[bV (decide_eq_true h)]
@[simp] theorem uN{i:Int}(h:0<j/\j<1073741824):D.bin .FloorDiv (.int i) (.int j)=.ok (.int (i/j)):=by
 show aE (decide (0<j)&&decide (j<1073741824)) _=_
 rw[bV]
 rw[decide_eq_true h.1,decide_eq_true h.2];rfl
theorem LH{i:Int}(h:0<=j/\j<=1000000/\i.natAbs<2^64):D.bin .Pow (.int i) (.int j)=.ok (.int (i^j.toNat)):=by
 show aE (decide (0<=j)&&decide (j<=1000000)&&decide (i.natAbs<2^64)) _=_
 rw[bV]
 rw[decide_eq_true h.1,decide_eq_true h.2.1,decide_eq_true h.2.2];rfl
@[simp] theorem uO:D.bin .Pow (.int 10) (.int 9)=.ok (.int 1000000000):=LH ⟨by decide,by decide,by decide⟩
@[simp] theorem cmp_lt{i:Int}:D.cmp .Lt (.int i) (.int j)=.ok (.bl (decide (i<j))):=id rfl
@[simp] theorem cmp_le{i:Int}:D.cmp .LtE (.int i) (.int j)=.ok (.bl (decide (i<=j))):=id rfl
@[simp] theorem cmp_gt{i:Int}:D.cmp .Gt (.int i) (.int j)=.ok (.bl (decide (j<i))):=id rfl
@[simp] theorem Bh{i:Int}:D.cmp .Eq (.int i) (.int j)=.ok (.bl (i==j)):=id rfl
@[simp] theorem LI{i:Int}:D.cmp .NotEq (.int i) (.int j)=.ok (.bl (!(i==j))):=id rfl
@[simp] theorem cmp_is{a:D}:D.cmp .Is a .non=.ok (.bl a.isNon):=id rfl
@[simp] theorem LJ{a:D}:D.cmp .IsNot a .non=.ok (.bl (!a.isNon)):=id rfl
@[simp] theorem uP{a:List D}:Bt.run .len [.lst a]=.ok (.int a.length):=id rfl
@[simp] theorem LK{a:List D}:Bt.run .len [.tup a]=.ok (.int a.length):=id rfl
theorem uQ:∀ns:List Int,cO (ns.map D.int)=.ok ns
 |[]=>rfl
 |i::r=>by rw[aL,cO,uQ r];rfl
@[simp] theorem Bj{ns:List Int}:Bt.run .sum [.lst (ns.map D.int)]=.ok (.int ns.sum):=by
 show(do let q<-cO (ns.map D.int);.ok (D.int q.sum))=_
 rw[uQ];rfl
@[simp] theorem uR{α:Type}{f:α->Int}{xs:List α}:Bt.run .sum [.lst (xs.map (D.int∘f))]=.ok (.int (xs.map f).sum):=by rw[<-dQ,Bj]
@[simp] theorem LL{a:List D}:(D.lst a).items=.ok a:=id rfl
@[simp] theorem LM{a:List D}:(D.tup a).items=.ok a:=id rfl
theorem ix_l{a:List D}(h:a[i]?=some d):D.ix (.lst a) (.int i)=.ok d:=by
 have hi:=(cT.mp h).1
 show Res.of (atI a i)=_
 unfold atI ixN
 rw[if_pos (xE i),if_pos (by lia)]
 simp[h,Res.of]
theorem iQ{a:List D}(h:a[i]?=some d):D.ix (.tup a) (.int i)=.ok d:=by
 have hi:=(cT.mp h).1
 show Res.of (atI a i)=_
 unfold atI ixN
 rw[if_pos (xE i),if_pos (by lia)]
 simp[h,Res.of]
theorem aT{T:Tab}{D:List Df}{n f:Nat}{ds:List Tr.D}{d:Df}{x:Tr.D}{k:Bool}(h:D[f]?=some d)(hl:ds.length=d.pars)(hk:(k||!T.fresh f)=true)
 (he:exS T (aA T D n) d.body (ds.map Sl.v++aQ (d.names-d.pars) Sl.no)=.ok (.rt x k)) (ht:d.told=none:=by rfl) (hm:T.mv f=none:=by rfl):aA T D (n+1) f ds=.ok x:=by
 rw[lB,h]
 show aE (ds.length==d.pars) _=_
 rw[bV (by simpa using hl),ht]
 dsimp only
 rw[he]
 show aE (k||!T.fresh f) _=_
 rw[bV hk]
theorem LN{T:Tab}{D:List Df}{n f:Nat}{ds:List Tr.D}{d:Df}{e:Nv}(h:D[f]?=some d)(hl:ds.length=d.pars)(hk:T.fresh f=false)
 (he:exS T (aA T D n) d.body (ds.map Sl.v++aQ (d.names-d.pars) Sl.no)=.ok (.nx e)) (ht:d.told=none:=by rfl) (hm:T.mv f=none:=by rfl):aA T D (n+1) f ds=.ok .non:=by
 rw[lB,h]
 show aE (ds.length==d.pars) _=_
 rw[bV (by simpa using hl),ht]
 dsimp only
 rw[he]
 show aE (!T.fresh f) _=_
 rw[hk];rfl
@[simp] theorem uS{a b:D}:D.ix (.tup (a::b::r)) (.int 1)=.ok b:=iQ (i:=1) rfl
@[simp] theorem Bk{a b c:D}:D.ix (.tup (a::b::c::r)) (.int 2)=.ok c:=iQ (i:=2) rfl
@[simp] theorem Bl{a b c:D}:D.ix (.tup (a::b::c::d::r)) (.int 3)=.ok d:=iQ (i:=3) rfl
theorem uT:aO f [] e=.ok (.nx e):=rfl
theorem cD(h:f d e=.ok (.nx e1)):aO f (d::r) e=aO f r e1:=by rw[aO,h];rfl
theorem Bm(h:f d e=.ok (.ct e1)):aO f (d::r) e=aO f r e1:=by rw[aO,h];rfl
theorem LO(h:f d e=.ok (.bk e1)):aO f (d::r) e=.ok (.nx e1):=by rw[aO,h];rfl
theorem iR{x:D}{k:Bool}(h:f d e=.ok (.rt x k)):aO f (d::r) e=.ok (.rt x k):=by rw[aO,h];rfl
theorem qL(I:Nat->Nv->Prop):∀(ds:List D)(e:Nv)(j:Nat),I j e->(∀i d e,ds[i]?=some d->I (j+i) e->∃e',(f d e=.ok (.nx e')\/f d e=.ok (.ct e'))/\I (j+i+1) e')->∃e',aO f ds e=.ok (.nx e')/\I (j+ds.length) e'
 |[],e,j,h,_=>⟨e,rfl,h⟩
 |d::r,e,j,h,st=>by
  obtain⟨e1,h1,h2⟩:=st 0 d e rfl h
  obtain⟨e2,h3,h4⟩:=qL I r e1 (j+1) h2 λi d' e' hd hI=>by
   have:=st (i+1) d' e' (by simpa using hd) (by rw[show j+(i+1)=j+1+i by lia];exact hI)
   rw[show j+(i+1)+1=j+1+i+1 by lia]at this
   exact this
  refine⟨e2,?_,by rw[aN,show j+(r.length+1)=j+1+r.length by lia];exact h4⟩
  rcases h1 with h1|h1
  ·rw[cD h1,h3]
  ·rw[Bm h1,h3]
theorem nY:∀(lo:Int)(n:Nat),bQ lo n=(aC n).map λi=>.int (lo+(i:Int))
 |lo,0=>rfl
 |lo,n+1=>by
  rw[bQ,nY (lo+1) n,lY,aL,dQ]
  congr 1
  ·simp
  ·apply iU
   intro i _
   simp only[Function.comp]
   congr 1
   push_cast
   lia
theorem LP(h:(bQ lo n)[i]?=some d):i<n/\d=.int (lo+i):=by
 rw[nY,bX]at h
 cases e:(aC n)[i]? with
 |none=>rw[e]at h;cases h
 |some j=>
  rw[e]at h
  cases h
  obtain⟨hi,e2⟩:=cT.mp e
  simp at hi e2
  subst e2
  exact⟨hi,rfl⟩
@[simp] theorem OT:(bQ lo n).length=n:=by rw[nY];simp
theorem Bo:∀{k:Int} {ds:List D} {i:Nat} {d:D},(bJ k ds)[i]?=some d->∃x,ds[i]?=some x/\d=.tup [.int (k+i),x]
 |k,[],i,d,h=>by simp[bJ]at h
 |k,x::r,0,d,h=>by simp[bJ]at h;exact⟨x,rfl,by rw[<-h];simp⟩
 |k,x::r,i+1,d,h=>by
  rw[bJ,FN]at h
  obtain⟨y,h1,h2⟩:=Bo h
  refine⟨y,by simpa using h1,?_⟩
  rw[h2]
  congr 3
  push_cast
  lia
@[simp] theorem LQ:∀{k:Int} {ds:List D},(bJ k ds).length=ds.length
 |k,[]=>rfl
 |k,x::r=>by rw[bJ,aN,aN,LQ]
end Tr
namespace Tr
open PySem
variable{j:Int}{cl:List (Int×Int)}{e2:Nv}{p:Operator}
@[irreducible] noncomputable def fC{α:Type}(k:Bool)(a b:α):α:=if k=true then a else b
theorem iteB_t{α:Type}{k:Bool}{a b r:α}(h:k=true)(h2:a=r):fC k a b=r:=by rw[h,<-h2];unfold fC;rfl
theorem iteB_f{α:Type}{k:Bool}{a b r:α}(h:k=false)(h2:b=r):fC k a b=r:=by rw[h,<-h2];unfold fC;rfl
noncomputable def hdF(T:Tab):E->Bool
 |.lst _=>true
 |.sl _ _ _=>true
 |.bin .Add _ _=>true
 |.comp _ _ _ _ _ _=>true
 |.call f _=>T.fresh f
 |.con _=>false
 |.tup _=>false
 |.var _=>false
 |.bt b _=>b==.list
 |x=>cP T x
theorem uU(T:Tab)(x:E):hdF T x=cP T x:=by
 cases x with
 |bin o a b=>cases o<;>rfl
 |bt b a=>cases b<;>rfl
 |_=>rfl
noncomputable def bS(T:Tab)(cf:Nat->List D->Res D)(g:G)(elt cond:E)(e:Nv)(d:D):Res (Option D):=do
 let e1<-g.put d e
 let c<-evE T cf cond e1
 let k<-c.truth
 if k then do let y<-evE T cf elt e1;.ok (some y)else .ok none
section
variable{T:Tab}{cf:Nat->List D->Res D}{e e1:Nv}{a b c x:E}{d d1 d2 d3:D}{i f n:Nat}{k:Bool}{r:Res D}{xs ys ds:List D}{g:G}{s s1 s2:S}{o:Res Out}
theorem v_var(h:e.at i=.v d):evE T cf (.var i) e=.ok d:=by rw[KL,h];rfl
theorem v_rd(h:(e.at i).any=.ok d):evE T cf (.rd i) e=.ok d:=h
theorem v_con:evE T cf (.con d) e=.ok d:=KM
theorem v_glob(h:T.glob i=d):evE T cf (.glob i) e=.ok d:=by rw[KN,h]
theorem v_omit:evE T cf .omit e=.ok .non:=KS
theorem v_bin(h1:evE T cf a e=.ok d1)(h2:evE T cf b e=.ok d2)(h3:D.bin p d1 d2=r):evE T cf (.bin p a b) e=r:=by rw[KO,h1,h2];exact h3
theorem v_cmp{p:CmpOp}(h1:evE T cf a e=.ok d1)(h2:evE T cf b e=.ok d2)(h3:D.cmp p d1 d2=r):evE T cf (.cmp p a b) e=r:=by rw[Bb,h1,h2];exact h3
theorem LR{p q:CmpOp}(h1:evE T cf a e=.ok d1)(h2:evE T cf b e=.ok d2)(h3:D.cmp p d1 d2=.ok (.bl k))(h4:fC k (evE T cf (.cmp q b c) e) (.ok (.bl false))=r):evE T cf (.chain p q a b c) e=r:=by
 rw[K9,h1,h2,Res.ok_bind,Res.ok_bind,h3,Res.ok_bind,K8,<-h4,Bb,h2];unfold fC;rfl
theorem v_and(h1:evE T cf a e=.ok d1)(h2:d1.truth=.ok k)(h3:fC k (evE T cf b e) (.ok d1)=r):evE T cf (.and a b) e=r:=by rw[KP,h1,Res.ok_bind,h2];unfold fC at h3;exact h3
theorem v_or(h1:evE T cf a e=.ok d1)(h2:d1.truth=.ok k)(h3:fC k (.ok d1) (evE T cf b e)=r):evE T cf (.or a b) e=r:=by rw[evE_or,h1,Res.ok_bind,h2];unfold fC at h3;exact h3
theorem v_ife(h1:evE T cf c e=.ok d1)(h2:d1.truth=.ok k)(h3:fC k (evE T cf a e) (evE T cf b e)=r):evE T cf (.ife c a b) e=r:=by rw[KR,h1,Res.ok_bind,h2];unfold fC at h3;exact h3
theorem v_not(h1:evE T cf a e=.ok d1)(h2:d1.truth=.ok k):evE T cf (.not a) e=.ok (.bl (!k)):=by rw[KQ,h1,Res.ok_bind,h2];rfl
theorem v_neg(h1:evE T cf a e=.ok (.int j)):evE T cf (.neg a) e=.ok (.int (-j)):=by rw[K7,h1];rfl
theorem v_ix(h1:evE T cf a e=.ok d1)(h2:evE T cf b e=.ok d2)(h3:D.ix d1 d2=r):evE T cf (.ix a b) e=r:=by rw[evE_ix,h1,h2];exact h3
theorem v_sl{l h:Option Int}(h1:evE T cf a e=.ok d1)(h2:evE T cf b e=.ok d2)(h3:d2.part=.ok l)(h4:evE T cf c e=.ok d3)(h5:d3.part=.ok h)(h6:D.sl d1 l h=r):evE T cf (.sl a b c) e=r:=by
 rw[evE_sl,h1,h2,Res.ok_bind,Res.ok_bind,h3,Res.ok_bind,h4,Res.ok_bind,h5];exact h6
theorem v_tup(h:evA T cf a e=.ok xs):evE T cf (.tup a) e=.ok (.tup xs):=by rw[KU,h];rfl
theorem v_lst(h:evA T cf a e=.ok xs):evE T cf (.lst a) e=.ok (.lst xs):=by rw[KW,h];rfl
theorem v_call(h:evA T cf a e=.ok xs)(h2:cf f xs=r):evE T cf (.call f a) e=r:=by rw[KY,h];exact h2
theorem v_bt{p:Bt}(h:evA T cf a e=.ok xs)(h2:p.run xs=r):evE T cf (.bt p a) e=r:=by rw[evE_bt,h];exact h2
theorem v_isi{t:Ty}(h:evE T cf a e=.ok d)(h2:d.isDct=false):evE T cf (.isi a t) e=.ok (.bl (d.isTy t)):=by rw[K5,h,Res.ok_bind,h2];rfl
theorem v_comp{own:Nat}{caps:List Nat}{elt src cond:E}(h:evI T cf src e=.ok ds)(h2:bR (bS T cf g elt cond e1) ds=.ok ys)(he:fA own caps e=e1)(h3:ds.length<=big):evE T cf (.comp own caps g elt src cond) e=.ok (.lst ys):=by
 rw[<-he]at h2
 rw[K_,h,Res.ok_bind,show Bd T cf own caps g elt cond e=bS T cf g elt cond (fA own caps e)from rfl,h2,Res.ok_bind,bV (decide_eq_true h3)]
theorem v_lrng(h:evE T cf a e=.ok d)(h2:mR d=r):evE T cf (.lrng a) e=r:=by rw[K6,h];exact h2
theorem v_dlit(h1:evE T cf a e=.ok d1)(h2:evE T cf b e=.ok d2)(h3:mV d1 d2=r):evE T cf (.dlit a b) e=r:=by rw[KZ,h1,h2];exact h3
theorem v_trng(h:evE T cf a e=.ok d)(h2:mT d=r):evE T cf (.trng a) e=r:=by rw[K1,h];exact h2
theorem v_getV(h1:evE T cf a e=.ok d1)(h2:evE T cf b e=.ok d2)(h3:mU d1 d2=r):evE T cf (.getV a b) e=r:=by rw[K3,h1,h2];exact h3
theorem LS(h:evE T cf a e=.ok d)(h2:mW d=.ok ds):evI T cf (.seqD a) e=.ok ds:=by rw[K4,h];exact h2
theorem s_newT:exS T cf (.newT i) e=.ok (.nx (e.set i (.o (.tdc [])))):=Ko
theorem LU{kvs:List (List (Sum Int Str)×D)}{q:List (Sum Int Str)}(h:evE T cf x e=.ok d)(h2:e.at i=.o (.tdc kvs))(h3:evE T cf a e=.ok d1)(h4:lA d1=.ok q)(h5:kvs.length<big):exS T cf (.dputV i a x) e=.ok (.nx (e.set i (.o (.tdc (iJ kvs q d))))):=by
 rw[Kp,h,Res.ok_bind,h2,h3]
 show(lA d1>>=λkey=>_)=_
 rw[h4,Res.ok_bind,bV (decide_eq_true h5)]
theorem uV{k:CK}:evE T cf (.cnt k a b) e=(do let x<-evE T cf a e;let xs<-evA T cf b e;jY cf k x xs):=id rfl
theorem LV:evI T cf (.enumS a b) e=(do let x<-evE T cf a e;let y<-evE T cf b e;mX x y):=id rfl
theorem LW{m:Str}(h:evE T cf a e=.ok (.cnt j cl))(h2:evA T cf b e=.ok xs)(h3:cf f (.cnt j cl::xs)=r):evE T cf (.cnt (.meth f m) a b) e=r:=by rw[uV,h,h2];exact h3
theorem LX(h:evE T cf a e=.ok d)(h3:cf f [.non,d]=.ok (.cnt j cl)):evE T cf (.cnt (.make f) a .anil) e=.ok (.cnt j cl):=by
 rw[uV,h,uK,Res.ok_bind,Res.ok_bind,jY,h3];rfl
theorem v_cfld{k:CK}(h:evE T cf a e=.ok d)(h3:jY cf k d []=r):evE T cf (.cnt k a .anil) e=r:=by rw[uV,h,uK];exact h3
theorem LY(h:evE T cf a e=.ok d)(h1:evE T cf b e=.ok d1)(h2:mX d d1=.ok ds):evI T cf (.enumS a b) e=.ok ds:=by rw[LV,h,h1];exact h2
theorem a_nil:evA T cf .anil e=.ok []:=uK
theorem a_cons(h1:evE T cf a e=.ok d)(h2:evA T cf b e=.ok xs)(h3:decide (xs.length<1000)=true):evA T cf (.acons a b) e=.ok (d::xs):=by rw[Ka,h1,h2,Res.ok_bind,Res.ok_bind,bV h3]
theorem i_seqV(h:evE T cf a e=.ok d)(h2:d.items=.ok ds):evI T cf (.seq a) e=.ok ds:=by rw[Kb,h];exact h2
theorem i_rngV(h:evE T cf a e=.ok d)(h2:kF d=.ok ds):evI T cf (.rng a) e=.ok ds:=by rw[Kc,h];exact h2
theorem LZ{m:Int}(h:evE T cf a e=.ok (.int m))(h1:evE T cf b e=.ok d)(h2:nW (.int m) d=.ok ds):evI T cf (.rng2 a b) e=.ok ds:=by rw[Kd,h,Res.ok_bind];dsimp only;rw[h1];exact h2
theorem L3(h:evE T cf a e=.ok d)(h2:qK d=.ok ds):evI T cf (.enum a) e=.ok ds:=by rw[Ke,h];exact h2
theorem c_t(h1:g.put d e1=.ok e2)(h2:evE T cf c e2=.ok d1)(h3:d1.truth=.ok k)(h4:k=true)(h5:evE T cf x e2=.ok d2):bS T cf g x c e1 d=.ok (some d2):=by
 unfold bS;rw[h1,Res.ok_bind,h2,Res.ok_bind,h3,Res.ok_bind,if_pos h4,h5];rfl
theorem c_f(h1:g.put d e1=.ok e2)(h2:evE T cf c e2=.ok d1)(h3:d1.truth=.ok k)(h4:k=false):bS T cf g x c e1 d=.ok none:=by
 unfold bS;rw[h1,Res.ok_bind,h2,Res.ok_bind,h3,Res.ok_bind,if_neg (by rw[h4];exact aJ)]
theorem s_nil'{o:Nv}(h:e=o):exS T cf .nil e=.ok (.nx o):=by rw[<-h];exact Ki
theorem s_brk:exS T cf .brk e=.ok (.bk e):=LB
theorem fD{o1:Out}(h1:exS T cf s e=.ok o1)(h2:kG T cf s1 o1=o):exS T cf (.cons s s1) e=o:=by rw[Kj,h1];exact h2
theorem fE(h:exS T cf s e=o):kG T cf s (.nx e)=o:=h
theorem t_rt:kG T cf s (.rt d k)=.ok (.rt d k):=Kg
theorem t_bk:kG T cf s (.bk e)=.ok (.bk e):=Kh
theorem s_ret(h:evE T cf x e=.ok d)(h2:(hdF T x&&!mZ d)=k):exS T cf (.ret x) e=.ok (.rt d k):=by rw[Kk,h,<-h2,uU];rfl
theorem s_retO(h:e.at i=.o d)(h2:(!d.isDct)=k):exS T cf (.retO i) e=.ok (.rt d k):=by rw[Kl,h,<-h2];rfl
theorem s_asg(h:evE T cf x e=.ok d)(h2:g.put d e=.ok e1):exS T cf (.asg g x) e=.ok (.nx e1):=by rw[Kq,h,Res.ok_bind,h2];rfl
theorem s_asgO(h:evE T cf x e=.ok d)(h2:setO (hdF T x) i e d=o):exS T cf (.asgO i x) e=o:=by rw[Kr,h,<-uU];exact h2
theorem s_ite(h1:evE T cf c e=.ok d)(h2:d.truth=.ok k)(h3:fC k (exS T cf s e) (exS T cf s1 e)=o):exS T cf (.ite c s s1) e=o:=by rw[Ks,h1,Res.ok_bind,h2];unfold fC at h3;exact h3
theorem Bp(h1:evI T cf x e=.ok ds)(h2:aO (aV T cf g s) ds e1=o)(he:e=e1):exS T cf (.forS g x s) e=o:=by rw[Kt,h1,he];exact h2
theorem s_whl(h:eE (nX T cf c) (exS T cf s) n e1=o)(he:e=e1):exS T cf (.whl n c s) e=o:=by rw[he];exact h
theorem s_app(h:evE T cf x e=.ok d)(h2:e.at i=.o (.lst xs))(h3:xs.length<big):exS T cf (.app i x) e=.ok (.nx (e.set i (.o (.lst (xs++[d]))))):=by rw[Ku,h,Res.ok_bind,h2,Bf,Res.ok_bind,bV (decide_eq_true h3)]
theorem s_rev(h2:e.at i=.o (.lst xs)):exS T cf (.rev i) e=.ok (.nx (e.set i (.o (.lst xs.reverse)))):=by rw[Kv,h2];rfl
theorem s_newD:exS T cf (.newD i) e=.ok (.nx (e.set i (.o (.dct [])))):=Km
theorem s_dput{kvs:List (Sum Int Str×D)}{q:Sum Int Str}(h:evE T cf x e=.ok d)(h2:e.at i=.o (.dct kvs))(h3:evE T cf a e=.ok d1)(h4:Res.of (eR d1)=.ok q)(h5:kvs.length<big):exS T cf (.dput i a x) e=.ok (.nx (e.set i (.o (.dct (dX kvs q d))))):=by
 rw[Kw,h,Res.ok_bind,h2,ownD_o,Res.ok_bind,h3,Res.ok_bind,h4,Res.ok_bind,bV (decide_eq_true h5)]
theorem ext_ok(h:e.at i=.o (.lst xs))(h2:xs.length+ys.length<=big):extO true i e (.lst ys)=.ok (.nx (e.set i (.o (.lst (xs++ys))))):=by
 rw[Kx,h,Bf,Res.ok_bind,iV,bV (decide_eq_true h2)]
theorem s_ext(h:evE T cf x e=.ok (.lst ys))(h1:hdF T x=true)(h2:e.at i=.o (.lst xs))(h3:xs.length+ys.length<=big):exS T cf (.ext i x) e=.ok (.nx (e.set i (.o (.lst (xs++ys))))):=by rw[Ky,h,<-uU,h1];exact ext_ok h2 h3
theorem s_aug(h:e.at i=.v d)(h1:evE T cf x e=.ok d1)(h2:D.aug p d d1=.ok d2):exS T cf (.aug i p x) e=.ok (.nx (e.set i (.v d2))):=by rw[Kz,h,val_v,Res.ok_bind,h1,Res.ok_bind,h2];rfl
theorem s_exp(h:evE T cf x e=.ok d):exS T cf (.exp x) e=.ok (.nx e):=by rw[LA,h];rfl
theorem w_test(h1:evE T cf c e=.ok d)(h2:d.truth=.ok k):nX T cf c e=.ok k:=by unfold nX;rw[h1];exact h2
theorem Bq(h1:g.put d e=.ok e1)(h2:exS T cf s e1=o):aV T cf g s d e=o:=by unfold aV;rw[h1];exact h2
end
end Tr
set_option maxRecDepth 100000
namespace Tr
open PySem
variable{ss:List Scene}{i s:Nat}{x:Str}
noncomputable def bO(ns:List Int)(k:Nat):Int:=ns.getD k 0
noncomputable def eJ(c k:Int):Int:=(c*48271+k*k*69621+5)%2147483647
theorem qM(c k:Int):0<=eJ c k:=by unfold eJ;lia
theorem qN(c k:Int):eJ c k<2147483647:=by unfold eJ;lia
noncomputable def fQ(n:Int):Int:=([0,n/5%7,n/5%31,n/5%400,n*n%1000000000]:List Int).getD (n%5).toNat 0
theorem five(m:Int):m%5=0\/m%5=1\/m%5=2\/m%5=3\/m%5=4:=by lia
theorem uW(n:Int):0<=fQ n:=by
 unfold fQ
 rcases five n with h|h|h|h|h<;>rw[h]<;>simp<;>lia
set_option genInjectivity false in
structure Part where
 name:Str
 voice:Str
 off:Int
 on:Int
noncomputable def Part.enc(p:Part):D:=.tup [.str p.name,.str p.voice,.int p.off,.int p.on]
structure Scene where
 name:Str
 len:Int
 pause:Int
 who:List Nat
noncomputable def bH(ws:List Nat):List D:=ws.map λ(i:Nat)=>D.int (i:Int)
noncomputable def Scene.enc(s:Scene):D:=.tup [.str s.name,.int s.len,.int s.pause,.tup (bH s.who)]
theorem ix_str(h:i<x.cps.size)(hb:x.length<=big):∃y:Str,D.ix (.str x) (.int i)=.ok (.str y)/\y.length=1:=by
 refine⟨⟨#[x.cps[i]]⟩,?_,rfl⟩
 show aE (decide (x.length<=big)) (Res.of ((atI x.cps.toList i).map λc=>D.str ⟨#[c]⟩))=_
 rw[bV (decide_eq_true hb)]
 unfold atI ixN
 rw[if_pos (xE i),if_pos (by simp;lia)]
 simp[h,Res.of]
theorem L4{i:Int}(h0:0<=i)(h:i.toNat<x.cps.size)(hb:x.length<=big):∃y:Str,D.ix (.str x) (.int i)=.ok (.str y)/\y.length=1:=by
 obtain⟨n,rfl⟩:=OD h0
 exact ix_str (by simpa using h) hb
@[simp] theorem add_str{y:Str}(h:x.length+y.length<=big):D.bin .Add (.str x) (.str y)=.ok (.str (x++y)):=by
 show aE (decide (x.length+y.length<=big)) _=_
 rw[bV (decide_eq_true h)]
theorem ix2i{a b:Int}{c:Bool}:D.ix (.lst [.int a,.int b]) (.int (b2z c))=.ok (.int (if c=true then b else a)):=by cases c<;>rfl
theorem Br{l:List Nat}(h:l.Nodup):l.reverse.Nodup:=List.pairwise_reverse.mpr (h.imp λh=>Ne.symm h)
theorem L5:("abcdefgh" : Str).cps.size=8:=by decide +kernel
theorem L6:("stb" : Str).cps.size=3:=by decide +kernel
theorem L7:("abcdefghijklmnopqrstuvwx" : Str).cps.size=24:=by decide +kernel
theorem bZ:(1000:Nat)<big:=by decide
set_option genInjectivity false in
structure GoodScene(many:Nat)(s:Scene):Prop where
 len:0<=s.len
 pause:0<=s.pause
 nd:s.who.Nodup
 lt:∀i∈s.who,i<many
theorem L8(ws:List Nat):(bH ws).length=ws.length:=by unfold bH;simp
theorem uX(i:Nat):∀ws:List Nat,D.mem (.int i) (bH ws)=decide (i∈ws)
 |[]=>rfl
 |w::r=>by
  show(D.eqb (.int w) (.int i)||D.mem (.int i) (bH r))=_
  rw[uX i r]
  have:D.eqb (.int w) (.int i)=decide (i=w):=by
   show((w:Int)==(i:Int))=_
   by_cases h:i=w
   ·subst h;simp
   ·rw[decide_eq_false h];simp;lia
  rw[this]
  by_cases h1:i=w<;>by_cases h2:i∈r<;>simp[h1,h2]
theorem uY(k:Nat):∀ws:List Nat,D.pls (k+1) (bH ws)=true
 |[]=>rfl
 |w::r=>by
  show(D.pl k (.int w)&&D.pls (k+1) (bH r))=true
  rw[uY k r];cases k<;>rfl
@[simp] theorem lQ{ws:List Nat}:D.cmp .In (.int i) (.tup (bH ws))=.ok (.bl (decide (i∈ws))):=by
 show(do let k<-D.inn (.int i) (.tup (bH ws));.ok (D.bl k))=_
 show(do let k<-aE (D.pls 30 (bH ws)&&D.pl 29 (.int i)) (.ok (D.mem (.int i) (bH ws)));.ok (D.bl k))=_
 rw[uY,uX];rfl
theorem kH{α:Type}(f:α->D)(k:Nat)(h:∀a,D.pl k (f a)=true):∀xs:List α,D.pls (k+1) (xs.map f)=true
 |[]=>rfl
 |a::r=>by rw[aL,D.pls,h a,kH f k h r];rfl
@[simp] theorem pl_tup{n:Nat}{a:List D}:D.pl n (.tup a)=D.pls n a:=id rfl
noncomputable def Scene.both(s:Scene):Int:=s.len+s.pause
noncomputable def dI(ss:List Scene)(s t:Nat):Int:=((ss[s]?).map Scene.pause).getD 0+(((ss.drop (s+1)).take (t-(s+1))).map Scene.both).sum
theorem L9(ss:List Scene)(s:Nat):dI ss s (s+1)=((ss[s]?).map Scene.pause).getD 0:=by unfold dI;simp
theorem take_add_one{α:Type}(l:List α)(n:Nat)(a:α)(h:l[n]?=some a):l.take (n+1)=l.take n++[a]:=by
 rw[List.take_add_one,h];rfl
theorem L_{t:Nat}{x:Scene}(h:s<t)(hx:ss[t]?=some x):dI ss s (t+1)=dI ss s t+x.both:=by
 unfold dI
 have e:(ss.drop (s+1))[t-(s+1)]?=some x:=by rw[List.getElem?_drop,show s+1+(t-(s+1))=t by lia];exact hx
 rw[show t+1-(s+1)=t-(s+1)+1 by lia,take_add_one _ _ _ e,cU,OF]
 simp
 lia
theorem cut_nn{α:Type}{xs:List α}{a b:Nat}(ha:a<=xs.length)(hb:b<=xs.length):cut xs (some (a:Int)) (some (b:Int))=(xs.drop a).take (b-a):=by
 unfold cut sIx
 simp only[]
 rw[if_neg (by lia),if_neg (by lia),eY,eY,rO ha,rO hb]
theorem uZ{x:Scene}(h:ss[s]?=some x):D.ix (.tup (ss.map Scene.enc)) (.int s)=.ok x.enc:=iQ (by rw[bX,h];rfl)
theorem kI{ss:List Part}{x:Part}(h:ss[s]?=some x):D.ix (.tup (ss.map Part.enc)) (.int s)=.ok x.enc:=iQ (by rw[bX,h];rfl)
@[simp] theorem enc1{s:Scene}:D.ix s.enc (.int 1)=.ok (.int s.len):=uS
@[simp] theorem enc2{s:Scene}:D.ix s.enc (.int 2)=.ok (.int s.pause):=Bk
@[simp] theorem enc3{s:Scene}:D.ix s.enc (.int 3)=.ok (.tup (bH s.who)):=Bl
@[simp] theorem Bs{s:Part}:D.ix s.enc (.int 2)=.ok (.int s.off):=Bk
@[simp] theorem Bu{s:Part}:D.ix s.enc (.int 3)=.ok (.int s.on):=Bl
@[simp] theorem gM{α:Type}{f:α->D}{xs:List α}:Bt.run .len [.tup (xs.map f)]=.ok (.int xs.length):=by rw[LK,aI]
end Tr
set_option maxRecDepth 100000
namespace Tr
open PySem
variable{ss:List Scene}{s:Nat}{x:Scene}
noncomputable def aB(t:Nat):D:=.int (t:Int)
theorem vB(lo n:Nat):bQ (lo:Int) n=(dA lo n).map aB:=by
 rw[nY,List.range'_eq_map_range,dQ]
 apply iU
 intro i _
 simp[aB]
theorem fF{n:Nat}(h:n<=1000):kF (.int (n:Int))=.ok ((aC n).map aB):=by
 rw[Be (by lia),nY]
 congr 1
 apply iU
 intro i _
 simp[aB]
theorem Bv{m:Nat}(h:s<=1000)(h2:m<=1000):nW (.int ((s:Int)+1)) (.int (m:Int))=.ok ((dA (s+1) (m-(s+1))).map aB):=by
 have:nW (.int ((s+1:Nat):Int)) (.int (m:Int))=_:=Kf (by lia) (by lia)
 rw[vB]at this
 exact this
theorem La{f:D->Nv->Res Out}(I:Nv->Prop)(g:Nat->Option (D×Bool))(ts:List Nat)(e:Nv)(h:I e)
 (st:∀t∈ts,∀e,I e->match g t with|some (x,k)=>f (aB t) e=.ok (.rt x k)|none=>∃e',(f (aB t) e=.ok (.nx e')\/f (aB t) e=.ok (.ct e'))/\I e') :
 match ts.findSome? g with|some (x,k)=>aO f (ts.map aB) e=.ok (.rt x k)|none=>∃e',aO f (ts.map aB) e=.ok (.nx e')/\I e':=by
 induction ts generalizing e with
 |nil=>exact⟨e,rfl,h⟩
 |cons t r ih=>
  have h1:=st t bF e h
  rw[mF,aL]
  cases hg:g t with
  |some y=>
   rw[hg]at h1
   exact iR h1
  |none=>
   rw[hg]at h1
   obtain⟨e',h2,h3⟩:=h1
   have eq:aO f (aB t::r.map aB) e=aO f (r.map aB) e':=by
    rcases h2 with h2|h2
    ·exact cD h2
    ·exact Bm h2
   rw[eq]
   exact ih e' h3 λd' hd=>st d' (bG _ hd)
theorem Bw{α β γ:Type}(h:α->Option β)(F:β->γ):∀l:List α,l.findSome? (λt=>(h t).map F)=(l.findSome? h).map F
 |[]=>rfl
 |a::r=>by
  rw[mF,mF]
  cases e:h a with
  |none=>simp[Bw h F r]
  |some b=>rfl
inductive Rz where
 |sc (s:Nat)|ch (s t:Nat) (have_ need:Int)
noncomputable def Rz.enc:Rz->D
 |.sc s=>.tup [.str "scene", .int s]
 |.ch s t h n=>.tup [.str "change", .int s,.int t,.int h,.int n]
noncomputable def eK:Option Rz->D
 |none=>.non
 |some r=>r.enc
@[simp] theorem Lb{o:Option Rz}:(eK o).isNon=o.isNone:=by
 cases o with
 |none=>rfl
 |some r=>cases r<;>rfl
noncomputable def bD(ss:List Scene)(t:Nat):List Nat:=((ss[t]?).map Scene.who).getD []
noncomputable def hV(ps:List Part)(i j:Nat):Int:=((ps[i]?).map Part.off).getD 0+((ps[j]?).map Part.on).getD 0
noncomputable def jI(ps:List Part)(ss:List Scene)(s one other t:Nat):Option Rz:=
 if other∈bD ss t/\dI ss s t<hV ps one other then some (.ch s t (dI ss s t) (hV ps one other))else none
noncomputable def gB(ps:List Part)(ss:List Scene)(s one other:Nat):Option Rz:=(dA (s+1) (ss.length-(s+1))).findSome? (jI ps ss s one other)
noncomputable def eW(ps:List Part)(ss:List Scene)(i j s:Nat):Option Rz:=
 if i∈bD ss s/\j∈bD ss s then some (.sc s)else if i∈bD ss s then gB ps ss s i j else if j∈bD ss s then gB ps ss s j i else none
noncomputable def aZ(ps:List Part)(ss:List Scene)(i j:Nat):Option Rz:=(aC ss.length).findSome? (eW ps ss i j)
theorem Lc(ps:List Part)(ss:List Scene)(i j s:Nat):eW ps ss i j s=eW ps ss j i s:=by
 unfold eW
 by_cases h1:i∈bD ss s<;>by_cases h2:j∈bD ss s<;>simp[h1,h2]
noncomputable def bL(ss:List Scene)(k:Nat):Int:=((ss.take k).map Scene.both).sum
theorem vE{k:Nat}(h:ss[k]?=some x):bL ss (k+1)=bL ss k+x.both:=by
 unfold bL
 rw[take_add_one _ _ _ h,cU,OF]
 simp
theorem Bx(hx:ss[s]?=some x):∀{t:Nat},s<t->t<=ss.length->bL ss t-bL ss s-x.len=dI ss s t:=by
 intro t
 induction t with
 |zero=>intro h;lia
 |succ t ih=>
  intro h1 h2
  by_cases hs:s=t
  ·subst hs
   rw[vE hx,L9,hx]
   simp[Scene.both]
   lia
  ·have hy:=aP (l:=ss) (i:=t) (by lia)
   rw[vE hy,L_ (by lia) hy,<-ih (by lia) (by lia)]
   lia
theorem vG(h:s<ss.length):bD ss s=ss[s].who:=by unfold bD;rw[aP h];rfl
theorem vH{ps:List Part}{i j:Nat}(h:i<ps.length)(h2:j<ps.length):hV ps i j=ps[i].off+ps[j].on:=by unfold hV;rw[aP h,aP h2];rfl
noncomputable def Rz.out(r:Rz):D×Bool:=(r.enc,false)
theorem By{f:D->Nv->Res Out}{I:Nv->Prop}{g:Nat->Option Rz}{ts:List Nat}{e:Nv}(h:I e)
 (st:∀t∈ts,∀e,I e->match g t with|some r=>f (aB t) e=.ok (.rt r.enc false)|none=>∃e',f (aB t) e=.ok (.nx e')/\I e') :
 match ts.findSome? g with|some r=>aO f (ts.map aB) e=.ok (.rt r.enc false)|none=>∃e',aO f (ts.map aB) e=.ok (.nx e')/\I e':=by
 have:=La (f:=f) I (λt=>(g t).map Rz.out) ts e h (by
  intro t ht e he
  have:=st t ht e he
  cases hg:g t with
  |none=>rw[hg]at this;obtain⟨e',h1,h2⟩:=this;exact⟨e',.inl h1,h2⟩
  |some r=>rw[hg]at this;exact this)
 rw[Bw]at this
 cases hg:ts.findSome? g with
 |none=>rw[hg]at this;exact this
 |some r=>rw[hg]at this;exact this
end Tr
set_option maxRecDepth 100000
namespace Tr
open PySem
variable{f:D->Res (Option D)}{ps:List Part}{ss:List Scene}{i j s:Nat}{p:Nat×Nat}
theorem Bz(k j:Sum Int Str)(y:D):∀kvs:List (Sum Int Str×D),bE (kvs.map λkv=>if kv.1=k then(kv.1,y)else kv) j=(bE kvs j).map λx=>if j=k then y else x
 |[]=>rfl
 |(k',d)::r=>by
  have ih:=Bz k j y r
  rw[aL]
  unfold bE at ih⊢
  by_cases h1:k'=k<;>by_cases h2:k'=j
  ·subst h1;subst h2;simp[cY]
  ·rw[if_pos h1]
   simp only[cY,h2,decide_false,ih]
  ·have h3:j≠k:=λz=>h1 (h2.trans z)
   rw[if_neg h1]
   simp[cY,h2,h3]
  ·rw[if_neg h1]
   simp only[cY,h2,decide_false,ih]
theorem CA(k:Sum Int Str):∀kvs:List (Sum Int Str×D),(kvs.any λkv=>decide (kv.1=k))=(bE kvs k).isSome
 |[]=>rfl
 |(k',d)::r=>by
  have ih:=CA k r
  unfold bE at ih⊢
  by_cases h:k'=k
  ·simp[cY,h]
  ·simp only[iC,cY,h,decide_false,lX,ih]
theorem CB(k j:Sum Int Str)(y:D):∀kvs:List (Sum Int Str×D),bE kvs k=none->bE (kvs++[(k,y)]) j=if j=k then some y else bE kvs j
 |[],_=>by
  by_cases h:k=j
  ·subst h;simp[bE,cY]
  ·have h':¬j=k:=λz=>h z.symm
   simp[bE,cY,h,h']
 |(k',d)::r,hn=>by
  have hk:¬k'=k:=λz=>by subst z;simp[bE,cY]at hn
  have hn':bE r k=none:=by simpa[bE,cY,hk]using hn
  have ih:=CB k j y r hn'
  unfold bE at ih⊢
  by_cases h:k'=j
  ·have h':¬j=k:=λz=>hk (h.trans z)
   simp[cY,h,h']
  ·simp only[mH,cY,h,decide_false,ih]
theorem Ld(kvs:List (Sum Int Str×D))(k j:Sum Int Str)(y:D):bE (dX kvs k y) j=if j=k then some y else bE kvs j:=by
 unfold dX
 rw[CA]
 cases h:bE kvs k with
 |none=>
  rw[if_neg (by simp)]
  exact CB k j y kvs h
 |some x=>
  rw[if_pos (by simp),Bz]
  by_cases e:j=k
  ·subst e;rw[h];simp
  ·rw[if_neg e]
   cases bE kvs j<;>simp[e]
theorem CC(kvs:List (Sum Int Str×D))(k:Sum Int Str)(y:D):(dX kvs k y).length<=kvs.length+1:=by
 unfold dX
 split
 ·simp
 ·simp
theorem eL{α:Type}(enc:α->D)(g:α->Option D):∀{xs:List α},(∀a∈xs,f (enc a)=.ok (g a))->bR f (xs.map enc)=.ok (xs.filterMap g)
 |[],_=>rfl
 |a::r,h=>by
  rw[aL,bR,h a bF,Res.ok_bind,eL enc g λx hx=>h x (bG _ hx),Res.ok_bind,jO]
  cases g a<;>rfl
theorem CD{α:Type}(enc:α->D)(p:α->Bool){xs:List α}(h:∀a∈xs,f (enc a)=.ok (if p a=true then some (enc a)else none)):bR f (xs.map enc)=.ok ((xs.filter p).map enc):=by
 rw[eL enc (λa=>if p a=true then some (enc a)else none) h]
 congr 1
 induction xs with
 |nil=>rfl
 |cons a r ih=>
  rw[jO,oN,ih λx hx=>h x (bG _ hx)]
  cases p a<;>rfl
noncomputable def aF(p:Nat×Nat):D:=.tup [.int p.1,.int p.2]
noncomputable def hZ(many i:Nat):List (Nat×Nat):=(dA (i+1) (many-(i+1))).map λj=>(i,j)
noncomputable def fG(many:Nat):Nat->List (Nat×Nat)
 |0=>[]
 |k+1=>fG many k++hZ many k
noncomputable def jJ(many:Nat):List (Nat×Nat):=fG many many
theorem Le{many:Nat}(h:p∈hZ many i):p.1=i/\i<p.2/\p.2<many:=by
 obtain⟨j,hj,rfl⟩:=cZ.mp h
 have:=mJ.mp hj
 exact⟨rfl,by lia,by lia⟩
theorem CF{many:Nat}:∀{k:Nat},p∈fG many k->p.1<p.2/\p.2<many
 |0,h=>by simp[fG]at h
 |k+1,h=>by
  rcases eO.mp h with q|q
  ·exact CF q
  ·have:=Le q;lia
theorem vI(many:Nat):∀k,(fG many k).length<=k*many
 |0=>by simp[fG]
 |k+1=>by
  have:=vI many k
  rw[fG,bB,hZ,aI,OG,Nat.succ_mul]
  lia
theorem CG(k:Nat)(p:Nat×Nat):D.pl (k+1) (aF p)=true:=by
 show D.pls (k+1) [D.int p.1,.int p.2]=true
 cases k<;>rfl
noncomputable def fR(ss:List Scene)(t:Nat):Int:=((ss[t]?).map Scene.len).getD 0
noncomputable def eX(ss:List Scene)(one:Nat):Nat->Option Int
 |0=>none
 |k+1=>if one∈bD ss k then some (bL ss k+fR ss k)else eX ss one k
noncomputable def kJ(ps:List Part)(ss:List Scene)(one other t:Nat):Bool:=
 decide (other∈bD ss t)&&(match eX ss one t with|some e=>decide (bL ss t-e<hV ps one other)|none=>false)
noncomputable def hit(ps:List Part)(ss:List Scene)(i j t:Nat):Bool:=(decide (i∈bD ss t)&&decide (j∈bD ss t))||kJ ps ss i j t||kJ ps ss j i t
theorem CH{one:Nat}{e:Int}:∀{t:Nat},eX ss one t=some e->∃s,s<t/\one∈bD ss s/\e=bL ss s+fR ss s
 |0,h=>by cases h
 |t+1,h=>by
  rw[eX]at h
  split at h
  ·rename_i hw
   cases h
   exact⟨t,oH t,hw,rfl⟩
  ·obtain⟨s,h1,h2,h3⟩:=CH h
   exact⟨s,by lia,h2,h3⟩
theorem Lf(g:∀s∈ss,0<=s.len/\0<=s.pause){t:Nat}(h:s<t)(ht:t<=ss.length):bL ss s+fR ss s<=bL ss t:=by
 have hs:s<ss.length:=by lia
 have hx:=aP hs
 have e:=Bx hx h ht
 have hl:fR ss s=ss[s].len:=by unfold fR;rw[hx];rfl
 have hb:0<=dI ss s t:=by
  unfold dI
  rw[hx]
  have h1:=(g ss[s] (kR hs)).2
  have h2:0<=(((ss.drop (s+1)).take (t-(s+1))).map Scene.both).sum:=by
   have:∀l:List Scene,(∀x∈l,0<=x.len/\0<=x.pause)->0<=(l.map Scene.both).sum:=by
    intro l
    induction l with
    |nil=>intro _;simp
    |cons x r ih=>
     intro h
     have a:=h x bF
     have b:=ih λy hy=>h y (bG _ hy)
     rw[aL,rP]
     unfold Scene.both at *
     lia
   exact this _ λx hx=>g x (OH (xF hx))
  simp only[Option.map_some,Option.getD_some]
  lia
 lia
theorem CI(g:∀s∈ss,0<=s.len/\0<=s.pause){one s:Nat}(hw:one∈bD ss s):∀{t:Nat},s<t->t<=ss.length->∃e,eX ss one t=some e/\bL ss s+fR ss s<=e
 |0,h,_=>by lia
 |t+1,h,ht=>by
  rw[eX]
  by_cases c:one∈bD ss t
  ·rw[if_pos c]
   refine⟨_,rfl,?_⟩
   by_cases e:s=t
   ·subst e;exact FP _
   ·have:=Lf g (s:=s) (t:=t) (by lia) (by lia)
    have hl:0<=fR ss t:=by
     unfold fR
     rw[aP (by lia)]
     exact(g _ (kR _)).1
    lia
  ·rw[if_neg c]
   have:s≠t:=λz=>c (z▸hw)
   exact CI g hw (by lia) (by lia)
theorem CJ{t:Nat}(h:s<t)(ht:t<=ss.length):dI ss s t=bL ss t-(bL ss s+fR ss s):=by
 have hx:=aP (l:=ss) (i:=s) (by lia)
 have e:=Bx hx h ht
 have hl:fR ss s=(ss[s]'(by lia)).len:=by unfold fR;rw[hx];rfl
 lia
theorem who_lt{t:Nat}(h:i∈bD ss t):t<ss.length:=by
 by_cases c:t<ss.length
 ·exact c
 ·unfold bD at h
  rw[jR (by lia)]at h
  cases h
theorem CL{α β:Type}{f:α->Option β}{l:List α}:(l.findSome? f).isSome=l.any λa=>(f a).isSome:=by
 induction l with
 |nil=>rfl
 |cons a r ih=>
  rw[mF,iC]
  cases f a<;>simp[ih]
theorem short_some:(gB ps ss s i j).isSome=true↔∃t,s<t/\t<ss.length/\j∈bD ss t/\dI ss s t<hV ps i j:=by
 unfold gB
 rw[CL,xG]
 constructor
 ·rintro⟨t,h1,h2⟩
  have:=mJ.mp h1
  unfold jI at h2
  split at h2
  ·rename_i c;exact⟨t,by lia,by lia,c.1,c.2⟩
  ·cases h2
 ·rintro⟨t,h1,h2,h3,h4⟩
  refine⟨t,mJ.mpr ⟨by lia,by lia⟩,?_⟩
  unfold jI
  rw[if_pos ⟨h3,h4⟩];rfl
theorem from_some:(eW ps ss i j s).isSome=true↔(i∈bD ss s/\j∈bD ss s)\/(i∈bD ss s/\(gB ps ss s i j).isSome=true/\¬j∈bD ss s)\/(j∈bD ss s/\(gB ps ss s j i).isSome=true/\¬i∈bD ss s):=by
 unfold eW
 by_cases h1:i∈bD ss s<;>by_cases h2:j∈bD ss s<;>simp[h1,h2]
theorem Lg:(aZ ps ss i j).isSome=true↔∃s,s<ss.length/\(eW ps ss i j s).isSome=true:=by
 unfold aZ
 rw[CL,xG]
 constructor
 ·rintro⟨s,h1,h2⟩;exact⟨s,by simpa using h1,h2⟩
 ·rintro⟨s,h1,h2⟩;exact⟨s,by simpa using h1,h2⟩
theorem Lh(g:∀s∈ss,0<=s.len/\0<=s.pause)(i j:Nat):(aC ss.length).any (hit ps ss i j)=(aZ ps ss i j).isSome:=by
 rw[rQ,xG,Lg]
 have one:∀i j t,kJ ps ss i j t=true->∃s,s<ss.length/\(eW ps ss i j s).isSome=true:=by
  intro i j t h
  unfold kJ at h
  rw[aD,decide_eq_true_eq]at h
  cases e:eX ss i t with
  |none=>rw[e]at h;simp at h
  |some x=>
   rw[e]at h
   obtain⟨s,h1,h2,rfl⟩:=CH e
   have ht:=who_lt h.1
   refine⟨s,by lia,from_some.mpr ?_⟩
   by_cases c:j∈bD ss s
   ·exact .inl ⟨h2,c⟩
   ·refine .inr (.inl ⟨h2,short_some.mpr ⟨t,h1,ht,h.1,?_⟩,c⟩)
    rw[CJ h1 (by lia)]
    simpa using h.2
 have two:∀i j s,i∈bD ss s->(gB ps ss s i j).isSome=true->∃t,t<ss.length/\kJ ps ss i j t=true:=by
  intro i j s h1 h2
  obtain⟨t,h3,h4,h5,h6⟩:=short_some.mp h2
  obtain⟨e,h7,h8⟩:=CI g h1 h3 (by lia)
  refine⟨t,h4,?_⟩
  unfold kJ
  rw[h7,decide_eq_true h5,iV]
  rw[CJ h3 (by lia)]at h6
  simp only[decide_eq_true_eq]
  lia
 constructor
 ·rintro⟨t,h1,h2⟩
  have ht:t<ss.length:=by simpa using h1
  unfold hit at h2
  rw[fH,fH]at h2
  rcases h2 with(h2|h2)|h2
  ·rw[aD,decide_eq_true_eq,decide_eq_true_eq]at h2
   exact⟨t,ht,from_some.mpr (.inl h2)⟩
  ·exact one i j t h2
  ·obtain⟨s,h3,h4⟩:=one j i t h2
   exact⟨s,h3,by rw[Lc];exact h4⟩
 ·rintro⟨s,h1,h2⟩
  rcases from_some.mp h2 with h|⟨h,h',_⟩|⟨h,h',_⟩
  ·refine⟨s,by simpa using h1,?_⟩
   unfold hit
   rw[decide_eq_true h.1,decide_eq_true h.2];rfl
  ·obtain⟨t,ht,q⟩:=two i j s h h'
   refine⟨t,by simpa using ht,?_⟩
   unfold hit
   rw[q];simp
  ·obtain⟨t,ht,q⟩:=two j i s h h'
   refine⟨t,by simpa using ht,?_⟩
   unfold hit
   rw[q];simp
end Tr
set_option maxRecDepth 100000
namespace Tr
open PySem
noncomputable def hasC(g:Str)(c:Nat):Bool:=decide (c∈g.cps.toList)
noncomputable def bP(x:Str):List Nat:=x.cps.toList
@[simp] theorem Li(xs:List D):Bt.run .all [.lst xs]=(do let q<-gT xs;.ok (.bl (q.all id))):=id rfl
theorem Lj(x:Str):x.length=(bP x).length:=by cases x;simp[Str.length,bP]
section
variable{T:Tab}
end
theorem Ll{x y:Str}(h:bP x=bP y):x=y:=by
 cases x;cases y
 simp only[bP]at h
 congr 1
 exact Nn.mp h
theorem Lm{α:Type}{xs:List α}{a:Nat}(ha:a<=xs.length):cut xs (some (a:Int)) none=xs.drop a:=by
 unfold cut sIx
 simp only[]
 rw[if_neg (by lia),eY,rO ha,lZ (by simp)]
theorem cut_to{α:Type}{xs:List α}{b:Nat}(hb:b<=xs.length):cut xs none (some (b:Int))=xs.take b:=by
 unfold cut sIx
 simp only[]
 rw[if_neg (by lia),eY,rO hb,rL,xC]
theorem CM{a b:List D}(h:a.length+b.length<=big):D.bin .Add (.lst a) (.lst b)=.ok (.lst (a++b)):=by
 show aE (decide (a.length+b.length<=big)) (.ok (D.lst (a++b)))=_
 rw[show decide (a.length+b.length<=big)=true by simpa using h]
 rfl
end Tr
set_option maxRecDepth 100000
namespace Tr
open PySem
variable{cs:List (Option Nat)}{j:Nat}
set_option genInjectivity false in
structure Player where
 name:Str
 voices:Str
 hire:Int
noncomputable def Player.enc(p:Player):D:=.tup [.str p.name,.str p.voices,.int p.hire]
@[simp] theorem vJ{s:Player}:D.ix s.enc (.int 1)=.ok (.str s.voices):=uS
@[simp] theorem vK{s:Part}:D.ix s.enc (.int 1)=.ok (.str s.voice):=uS
theorem vO{ss:List Player}{s:Nat}{x:Player}(h:ss[s]?=some x):D.ix (.tup (ss.map Player.enc)) (.int s)=.ok x.enc:=iQ (by rw[bX,h];rfl)
noncomputable def bW:Option Nat->D
 |none=>.non
 |some j=>.int (j:Int)
@[simp] theorem Ln:bW (some j)=.int (j:Int):=id rfl
noncomputable def qO(p:Part)(q:Player):Bool:=match bP p.voice with
 |[c]=>hasC q.voices c
 |_=>false
theorem vQ{p:Part}{q:Player}(h:(bP p.voice).length=1):D.cmp .NotIn (.str p.voice) (.str q.voices)=.ok (.bl (!qO p q)):=by
 obtain⟨c,hc⟩:∃c,bP p.voice=[c]:=List.length_eq_one_iff.mp h
 have e:p.voice=chr1 c:=Ll (by rw[hc];rfl)
 unfold qO
 rw[hc]
 rw[e]
 rfl
noncomputable def jK(P:List Part)(Q:List Player)(k j:Nat):Bool:=((P[k]?).bind λp=>(Q[j]?).map λq=>qO p q).getD false
theorem vR{P:List Part}{Q:List Player}{k:Nat}(hk:k<P.length)(hj:j<Q.length):jK P Q k j=qO P[k] Q[j]:=by
 unfold jK;rw[aP hk,aP hj];rfl
theorem Lo{k:Nat}{o:Option Nat}(h:cs[k]?=some o):D.ix (.lst (cs.map bW)) (.int k)=.ok (bW o):=ix_l (by rw[bX,h];rfl)
theorem CN(o:Option Nat)(j:Nat):D.cmp .Eq (bW o) (.int j)=.ok (.bl (decide (o=some j))):=by
 cases o with
 |none=>rfl
 |some i=>
  show Res.ok (D.bl ((i:Int)==(j:Int)))=_
  by_cases h:i=j
  ·subst h;simp
  ·rw[show((i:Int)==(j:Int))=false by simp;lia];simp[h]
theorem Lp(o o':Option Nat):D.cmp .Eq (bW o) (bW o')=.ok (.bl (decide (o=o'))):=by
 cases o' with
 |none=>cases o<;>rfl
 |some j=>exact CN o j
theorem CO(k:Nat)(o:Nat):D.pl k (aB o)=true:=by cases k<;>rfl
theorem Lq{xs:List D}(h:D.pls 30 xs=true):D.cmp .Eq (.tup xs) (.tup [])=.ok (.bl xs.isEmpty):=by
 show aE (D.eqOk _ _) (.ok (D.bl (D.eqb (.tup xs) (.tup []))))=_
 rw[bV (by unfold D.eqOk;rw[pl_tup,h];rfl)]
 cases xs<;>rfl
inductive Flt where
 |nob (i:Nat)|voi (i k:Nat)|cla (i j:Nat)
noncomputable def Flt.enc:Flt->D
 |.nob i=>.tup [.str "nobody", .int i]
 |.voi i k=>.tup [.str "voice", .int i,.int k]
 |.cla i j=>.tup [.str "clash", .int i,.int j]
noncomputable def dZ:Option Flt->D
 |none=>.non
 |some x=>x.enc
@[simp] theorem Lr{o:Option Flt}:(dZ o).isNon=o.isNone:=by
 cases o with
 |none=>rfl
 |some x=>cases x<;>rfl
noncomputable def eM(P:List Part)(Q:List Player)(cs:List (Option Nat))(k:Nat):Option Flt:=match cs.getD k none with
 |none=>some (.nob k)
 |some j=>if jK P Q k j=true then none else some (.voi k j)
noncomputable def fS(cs:List (Option Nat))(i j:Nat):Bool:=(cs.getD i none).isSome&&decide (cs.getD i none=cs.getD j none)
noncomputable def lR(P:List Part)(Q:List Player)(ps:List (Nat×Nat))(cs:List (Option Nat)):List Flt:=
 (aC cs.length).filterMap (eM P Q cs)++(ps.filter λp=>fS cs p.1 p.2).map λp=>.cla p.1 p.2
theorem qP{α:Type}(f:α->D)(x:α):∀(cs:List α)(j:Nat),bJ (j:Int) (cs.map f)=(aC cs.length).map (λk=>D.tup [.int ((j+k:Nat):Int),f (cs.getD k x)])
 |[],_=>rfl
 |c::r,j=>by
  rw[aL,bJ,aN,lY,aL,dQ]
  have h:=qP f x r (j+1)
  rw[show((j+1:Nat):Int)=(j:Int)+1 by push_cast;rfl]at h
  rw[h]
  congr 1
  apply iU
  intro k _
  simp only[Function.comp,List.getD_cons_succ]
  congr 4
  lia
theorem CP{k:Nat}(h:k<cs.length):cs[k]?=some (cs.getD k none):=by
 rw[jU,aP h];rfl
theorem CQ{k:Nat}(h:k<cs.length):D.ix (.lst (cs.map bW)) (.int k)=.ok (bW (cs.getD k none)):=Lo (CP h)
noncomputable def Flt.names(p:Nat):Flt->Bool
 |.nob i=>i==p
 |.voi i _=>i==p
 |.cla i j=>i==p||j==p
end Tr
set_option maxRecDepth 100000
namespace Tr
open PySem
theorem CS(k:Nat)(p:Nat×Nat):D.pl (k+1) (aF p)=true:=by
 show D.pls (k+1) [D.int _,D.int _]=true
 cases k<;>rfl
end Tr
set_option maxRecDepth 100000
namespace Tr
open PySem
variable{i j:Nat}
theorem CT{many:Nat}:∀{k:Nat},i<k->i<j->j<many->(i,j)∈fG many k
 |0,h,_,_=>by lia
 |k+1,h,h1,h2=>by
  rw[fG,eO]
  by_cases e:i=k
  ·subst e
   exact .inr (cZ.mpr ⟨j,mJ.mpr (by lia),rfl⟩)
  ·exact .inl (CT (by lia) h1 h2)
theorem Ls{many:Nat}(h1:i<j)(h2:j<many):(i,j)∈jJ many:=CT (by lia) h1 h2
theorem jL{many:Nat}{p:Nat×Nat}(h:p∈jJ many):p.1<p.2/\p.2<many:=CF h
theorem CU(p q:Nat×Nat):D.eqb (aF p) (aF q)=decide (p=q):=by
 show D.eqs [D.int _,D.int _] [D.int _,D.int _]=_
 have:D.eqs [D.int (p.1:Int),D.int (p.2:Int)] [D.int (q.1:Int),D.int (q.2:Int)]=(((p.1:Int)==(q.1:Int))&&(((p.2:Int)==(q.2:Int))&&true)):=rfl
 rw[this,rQ]
 simp
 constructor
 ·rintro⟨a,b⟩;exact Prod.ext (by lia) (by lia)
 ·rintro rfl;exact⟨rfl,rfl⟩
theorem CV(p:Nat×Nat):∀ps:List (Nat×Nat),D.mem (aF p) (ps.map aF)=decide (p∈ps)
 |[]=>rfl
 |q::r=>by
  rw[aL,D.mem,CV p r,CU]
  by_cases h1:q=p
  ·subst h1;simp
  ·have h2:¬p=q:=λz=>h1 z.symm
   by_cases h3:p∈r<;>simp[h1,h2,h3]
noncomputable def Flt.fst:Flt->Nat
 |.nob i=>i
 |.voi i _=>i
 |.cla i _=>i
end Tr
namespace K78
open PySem Tr
noncomputable abbrev CW:E:=
 (.bin .Add (.ix (.var 0) (.con (.int 1))) (.ix (.var 0) (.con (.int 2))))
noncomputable abbrev CY:S:=
 (.cons (.asg (.one 3) (.ix (.var 0) (.glob 2)))
 (.cons (.ret (.bin .Add (.ix (.ix (.var 3) (.var 1)) (.con (.int 2))) (.bt .sum (.acons (.comp 1 [] (.one 0) CW (.seq (.sl (.var 3) (.bin .Add (.var 1) (.con (.int 1))) (.var 2))) (.con (.bl true))) .anil))))
 .nil))
noncomputable abbrev CZ:S:=
 (.cons (.ret (.bin .Add (.ix (.ix (.ix (.var 0) (.glob 0)) (.var 1)) (.con (.int 2))) (.ix (.ix (.ix (.var 0) (.glob 0)) (.var 2)) (.con (.int 3)))))
 .nil)
noncomputable abbrev C0:S:=
 (.cons (.ite (.cmp .In (.var 3) (.ix (.ix (.ix (.var 0) (.glob 2)) (.var 5)) (.con (.int 3))))
 (.cons (.asg (.one 6) (.call 0 (.acons (.var 0) (.acons (.var 1) (.acons (.var 5) .anil)))))
 (.cons (.ite (.cmp .Lt (.var 6) (.var 4))
 (.cons (.ret (.tup (.acons (.con (.str "change")) (.acons (.var 1) (.acons (.var 5) (.acons (.var 6) (.acons (.var 4) .anil)))))))
 .nil)
 .nil)
 .nil))
 .nil)
 .nil)
noncomputable abbrev C1:S:=
 (.cons (.asg (.one 4) (.call 1 (.acons (.var 0) (.acons (.var 2) (.acons (.var 3) .anil)))))
 (.cons (.forS (.one 5) (.rng2 (.bin .Add (.var 1) (.con (.int 1))) (.bt .len (.acons (.ix (.var 0) (.glob 2)) .anil))) C0)
 (.cons (.ret (.con .non))
 .nil)))
noncomputable abbrev C2:S:=
 (.cons (.asg (.one 4) (.ix (.ix (.ix (.var 0) (.glob 2)) (.var 1)) (.con (.int 3))))
 (.cons (.ite (.and (.cmp .In (.var 2) (.var 4)) (.cmp .In (.var 3) (.var 4)))
 (.cons (.ret (.tup (.acons (.con (.str "scene")) (.acons (.var 1) .anil))))
 .nil)
 .nil)
 (.cons (.ite (.cmp .In (.var 2) (.var 4))
 (.cons (.ret (.call 2 (.acons (.var 0) (.acons (.var 1) (.acons (.var 2) (.acons (.var 3) .anil))))))
 .nil)
 .nil)
 (.cons (.ite (.cmp .In (.var 3) (.var 4))
 (.cons (.ret (.call 2 (.acons (.var 0) (.acons (.var 1) (.acons (.var 3) (.acons (.var 2) .anil))))))
 .nil)
 .nil)
 (.cons (.ret (.con .non))
 .nil)))))
noncomputable abbrev C3:S:=
 (.cons (.asg (.one 4) (.call 3 (.acons (.var 0) (.acons (.var 3) (.acons (.var 1) (.acons (.var 2) .anil))))))
 (.cons (.ite (.cmp .IsNot (.var 4) (.con .non))
 (.cons (.ret (.var 4))
 .nil)
 .nil)
 .nil))
noncomputable abbrev C4:S:=
 (.cons (.forS (.one 3) (.rng (.bt .len (.acons (.ix (.var 0) (.glob 2)) .anil))) C3)
 (.cons (.ret (.con .non))
 .nil))
noncomputable abbrev C5:E:=
 (.cmp .IsNot (.call 4 (.acons (.var 2) (.acons (.var 1) (.acons (.var 0) .anil)))) (.con .non))
noncomputable abbrev C6:E:=
 (.tup (.acons (.var 1) (.acons (.var 0) .anil)))
noncomputable abbrev C7:S:=
 (.cons (.ext 1 (.comp 1 [3,0] (.one 0) C6 (.rng2 (.bin .Add (.var 3) (.con (.int 1))) (.var 2)) C5))
 .nil)
noncomputable abbrev C8:S:=
 (.cons (.asgO 1 (.lst .anil))
 (.cons (.asg (.one 2) (.bt .len (.acons (.ix (.var 0) (.glob 0)) .anil)))
 (.cons (.forS (.one 3) (.rng (.var 2)) C7)
 (.cons (.retO 1)
 .nil))))
noncomputable abbrev C9:S:=
 (.cons (.ite (.cmp .Is (.var 2) (.con .non))
 (.cons (.ret (.tup (.acons (.con (.str "nobody")) (.acons (.var 1) .anil))))
 .nil)
 .nil)
 (.cons (.ite (.cmp .NotIn (.ix (.ix (.ix (.var 0) (.glob 0)) (.var 1)) (.con (.int 1))) (.ix (.ix (.ix (.var 0) (.glob 1)) (.var 2)) (.con (.int 1))))
 (.cons (.ret (.tup (.acons (.con (.str "voice")) (.acons (.var 1) (.acons (.var 2) .anil)))))
 .nil)
 .nil)
 (.cons (.ret (.con .non))
 .nil)))
noncomputable abbrev C_:S:=
 (.cons (.ret (.and (.cmp .IsNot (.ix (.var 0) (.var 1)) (.con .non)) (.cmp .Eq (.ix (.var 0) (.var 1)) (.ix (.var 0) (.var 2)))))
 .nil)
noncomputable abbrev Ca:E:=
 (.call 6 (.acons (.var 2) (.acons (.var 0) (.acons (.var 1) .anil))))
noncomputable abbrev Cb:E:=
 (.cmp .IsNot (.var 0) (.con .non))
noncomputable abbrev Cc:E:=
 (.var 0)
noncomputable abbrev Cd:E:=
 (.call 7 (.acons (.var 2) (.acons (.var 0) (.acons (.var 1) .anil))))
noncomputable abbrev Ce:E:=
 (.tup (.acons (.con (.str "clash")) (.acons (.var 0) (.acons (.var 1) .anil))))
noncomputable abbrev Cf:S:=
 (.cons (.asgO 2 (.comp 2 [0] (.many [0,1]) Ca (.enum (.var 1)) (.con (.bl true))))
 (.cons (.asgO 2 (.comp 1 [] (.one 0) Cc (.seq (.rd 2)) Cb))
 (.cons (.ext 2 (.comp 2 [1] (.many [0,1]) Ce (.seq (.call 5 (.acons (.var 0) .anil))) Cd))
 (.cons (.retO 2)
 .nil))))
noncomputable abbrev Cg:S:=
 (.cons (.ite (.cmp .NotEq (.call 8 (.acons (.var 0) (.acons (.var 1) .anil))) (.lst .anil))
 (.cons (.never)
 .nil)
 .nil)
 .nil)
noncomputable abbrev Ci:E:=
 (.cmp .Is (.call 6 (.acons (.var 1) (.acons (.var 2) (.acons (.var 0) .anil)))) (.con .non))
noncomputable abbrev Cj:E:=
 (.var 0)
noncomputable abbrev Ck:S:=
 (.cons (.app 2 (.bt .tuple (.acons (.comp 1 [0,3] (.one 0) Cj (.seq (.var 1)) Ci) .anil)))
 .nil)
noncomputable abbrev Cm:S:=
 (.cons (.asg (.one 1) (.lrng (.bt .len (.acons (.ix (.var 0) (.glob 1)) .anil))))
 (.cons (.asgO 2 (.lst .anil))
 (.cons (.forS (.one 3) (.rng (.bt .len (.acons (.ix (.var 0) (.glob 0)) .anil))) Ck)
 (.cons (.ret (.bt .tuple (.acons (.rd 2) .anil)))
 .nil))))
noncomputable abbrev Cn:E:=
 (.cmp .NotEq (.var 0) (.var 1))
noncomputable abbrev Co:E:=
 (.var 0)
noncomputable abbrev Cp:S:=
 (.cons (.ret (.bt .tuple (.acons (.comp 1 [1] (.one 0) Co (.seq (.var 0)) Cn) .anil)))
 .nil)
noncomputable abbrev Cq:S:=
 (.cons (.ret (.cnt (.meth 43 "many") (.cnt (.make 41) (.var 0) .anil) (.acons (.call 10 (.acons (.var 0) .anil)) .anil)))
 .nil)
noncomputable abbrev Cr:S:=
 (.cons (.asg (.one 5) (.cnt (.meth 43 "many") (.var 0) (.acons (.cnt (.meth 42 "behind") (.var 0) (.acons (.var 1) (.acons (.var 4) .anil))) .anil)))
 (.cons (.ite (.cmp .Lt (.var 2) (.bin .Add (.var 3) (.var 5)))
 (.cons (.brk)
 .nil)
 .nil)
 (.cons (.aug 3 .Add (.var 5))
 .nil)))
noncomputable abbrev Cs:S:=
 (.cons (.asg (.one 3) (.con (.int 0)))
 (.cons (.forS (.one 4) (.seq (.ix (.var 1) (.con (.int 0)))) Cr)
 (.cons (.ret (.tup (.acons (.var 4) (.acons (.var 3) .anil))))
 .nil)))
noncomputable abbrev vS:E:=
 (.cmp .NotEq (.var 3) (.tup .anil))
noncomputable abbrev vT:S:=
 (.cons (.asg (.many [5,6]) (.call 13 (.acons (.var 2) (.acons (.var 3) (.acons (.var 1) .anil)))))
 (.cons (.app 4 (.var 5))
 (.cons (.asg (.one 3) (.cnt (.meth 42 "behind") (.var 2) (.acons (.var 3) (.acons (.var 5) .anil))))
 (.cons (.aug 1 .Sub (.var 6))
 .nil))))
noncomputable abbrev Ct:S:=
 (.cons (.asg (.one 2) (.cnt (.make 41) (.var 0) .anil))
 (.cons (.asg (.one 3) (.call 10 (.acons (.var 0) .anil)))
 (.cons (.ite (.not (.chain .LtE .Lt (.con (.int 0)) (.var 1) (.cnt (.meth 43 "many") (.var 2) (.acons (.var 3) .anil))))
 (.cons (.never)
 .nil)
 .nil)
 (.cons (.asgO 4 (.lst .anil))
 (.cons (.whl 1000 vS vT)
 (.cons (.retO 4)
 .nil))))))
noncomputable abbrev Cu:E:=
 (.cmp .Lt (.var 0) (.var 1))
noncomputable abbrev Cv:E:=
 (.var 0)
noncomputable abbrev Cw:E:=
 (.cnt (.meth 43 "many") (.var 1) (.acons (.cnt (.meth 42 "behind") (.var 1) (.acons (.var 2) (.acons (.var 0) .anil))) .anil))
noncomputable abbrev vU:S:=
 (.cons (.asg (.one 6) (.comp 1 [5] (.one 0) Cv (.seq (.ix (.var 3) (.con (.int 0)))) Cu))
 (.cons (.aug 4 .Add (.bt .sum (.acons (.comp 1 [2,3] (.one 0) Cw (.seq (.var 6)) (.con (.bl true))) .anil)))
 (.cons (.asg (.one 3) (.cnt (.meth 42 "behind") (.var 2) (.acons (.var 3) (.acons (.var 5) .anil))))
 .nil)))
noncomputable abbrev Cy:S:=
 (.cons (.exp (.call 9 (.acons (.var 0) (.acons (.var 1) .anil))))
 (.cons (.asg (.one 2) (.cnt (.make 41) (.var 0) .anil))
 (.cons (.asg (.one 3) (.call 10 (.acons (.var 0) .anil)))
 (.cons (.asg (.one 4) (.con (.int 0)))
 (.cons (.forS (.one 5) (.seq (.var 1)) vU)
 (.cons (.ret (.var 4))
 .nil))))))
noncomputable abbrev Cz:E:=
 (.cmp .NotIn (.tup (.acons (.var 0) (.acons (.var 2) .anil))) (.var 1))
noncomputable abbrev DA:S:=
 (.cons (.ret (.bt .all (.acons (.comp 1 [0,2] (.one 0) Cz (.seq (.var 1)) (.con (.bl true))) .anil)))
 .nil)
noncomputable abbrev DB:E:=
 (.call 16 (.acons (.var 2) (.acons (.var 0) (.acons (.var 1) .anil))))
noncomputable abbrev DC:E:=
 (.bin .Add (.var 0) (.tup (.acons (.var 1) .anil)))
noncomputable abbrev DD:S:=
 (.cons (.ite (.cmp .Is (.call 6 (.acons (.var 0) (.acons (.var 5) (.acons (.var 2) .anil)))) (.con .non))
 (.cons (.asg (.one 4) (.bin .Add (.var 4) (.comp 1 [5,1] (.one 0) DC (.seq (.var 4)) DB)))
 .nil)
 .nil)
 .nil)
noncomputable abbrev DE:S:=
 (.cons (.asg (.one 4) (.lst (.acons (.tup .anil) .anil)))
 (.cons (.forS (.one 5) (.seq (.var 3)) DD)
 (.cons (.ret (.var 4))
 .nil)))
noncomputable abbrev DF:E:=
 (.ix (.ix (.var 1) (.var 2)) (.var 0))
noncomputable abbrev DG:S:=
 (.cons (.asg (.many [3,4]) (.var 0))
 (.cons (.ite (.cmp .Eq (.var 2) (.tup .anil))
 (.cons (.ret (.con (.int 0)))
 .nil)
 .nil)
 (.cons (.ret (.bin .Add (.ix (.var 3) (.var 1)) (.bt .sum (.acons (.comp 1 [4,1] (.one 0) DF (.seq (.var 2)) (.con (.bl true))) .anil))))
 .nil)))
noncomputable abbrev DH:E:=
 (.cmp .NotIn (.var 0) (.var 1))
noncomputable abbrev DI:E:=
 (.var 0)
noncomputable abbrev DJ:S:=
 (.cons (.ret (.bt .tuple (.acons (.comp 1 [1] (.one 0) DI (.seq (.var 0)) DH) .anil)))
 .nil)
noncomputable abbrev DK:E:=
 (.ife (.cmp .In (.var 0) (.var 3)) (.var 2) (.var 1))
noncomputable abbrev DL:S:=
 (.cons (.ret (.comp 2 [2,1] (.many [0,1]) DK (.enum (.var 0)) (.con (.bl true))))
 .nil)
noncomputable abbrev DM:S:=
 (.cons (.asg (.one 1) (.bt .len (.acons (.ix (.var 0) (.glob 0)) .anil)))
 (.cons (.ret (.dlit (.trng (.var 1)) (.tup (.acons (.con (.int 0)) (.acons (.bin .Mult (.lst (.acons (.con .non) .anil)) (.var 1)) .anil)))))
 .nil))
noncomputable abbrev qQ:S:=
 (.cons (.asg (.one 10) (.call 19 (.acons (.var 6) (.acons (.var 9) .anil))))
 (.cons (.asg (.one 11) (.bin .Add (.var 7) (.call 18 (.acons (.var 2) (.acons (.var 3) (.acons (.var 9) .anil))))))
 (.cons (.ite (.or (.cmp .NotIn (.var 10) (.rd 5)) (.cmp .Lt (.var 11) (.ix (.ix (.rd 5) (.var 10)) (.con (.int 0)))))
 (.cons (.dputV 5 (.var 10) (.tup (.acons (.var 11) (.acons (.call 20 (.acons (.var 8) (.acons (.var 9) (.acons (.var 3) .anil)))) .anil))))
 .nil)
 .nil)
 .nil)))
noncomputable abbrev DN:S:=
 (.cons (.asg (.many [7,8]) (.ix (.var 4) (.var 6)))
 (.cons (.forS (.one 9) (.seq (.call 17 (.acons (.var 0) (.acons (.var 1) (.acons (.var 3) (.acons (.var 6) .anil)))))) qQ)
 .nil))
noncomputable abbrev DO:S:=
 (.cons (.newT 5)
 (.cons (.forS (.one 6) (.seqD (.var 4)) DN)
 (.cons (.retO 5)
 .nil)))
noncomputable abbrev DP:S:=
 (.cons (.app 3 (.call 22 (.acons (.var 0) (.acons (.var 2) (.acons (.var 1) (.acons (.var 4) (.acons (.ix (.rd 3) (.neg (.con (.int 1)))) .anil)))))))
 .nil)
noncomputable abbrev DQ:S:=
 (.cons (.asg (.one 2) (.call 5 (.acons (.var 0) .anil)))
 (.cons (.asgO 3 (.lst (.acons (.call 21 (.acons (.var 0) .anil)) .anil)))
 (.cons (.forS (.one 4) (.rng (.bt .len (.acons (.ix (.var 0) (.glob 1)) .anil))) DP)
 (.cons (.retO 3)
 .nil))))
noncomputable abbrev DR:S:=
 (.cons (.ret (.getV (.ix (.call 23 (.acons (.var 0) (.acons (.var 1) .anil))) (.neg (.con (.int 1)))) (.tup .anil)))
 .nil)
noncomputable abbrev vV:S:=
 (.cons (.ite (.cmp .Eq (.sl (.var 3) .omit (.con (.int 2))) (.tup (.acons (.var 1) (.acons (.var 2) .anil))))
 (.cons (.ret (.ix (.var 3) (.con (.int 2))))
 .nil)
 .nil)
 .nil)
noncomputable abbrev DS:S:=
 (.cons (.forS (.one 3) (.seq (.ix (.var 0) (.glob 3))) vV)
 (.cons (.ret (.con (.int 0)))
 .nil))
noncomputable abbrev DT:E:=
 (.call 25 (.acons (.var 1) (.acons (.var 2) (.acons (.var 0) .anil))))
noncomputable abbrev DU:S:=
 (.cons (.ret (.bt .tuple (.acons (.comp 1 [0,1] (.one 0) DT (.rng (.bt .len (.acons (.ix (.var 0) (.glob 0)) .anil))) (.con (.bl true))) .anil)))
 .nil)
noncomputable abbrev DV:E:=
 (.ix (.var 0) (.con (.int 2)))
noncomputable abbrev DW:E:=
 (.call 26 (.acons (.var 1) (.acons (.var 0) .anil)))
noncomputable abbrev DX:S:=
 (.cons (.asg (.one 1) (.bt .tuple (.acons (.comp 1 [] (.one 0) DV (.seq (.ix (.var 0) (.glob 1))) (.con (.bl true))) .anil)))
 (.cons (.asg (.one 2) (.bt .tuple (.acons (.comp 1 [0] (.one 0) DW (.rng (.bt .len (.acons (.ix (.var 0) (.glob 1)) .anil))) (.con (.bl true))) .anil)))
 (.cons (.ret (.tup (.acons (.var 1) (.acons (.var 2) .anil))))
 .nil)))
noncomputable abbrev DY:S:=
 (.cons (.ite (.cmp .Lt (.var 1) (.bt .len (.acons (.var 0) .anil)))
 (.cons (.ret (.ix (.var 0) (.var 1)))
 .nil)
 .nil)
 (.cons (.ret (.con (.int 0)))
 .nil))
noncomputable abbrev DZ:S:=
 (.cons (.ret (.bin .Mod (.bin .Add (.bin .Add (.bin .Mult (.var 0) (.con (.int 48271))) (.bin .Mult (.bin .Mult (.var 1) (.var 1)) (.con (.int 69621)))) (.con (.int 5))) (.con (.int 2147483647))))
 .nil)
noncomputable abbrev D0:S:=
 (.cons (.ret (.ix (.lst (.acons (.con (.int 0)) (.acons (.bin .Mod (.bin .FloorDiv (.var 0) (.con (.int 5))) (.con (.int 7))) (.acons (.bin .Mod (.bin .FloorDiv (.var 0) (.con (.int 5))) (.con (.int 31))) (.acons (.bin .Mod (.bin .FloorDiv (.var 0) (.con (.int 5))) (.con (.int 400))) (.acons (.bin .Mod (.bin .Mult (.var 0) (.var 0)) (.bin .Pow (.con (.int 10)) (.con (.int 9)))) .anil)))))) (.bin .Mod (.var 0) (.con (.int 5)))))
 .nil)
noncomputable abbrev D1:S:=
 (.cons (.asg (.one 4) (.call 29 (.acons (.var 0) (.acons (.bin .Add (.bin .Mult (.con (.int 3)) (.var 3)) (.con (.int 1))) .anil))))
 (.cons (.asg (.one 5) (.call 30 (.acons (.bin .FloorDiv (.var 4) (.con (.int 7))) .anil)))
 (.cons (.asg (.one 6) (.call 30 (.acons (.bin .FloorDiv (.var 4) (.con (.int 11))) .anil)))
 (.cons (.app 2 (.tup (.acons (.bin .Add (.con (.str "p")) (.ix (.con (.str "abcdefgh")) (.var 3))) (.acons (.ix (.con (.str "stb")) (.bin .Mod (.var 4) (.con (.int 3)))) (.acons (.ix (.lst (.acons (.con (.int 0)) (.acons (.var 5) .anil))) (.bt .int (.acons (.cmp .Gt (.bin .Mod (.var 4) (.con (.int 4))) (.con (.int 0))) .anil))) (.acons (.ix (.lst (.acons (.con (.int 0)) (.acons (.var 6) .anil))) (.bt .int (.acons (.cmp .Gt (.bin .Mod (.bin .FloorDiv (.var 4) (.con (.int 3))) (.con (.int 4))) (.con (.int 0))) .anil))) .anil))))))
 .nil))))
noncomputable abbrev D2:S:=
 (.cons (.asgO 2 (.lst .anil))
 (.cons (.forS (.one 3) (.rng (.var 1)) D1)
 (.cons (.ret (.bt .tuple (.acons (.rd 2) .anil)))
 .nil)))
noncomputable abbrev D3:E:=
 (.cmp .Eq (.bin .Mod (.bin .FloorDiv (.var 1) (.ix (.lst (.acons (.con (.int 8)) (.acons (.con (.int 16)) (.acons (.con (.int 32)) (.acons (.con (.int 64)) (.acons (.con (.int 128)) (.acons (.con (.int 256)) (.acons (.con (.int 512)) (.acons (.con (.int 1024)) .anil))))))))) (.var 0))) (.con (.int 2))) (.con (.int 1)))
noncomputable abbrev D4:E:=
 (.var 0)
noncomputable abbrev vW:S:=
 (.cons (.asg (.one 5) (.call 29 (.acons (.var 4) (.acons (.var 3) .anil))))
 (.cons (.asgO 6 (.comp 1 [5] (.one 0) D4 (.rng (.var 1)) D3))
 (.cons (.ite (.cmp .Gt (.bin .Mod (.var 5) (.con (.int 3))) (.con (.int 0)))
 (.cons (.asgO 6 (.sl (.rd 6) .omit (.bin .Add (.con (.int 1)) (.bin .Mod (.bin .FloorDiv (.var 5) (.con (.int 2048))) (.con (.int 2))))))
 .nil)
 .nil)
 (.cons (.ite (.cmp .Eq (.bin .Mod (.bin .FloorDiv (.var 5) (.con (.int 4096))) (.con (.int 2))) (.con (.int 1)))
 (.cons (.rev 6)
 .nil)
 .nil)
 (.cons (.asg (.one 7) (.bin .Add (.con (.str "s")) (.ix (.con (.str "abcdefghijklmnopqrstuvwx")) (.var 3))))
 (.cons (.app 2 (.tup (.acons (.var 7) (.acons (.call 30 (.acons (.bin .FloorDiv (.var 5) (.con (.int 8192))) .anil)) (.acons (.call 30 (.acons (.bin .FloorDiv (.var 5) (.con (.int 64))) .anil)) (.acons (.bt .tuple (.acons (.rd 6) .anil)) .anil))))))
 .nil))))))
noncomputable abbrev D5:S:=
 (.cons (.asgO 2 (.lst .anil))
 (.cons (.forS (.many [3,4]) (.enum (.var 0)) vW)
 (.cons (.ret (.bt .tuple (.acons (.rd 2) .anil)))
 .nil)))
noncomputable abbrev vY:S:=
 (.cons (.asg (.one 4) (.call 29 (.acons (.var 0) (.acons (.bin .Add (.bin .Mult (.con (.int 5)) (.var 3)) (.con (.int 2))) .anil))))
 (.cons (.asg (.one 5) (.ix (.lst (.acons (.con (.str "s")) (.acons (.con (.str "t")) (.acons (.con (.str "st")) (.acons (.con (.str "tb")) (.acons (.con (.str "stb")) (.acons (.con (.str "bts")) (.acons (.con (.str "bs")) (.acons (.con (.str "")) .anil))))))))) (.bin .Mod (.var 4) (.con (.int 8)))))
 (.cons (.asg (.one 6) (.ix (.lst (.acons (.con (.int 0)) (.acons (.bin .Mod (.bin .FloorDiv (.var 4) (.con (.int 8))) (.con (.int 5))) (.acons (.bin .Mod (.bin .FloorDiv (.var 4) (.con (.int 8))) (.con (.int 100))) (.acons (.bin .Mod (.bin .Mult (.var 4) (.var 4)) (.bin .Pow (.con (.int 10)) (.con (.int 9)))) .anil))))) (.bin .Mod (.bin .FloorDiv (.var 4) (.con (.int 3))) (.con (.int 4)))))
 (.cons (.app 2 (.tup (.acons (.bin .Add (.con (.str "x")) (.ix (.con (.str "abcdef")) (.var 3))) (.acons (.var 5) (.acons (.var 6) .anil)))))
 .nil))))
noncomputable abbrev D6:S:=
 (.cons (.asgO 2 (.lst .anil))
 (.cons (.forS (.one 3) (.rng (.var 1)) vY)
 (.cons (.ret (.bt .tuple (.acons (.rd 2) .anil)))
 .nil)))
noncomputable abbrev qR:S:=
 (.cons (.asg (.one 6) (.call 29 (.acons (.var 0) (.acons (.bin .Add (.bin .Mult (.con (.int 8)) (.var 4)) (.var 5)) .anil))))
 (.cons (.ite (.cmp .Eq (.bin .Mod (.var 6) (.con (.int 3))) (.con (.int 1)))
 (.cons (.app 3 (.tup (.acons (.var 4) (.acons (.var 5) (.acons (.ix (.lst (.acons (.bin .Mod (.bin .FloorDiv (.var 6) (.con (.int 3))) (.con (.int 4))) (.acons (.bin .Mod (.bin .FloorDiv (.var 6) (.con (.int 3))) (.con (.int 50))) (.acons (.bin .Mod (.bin .Mult (.var 6) (.var 6)) (.bin .Pow (.con (.int 10)) (.con (.int 9)))) .anil)))) (.bin .Mod (.bin .FloorDiv (.var 6) (.con (.int 5))) (.con (.int 3)))) .anil)))))
 .nil)
 .nil)
 .nil))
noncomputable abbrev vZ:S:=
 (.cons (.forS (.one 5) (.rng (.var 2)) qR)
 .nil)
noncomputable abbrev D7:S:=
 (.cons (.asgO 3 (.lst .anil))
 (.cons (.forS (.one 4) (.rng (.var 1)) vZ)
 (.cons (.ret (.bt .tuple (.acons (.rd 3) .anil)))
 .nil)))
noncomputable abbrev D8:S:=
 (.cons (.asg (.one 4) (.call 31 (.acons (.call 28 (.acons (.var 0) (.acons (.con (.int 1)) .anil))) (.acons (.var 1) .anil))))
 (.cons (.asg (.one 5) (.sl (.var 0) (.con (.int 6)) (.bin .Add (.con (.int 6)) (.var 3))))
 (.cons (.asg (.one 6) (.call 33 (.acons (.call 28 (.acons (.var 0) (.acons (.con (.int 2)) .anil))) (.acons (.var 2) .anil))))
 (.cons (.ret (.tup (.acons (.var 4) (.acons (.var 6) (.acons (.call 32 (.acons (.var 5) (.acons (.var 1) .anil))) (.acons (.call 34 (.acons (.call 28 (.acons (.var 0) (.acons (.con (.int 3)) .anil))) (.acons (.var 2) (.acons (.var 1) .anil)))) (.acons (.tup .anil) .anil)))))))
 .nil))))
noncomputable abbrev D9:S:=
 (.cons (.ite (.and (.cmp .In (.var 8) (.ix (.var 6) (.con (.int 3)))) (.and (.cmp .In (.var 7) (.rd 5)) (.cmp .Lt (.bin .Sub (.var 4) (.ix (.rd 5) (.var 7))) (.bin .Add (.ix (.ix (.var 0) (.var 7)) (.con (.int 2))) (.ix (.ix (.var 0) (.var 8)) (.con (.int 3)))))))
 (.cons (.ret (.con (.bl true)))
 .nil)
 .nil)
 .nil)
noncomputable abbrev D_:S:=
 (.cons (.ite (.cmp .In (.var 7) (.ix (.var 6) (.con (.int 3))))
 (.cons (.dput 5 (.var 7) (.var 4))
 .nil)
 .nil)
 .nil)
noncomputable abbrev Da:S:=
 (.cons (.ite (.and (.cmp .In (.var 2) (.ix (.var 6) (.con (.int 3)))) (.cmp .In (.var 3) (.ix (.var 6) (.con (.int 3)))))
 (.cons (.ret (.con (.bl true)))
 .nil)
 .nil)
 (.cons (.forS (.many [7,8]) (.seq (.lst (.acons (.tup (.acons (.var 2) (.acons (.var 3) .anil))) (.acons (.tup (.acons (.var 3) (.acons (.var 2) .anil))) .anil)))) D9)
 (.cons (.asg (.one 4) (.bin .Add (.var 4) (.ix (.var 6) (.con (.int 1)))))
 (.cons (.forS (.one 7) (.seq (.tup (.acons (.var 2) (.acons (.var 3) .anil)))) D_)
 (.cons (.asg (.one 4) (.bin .Add (.var 4) (.ix (.var 6) (.con (.int 2)))))
 .nil)))))
noncomputable abbrev Dc:S:=
 (.cons (.asg (.one 4) (.con (.int 0)))
 (.cons (.newD 5)
 (.cons (.forS (.one 6) (.seq (.var 1)) Da)
 (.cons (.ret (.con (.bl false)))
 .nil))))
noncomputable abbrev Dd:E:=
 (.call 36 (.acons (.ix (.var 2) (.con (.int 0))) (.acons (.ix (.var 2) (.con (.int 2))) (.acons (.var 0) (.acons (.var 1) .anil)))))
noncomputable abbrev De:E:=
 (.tup (.acons (.var 0) (.acons (.var 1) .anil)))
noncomputable abbrev Dg:S:=
 (.cons (.asg (.one 1) (.bin .Add (.var 1) (.comp 1 [2,0] (.one 0) De (.rng (.var 2)) Dd)))
 .nil)
noncomputable abbrev Dh:S:=
 (.cons (.asg (.one 1) (.lst .anil))
 (.cons (.forS (.one 2) (.rng (.bt .len (.acons (.ix (.var 0) (.con (.int 0))) .anil))) Dg)
 (.cons (.ret (.var 1))
 .nil)))
noncomputable abbrev qS:S:=
 (.cons (.ite (.or (.cmp .Is (.var 4) (.con .non)) (.cmp .NotIn (.ix (.ix (.ix (.var 0) (.con (.int 0))) (.var 3)) (.con (.int 1))) (.ix (.ix (.ix (.var 0) (.con (.int 1))) (.var 4)) (.con (.int 1)))))
 (.cons (.ret (.con (.bl false)))
 .nil)
 .nil)
 .nil)
noncomputable abbrev qT:S:=
 (.cons (.ite (.cmp .Eq (.ix (.var 2) (.var 5)) (.ix (.var 2) (.var 6)))
 (.cons (.ret (.con (.bl false)))
 .nil)
 .nil)
 .nil)
noncomputable abbrev Di:S:=
 (.cons (.forS (.many [3,4]) (.enum (.var 2)) qS)
 (.cons (.forS (.many [5,6]) (.seq (.var 1)) qT)
 (.cons (.ret (.con (.bl true)))
 .nil)))
noncomputable abbrev Dj:S:=
 (.cons (.asg (.one 3) (.call 15 (.acons (.var 0) (.acons (.bt .list (.acons (.var 1) .anil)) .anil))))
 (.cons (.ite (.or (.not (.isi (.var 3) .int)) (.or (.isi (.var 3) .bool) (.not (.chain .LtE .Lt (.con (.int 0)) (.var 3) (.var 2)))))
 (.cons (.ret (.con (.bl false)))
 .nil)
 .nil)
 (.cons (.ret (.cmp .Eq (.call 14 (.acons (.var 0) (.acons (.var 3) .anil))) (.var 1)))
 .nil)))
noncomputable abbrev wA:E:=
 (.chain .LtE .Lt (.con (.int 0)) (.var 0) (.var 1))
noncomputable abbrev wB:E:=
 (.var 0)
noncomputable abbrev Dk:S:=
 (.cons (.asg (.one 10) (.call 14 (.acons (.var 3) (.acons (.var 9) .anil))))
 (.cons (.ite (.or (.not (.isi (.var 10) .list)) (.or (.cmp .NotEq (.bt .len (.acons (.var 10) .anil)) (.var 1)) (.not (.call 38 (.acons (.var 3) (.acons (.var 4) (.acons (.var 10) .anil)))))))
 (.cons (.ret (.con (.bl false)))
 .nil)
 .nil)
 (.cons (.ite (.cmp .NotEq (.call 15 (.acons (.var 3) (.acons (.var 10) .anil))) (.var 9))
 (.cons (.ret (.con (.bl false)))
 .nil)
 .nil)
 (.cons (.ite (.and (.cmp .IsNot (.var 7) (.con .non)) (.and (.cmp .Gt (.var 9) (.ix (.var 7) (.con (.int 0)))) (.not (.cmp .Lt (.ix (.var 7) (.con (.int 1))) (.var 10)))))
 (.cons (.ret (.con (.bl false)))
 .nil)
 .nil)
 (.cons (.asg (.one 7) (.tup (.acons (.var 9) (.acons (.var 10) .anil))))
 .nil)))))
noncomputable abbrev wC:E:=
 (.bin .Mod (.bin .FloorDiv (.call 29 (.acons (.var 2) (.acons (.bin .Add (.bin .Mult (.con (.int 7)) (.var 3)) (.var 0)) .anil))) (.con (.int 3))) (.var 1))
noncomputable abbrev qU:S:=
 (.cons (.asg (.one 11) (.comp 1 [2,6,9] (.one 0) wC (.rng (.var 1)) (.con (.bl true))))
 (.cons (.ite (.and (.cmp .Gt (.bin .Mod (.var 9) (.con (.int 3))) (.con (.int 0))) (.cmp .IsNot (.var 7) (.con .non)))
 (.cons (.asg (.one 12) (.bin .Mod (.var 9) (.bt .max (.acons (.con (.int 1)) (.acons (.var 1) .anil)))))
 (.cons (.asg (.one 11) (.bin .Add (.sl (.ix (.var 7) (.con (.int 1))) .omit (.var 12)) (.sl (.var 11) (.var 12) .omit)))
 .nil))
 .nil)
 (.cons (.ite (.and (.call 38 (.acons (.var 3) (.acons (.var 4) (.acons (.var 11) .anil)))) (.not (.call 39 (.acons (.var 3) (.acons (.var 11) (.acons (.var 5) .anil))))))
 (.cons (.ret (.con (.bl false)))
 .nil)
 .nil)
 .nil)))
noncomputable abbrev wD:S:=
 (.cons (.asg (.one 1) (.bin .Mod (.call 28 (.acons (.var 0) (.acons (.con (.int 0)) .anil))) (.con (.int 6))))
 (.cons (.asg (.one 2) (.bin .Mod (.bin .FloorDiv (.call 28 (.acons (.var 0) (.acons (.con (.int 0)) .anil))) (.con (.int 6))) (.con (.int 4))))
 (.cons (.asg (.one 3) (.call 35 (.acons (.var 0) (.acons (.var 1) (.acons (.var 2) (.acons (.con (.int 14)) .anil))))))
 (.cons (.asg (.one 4) (.call 37 (.acons (.var 3) .anil)))
 (.cons (.asg (.one 5) (.call 12 (.acons (.var 3) .anil)))
 (.cons (.ite (.or (.isi (.var 5) .bool) (.or (.cmp .Lt (.var 5) (.con (.int 0))) (.cmp .NotEq (.cmp .Eq (.var 5) (.con (.int 0))) (.cmp .Is (.call 24 (.acons (.var 3) (.acons (.call 27 (.acons (.var 3) .anil)) .anil))) (.con .non)))))
 (.cons (.ret (.con (.bl false)))
 .nil)
 .nil)
 (.cons (.asg (.one 6) (.call 28 (.acons (.var 0) (.acons (.con (.int 4)) .anil))))
 (.cons (.asg (.one 7) (.con .non))
 (.cons (.asg (.one 8) (.bin .Mod (.var 6) (.bt .max (.acons (.con (.int 1)) (.acons (.var 5) .anil)))))
 (.cons (.forS (.one 9) (.seq (.comp 1 [5] (.one 0) wB (.seq (.lst (.acons (.con (.int 0)) (.acons (.var 8) (.acons (.bin .Add (.var 8) (.con (.int 1))) (.acons (.bin .Sub (.var 5) (.con (.int 1))) .anil)))))) wA)) Dk)
 (.cons (.forS (.one 9) (.rng (.bin .Mult (.con (.int 8)) (.bt .int (.acons (.cmp .Gt (.var 2) (.con (.int 0))) .anil)))) qU)
 (.cons (.asg (.one 13) (.tup (.acons (.ix (.var 3) (.con (.int 0))) (.acons (.ix (.var 3) (.con (.int 1))) (.acons (.bin .Add (.ix (.var 3) (.con (.int 2))) (.tup (.acons (.tup (.acons (.con (.str "zz")) (.acons (.con (.int 5)) (.acons (.con (.int 5)) (.acons (.tup .anil) .anil))))) .anil))) (.acons (.ix (.var 3) (.con (.int 3))) (.acons (.ix (.var 3) (.con (.int 4))) .anil)))))))
 (.cons (.ret (.cmp .Eq (.call 12 (.acons (.var 13) .anil)) (.var 5)))
 .nil)))))))))))))
noncomputable abbrev qV:E:=
 (.bt .len (.acons (.ix (.var 1) (.glob 0)) .anil))
noncomputable abbrev qW:E:=
 (.call 5 (.acons (.var 1) .anil))
noncomputable abbrev Dl:S:=.nil
noncomputable abbrev Dm:Told:={b:=.nil,c := "", yes:=.non,thr:=.non,ini2:=some (qV,qW) }
noncomputable abbrev Dn:S:=
 (.cons (.app 4 (.ife (.cmp .In (.tup (.acons (.var 3) (.acons (.var 5) .anil))) (.cnt .clashes (.var 0) .anil)) (.call 11 (.acons (.var 6) (.acons (.var 2) .anil))) (.var 6)))
 .nil)
noncomputable abbrev Do:S:=
 (.cons (.asg (.one 3) (.bin .Sub (.cnt .parts (.var 0) .anil) (.bt .len (.acons (.var 1) .anil))))
 (.cons (.asgO 4 (.lst .anil))
 (.cons (.forS (.many [5,6]) (.enumS (.sl (.var 1) (.con (.int 1)) .omit) (.bin .Add (.var 3) (.con (.int 1)))) Dn)
 (.cons (.ret (.bt .tuple (.acons (.rd 4) .anil)))
 .nil))))
noncomputable abbrev wF:E:=
 (.cnt (.meth 43 "many") (.var 1) (.acons (.cnt (.meth 42 "behind") (.var 1) (.acons (.var 2) (.acons (.var 0) .anil))) .anil))
noncomputable abbrev nZ:E:=
 (.bt .sum (.acons (.comp 1 [0,1] (.one 0) wF (.seq (.ix (.var 1) (.con (.int 0)))) (.con (.bl true))) .anil))
noncomputable abbrev Dp:S:=.nil
noncomputable abbrev Dq:Told:={b:=.nil,c := "", yes:=.non,thr:=.non,mem:=some nZ}
noncomputable def T:Tab:=⟨λg=>match g with|0=>(.int 0)|1=>(.int 1)|2=>(.int 2)|3=>(.int 3)|_=>.non,λf=>f==5||f==8||f==14||f==20||f==23,λf=>match f with|41=>some 2000|_=>none⟩
noncomputable def dfs:List Df:=[⟨4,3,CY,none⟩,⟨3,3,CZ,none⟩,⟨7,4,C1,none⟩,⟨5,4,C2,none⟩,⟨5,3,C4,none⟩,⟨4,1,C8,none⟩,⟨3,3,C9,none⟩,⟨3,3,C_,none⟩,⟨3,2,Cf,none⟩,⟨2,2,Cg,none⟩,⟨4,1,Cm,none⟩,⟨2,2,Cp,none⟩,⟨1,1,Cq,none⟩,⟨6,3,Cs,none⟩,⟨7,2,Ct,none⟩,⟨7,2,Cy,none⟩,⟨3,3,DA,none⟩,⟨6,4,DE,none⟩,⟨5,3,DG,none⟩,⟨2,2,DJ,none⟩,⟨3,3,DL,none⟩,⟨2,1,DM,none⟩,⟨12,5,DO,none⟩,⟨5,2,DQ,none⟩,⟨2,2,DR,none⟩,⟨4,3,DS,none⟩,⟨2,2,DU,none⟩,⟨3,1,DX,none⟩,⟨2,2,DY,none⟩,⟨2,2,DZ,none⟩,⟨1,1,D0,none⟩,⟨7,2,D2,none⟩,⟨8,2,D5,none⟩,⟨7,2,D6,none⟩,⟨7,3,D7,none⟩,⟨7,4,D8,none⟩,⟨9,4,Dc,none⟩,⟨3,1,Dh,none⟩,⟨7,3,Di,none⟩,⟨4,3,Dj,none⟩,⟨14,1,wD,none⟩,⟨2,2,Dl,(some Dm)⟩,⟨7,3,Do,none⟩,⟨2,2,Dp,(some Dq)⟩]
variable{d:D}{cl:List (Int×Int)}{kss r:List (List Int)}{ps:List (Nat×Nat)}{hs rs:List D}{ks:List Int}{l w ws:List Nat}{S0:List Nat->Prop}{P:List Part}{Q:List Player}{ss:List Scene}{j m n p q:Nat}{e:Nv}{c:Nv->Res Bool}{f:Nv->Res Out}{L W:Wd}
section
local macro_rules | `(tactic| w_up) => `(tactic| first | (with_reducible assumption) | rfl)
local macro_rules | `(tactic| x_go) => `(tactic| with_reducible (first | show aA _ _ _ _ _ = _ | show bR _ _ = _ | show aO _ _ _ = _ | show eE _ _ _ _ = _ | show (_ : Nat) ≤ _ | show (_ : Nat) < _))
local macro_rules | `(tactic| kd_p) => `(tactic| first | with_reducible (first | assumption | exact Bh | exact LI | exact cmp_lt | exact cmp_gt | exact cmp_le | exact cmp_ge | exact LF | exact LG | exact LD | exact uP | exact LL | exact LM | exact cmp_is | exact LJ) | ((with_reducible (first | apply lP | apply uN | apply hU | apply uM)); (first | decide | lia)) | (x_go; lia) | ((fail_if_success x_go); rfl))
local macro_rules | `(tactic| lk) => `(tactic| repeat' (first | (with_reducible first | (show evE _ _ _ _ = _; assumption) | exact v_con | apply v_var | exact a_nil | apply a_cons | apply v_call | apply v_bin | apply v_cmp | apply v_ix | apply v_glob | apply v_rd | apply v_tup | apply v_lst | apply v_and | apply v_or | apply v_not | apply v_ife | apply v_bt | exact v_omit | apply v_sl | apply v_comp | apply v_isi | apply v_neg | apply LR | apply v_lrng | apply LW | apply LX | apply v_cfld | apply LY | apply v_dlit | apply v_trng | apply v_getV | apply LS | exact s_newT | apply LU | apply i_seqV | apply i_rngV | apply LZ | apply L3 | apply s_nil' | apply fD | apply fE | exact t_rt | exact t_bk | apply s_asg | apply s_ret | apply s_ite | apply s_app | apply s_asgO | apply Bp | apply s_retO | apply s_aug | apply s_ext | apply s_dput | apply s_rev | exact s_newD | exact s_brk | apply s_whl | apply s_exp | apply Bq | apply w_test | apply c_t | apply c_f) | ((with_reducible apply iteB_t); (focus w_up)) | ((with_reducible apply iteB_f); (focus w_up)) | (show _ = _; kd_p) | (show (_ : Nat) ≤ _; kd_p) | (show (_ : Nat) < _; kd_p)))
theorem oA(n:Nat)(ns:List Int)(k:Nat):aA T dfs (n+1) 28 [.lst (ns.map D.int),.int k]=.ok (.int (bO ns k)):=by
 unfold bO
 refine aT (k:=false) rfl rfl rfl ?_
 have hl:Bt.run .len [.lst (ns.map D.int)]=.ok (.int (ns.length:Nat)):=by rw[uP,aI]
 by_cases h:k<ns.length
 ·have hi:=ix_l (show(ns.map D.int)[k]?=some (.int (ns.getD k 0)) by simp[h])
  have c:decide ((k:Int)<(ns.length:Int))=true:=decide_eq_true (by lia)
  lk
 ·have c:decide ((k:Int)<(ns.length:Int))=false:=decide_eq_false (by lia)
  rw[show ns.getD k 0=0 by simp[jR (Nm h)]]
  lk
theorem oB(n:Nat)(c k:Int)(hk:-1000<=k/\k<=1000):aA T dfs (n+1) 29 [.int c,.int k]=.ok (.int (eJ c k)):=by
 refine aT (k:=false) rfl rfl rfl ?_
 have m1:=hU (j:=k) (show -(2^64)<k/\k<2^64 by lia)
 have m2:=uM (i:=c) (show -(2^64)<(48271:Int)/\(48271:Int)<2^64 by decide)
 have m3:=uM (i:=k*k) (show -(2^64)<(69621:Int)/\(69621:Int)<2^64 by decide)
 unfold eJ
 lk
theorem qX(n:Nat)(m:Int)(hm:-(2^64)<m/\m<2^64):aA T dfs (n+1) 30 [.int m]=.ok (.int (fQ m)):=by
 refine aT (k:=false) rfl rfl rfl ?_
 have h:D.ix (.lst [.int 0,.int (m/5%7),.int (m/5%31),.int (m/5%400),.int (m*m%1000000000)]) (.int (m%5))=.ok (.int (fQ m)):=by
  unfold fQ
  rcases five m with h|h|h|h|h<;>rw[h]<;>rfl
 have m1:=hU (j:=m) hm
 have p9:=uO
 lk
theorem parts(n:Nat)(c:Int)(many:Nat)(hm:many<=8):∃ps:List Part,ps.length=many/\(∀p∈ps,(0<=p.off/\0<=p.on)/\(bP p.voice).length=1)/\aA T dfs (n+2) 31 [.int c,.int many]=.ok (.tup (ps.map Part.enc)):=by
 obtain⟨e',h1,ps,s3,s4,s5,s6,rfl,hl,hp⟩:=qL (f:=aV T (aA T dfs (n+1)) (.one 3) D1)
  (λi e=>∃(ps:List Part)(s3 s4 s5 s6:Sl),e=[.v (.int c),.v (.int many),.o (.lst (ps.map Part.enc)),s3,s4,s5,s6]/\ps.length=i/\∀p∈ps,(0<=p.off/\0<=p.on)/\(bP p.voice).length=1)
  (bQ 0 many) [.v (.int c),.v (.int many),.o (.lst []),.no,.no,.no,.no] 0 ⟨[],.no,.no,.no,.no,rfl,rfl,by simp⟩ (by
   rintro i d e hd ⟨ps,s3,s4,s5,s6,rfl,hl,hp⟩
   obtain⟨hi,rfl⟩:=LP hd
   have lo:=qM c (3*(i:Int)+1)
   have hiM:=qN c (3*(i:Int)+1)
   have m1:=oB n c (3*(i:Int)+1) (by lia)
   have b3:D.bin .Mult (.int 3) (.int (i:Int))=.ok (.int (3*(i:Int))):=hU (by decide)
   generalize eJ c (3*(i:Int)+1)=M at *
   obtain⟨y1,ey1,ly1⟩:=ix_str (x:=("abcdefgh" : Str)) (i:=i) (by rw[L5];lia) (by decide +kernel)
   obtain⟨y2,ey2,ly2⟩:=L4 (x:=("stb" : Str)) (i:=M%3) (by lia) (by rw[L6];lia) (by decide +kernel)
   have hb:(ps.map Part.enc).length<big:=by have:=bZ;rw[aI];lia
   have m2:=qX n (M/7) (by lia)
   have m3:=qX n (M/11) (by lia)
   have a1:=add_str (show("p" : Str).length+y1.length<=big by rw[ly1];decide +kernel)
   have i1:=ix2i (a:=0) (b:=fQ (M/7)) (c:=decide (0<M%4))
   have i2:=ix2i (a:=0) (b:=fQ (M/11)) (c:=decide (0<M/3%4))
   refine⟨_,.inl (by rw[jT];lk),ps++[⟨("p" : Str)++y1,y2,if decide (0<M%4)=true then fQ (M/7)else 0,if decide (0<M/3%4)=true then fQ (M/11)else 0⟩],_,_,_,_,(by rw[cU];rfl),by simp[hl],?_⟩
   intro p hq
   rcases eO.mp hq with q|q
   ·exact hp p q
   ·rw[dE.mp q]
    refine⟨?_,by dsimp only;rw[<-Lj];exact ly2⟩
    refine⟨?_,?_⟩<;>dsimp only<;>split<;>first|exact uW _|exact FP 0)
 refine⟨ps,by simpa using hl,hp,?_⟩
 refine aT (k:=false) rfl rfl rfl ?_
 have hr:kF (.int (many:Int))=.ok (bQ 0 many):=Be (by lia)
 lk
theorem nums(n:Nat)(m:Int)(many:Nat)(hm:many<=8) :
 bR (bS T (aA T dfs n) (.one 0) D4 D3 [.no,.v (.int m)]) ((aC many).map aB)=.ok (bH ((aC many).filter λk=>m/2^(k+3)%2==1)):=by
 rw[eL aB (λk=>if(m/2^(k+3)%2==1)=true then some (aB k)else none) (by
  intro k hk
  have hk:=cF.mp hk
  unfold aB
  have e8:k=0\/k=1\/k=2\/k=3\/k=4\/k=5\/k=6\/k=7:=by lia
  have h:D.ix (.lst [.int 8,.int 16,.int 32,.int 64,.int 128,.int 256,.int 512,.int 1024]) (.int (k:Int))=.ok (.int (2^(k+3))):=by
   rcases e8 with rfl|rfl|rfl|rfl|rfl|rfl|rfl|rfl<;>rfl
  have hd:=uN (i:=m) (j:=2^(k+3)) (by rcases e8 with rfl|rfl|rfl|rfl|rfl|rfl|rfl|rfl<;>decide)
  cases hc:m/2^(k+3)%2==1 with
  |true=>rw[if_pos rfl];lk
  |false=>rw[if_neg aJ];lk)]
 unfold bH
 rw[<-List.filterMap_eq_map,List.filterMap_filter];rfl
theorem scenes(n:Nat)(cells:List Int)(hc:cells.length<=24)(many:Nat)(hm:many<=8):∃ss:List Scene,ss.length=cells.length/\(∀s∈ss,GoodScene many s)/\aA T dfs (n+2) 32 [.lst (cells.map D.int),.int many]=.ok (.tup (ss.map Scene.enc)):=by
 obtain⟨e',h1,ps,s3,s4,s5,s6,s7,rfl,hl,hp⟩:=qL (f:=aV T (aA T dfs (n+1)) (.many [3,4]) vW)
  (λi e=>∃(ps:List Scene)(s3 s4 s5 s6 s7:Sl),e=[.v (.lst (cells.map D.int)),.v (.int many),.o (.lst (ps.map Scene.enc)),s3,s4,s5,s6,s7]/\ps.length=i/\∀s∈ps,GoodScene many s)
  (bJ 0 (cells.map D.int)) [.v (.lst (cells.map D.int)),.v (.int many),.o (.lst []),.no,.no,.no,.no,.no] 0 ⟨[],.no,.no,.no,.no,.no,rfl,rfl,by simp⟩ (by
   rintro i d e hd ⟨ps,s3,s4,s5,s6,s7,rfl,hl,hp⟩
   obtain⟨x,hx,rfl⟩:=Bo hd
   rw[bX]at hx
   cases hc1:cells[i]? with
   |none=>rw[hc1]at hx;cases hx
   |some c=>
   rw[hc1]at hx
   cases hx
   have hi:i<cells.length:=(cT.mp hc1).1
   have lo:=qM c (i:Int)
   have hiM:=qN c (i:Int)
   obtain⟨y1,ey1,ly1⟩:=ix_str (x:=("abcdefghijklmnopqrstuvwx" : Str)) (i:=i) (by rw[L7];lia) (by decide +kernel)
   have hb:(ps.map Scene.enc).length<big:=by have:=bZ;rw[aI];lia
   have m1:=oB n c (i:Int) (by lia)
   generalize eJ c (i:Int)=M at *
   have m2:=qX n (M/8192) (by lia)
   have m3:=qX n (M/64) (by lia)
   have l1:=add_str (show("s" : Str).length+y1.length<=big by rw[ly1];decide +kernel)
   have hr:=fF (n:=many) (by lia)
   have hbm:((aC many).map aB).length<=big:=by have:=bZ;rw[aI,dR];lia
   obtain⟨k,hk⟩:∃k:Nat,1+M/2048%2=(k:Int):=⟨(1+M/2048%2).toNat,by lia⟩
   have cutN:∀ws:List Nat,D.sl (.lst (bH ws)) none (some (1+M/2048%2))=.ok (.lst (bH (ws.take k))):=by
    intro ws
    rw[hk]
    show Res.ok (D.lst (cut (bH ws) none (some (k:Int))))=_
    unfold cut sIx
    simp only[]
    rw[if_neg (by lia),L8]
    unfold bH
    simp only[rL,xC,eY,<-FQ]
    by_cases q:k<=ws.length
    ·rw[rO q]
    ·rw[Nat.min_eq_right (by lia),lZ (aK _),lZ (by lia)]
   have revN:∀ws:List Nat,(bH ws).reverse=bH ws.reverse:=λws=>by unfold bH;rw[List.map_reverse]
   have hn:=nums (n+1) M many hm
   have nd:((aC many).filter (λk=>M/2^(k+3)%2==1)).Nodup:=List.nodup_range.filter _
   have lt:∀j∈(aC many).filter (λk=>M/2^(k+3)%2==1),j<many:=λj hj=>by simpa using(cB.mp hj).1
   generalize (aC many).filter (λk=>M/2^(k+3)%2==1)=W at *
   have ev0:∃(ws:List Nat),ws.Nodup/\(∀j∈ws,j<many)/\∃t3 t4 t5 t6 t7,aV T (aA T dfs (n+1)) (.many [3,4]) vW (.tup [.int (i:Int),.int c]) [.v (.lst (cells.map D.int)),.v (.int many),.o (.lst (ps.map Scene.enc)),s3,s4,s5,s6,s7] =
    .ok (.nx [.v (.lst (cells.map D.int)),.v (.int many),.o (.lst (ps.map Scene.enc++[Scene.enc ⟨("s" : Str)++y1,fQ (M/8192),fQ (M/64),ws⟩])),t3,t4,t5,t6,t7]):=by
    have W1:=cutN W
    have e3:Bt.run .tuple [.lst (bH W).reverse]=.ok (.tup (bH W.reverse)):=by rw[revN];rfl
    have e4:Bt.run .tuple [.lst (bH (W.take k)).reverse]=.ok (.tup (bH (W.take k).reverse)):=by rw[revN];rfl
    generalize ps.map Scene.enc=pd at *
    generalize cells.map D.int=cd at *
    unfold Scene.enc
    cases c1:decide (0<M%3)<;>cases c2:M/4096%2==1
    ·exact⟨W,nd,lt,_,_,_,_,_,by lk⟩
    ·exact⟨W.reverse,Br nd,λj hj=>lt j (OI.mp hj),_,_,_,_,_,by lk⟩
    ·exact⟨W.take k,nd.sublist (FA _ _),λj hj=>lt j (xF hj),_,_,_,_,_,by lk⟩
    ·exact⟨(W.take k).reverse,Br (nd.sublist (FA _ _)),λj hj=>lt j (xF (OI.mp hj)),_,_,_,_,_,by lk⟩
   obtain⟨ws,nd,lt,t3,t4,t5,t6,t7,ev0⟩:=ev0
   rw[jT]
   refine⟨_,.inl ev0,ps++[⟨("s" : Str)++y1,fQ (M/8192),fQ (M/64),ws⟩],_,_,_,_,_,(by rw[cU];rfl),by simp[hl],?_⟩
   intro s hs
   rcases eO.mp hs with q|q
   ·exact hp s q
   ·rw[dE.mp q]
    exact⟨uW _,uW _,nd,lt⟩)
 refine⟨ps,by simpa using hl,hp,?_⟩
 refine aT (k:=false) rfl rfl rfl ?_
 have en:=uL (ds:=cells.map D.int)
 lk
theorem Lu(n:Nat)(P A B C:D)(ss:List Scene)(hl:ss.length<=24)(s t:Nat)(h:s<t)(ht:t<=ss.length):aA T dfs (n+1) 0 [.tup [P,A,.tup (ss.map Scene.enc),B,C],.int s,.int t]=.ok (.int (dI ss s t)):=by
 refine aT (k:=true) rfl rfl rfl ?_
 have hs:s<ss.length:=by lia
 have e1:=uZ (aP hs)
 have e2:D.sl (.tup (ss.map Scene.enc)) (some ((s:Int)+1)) (some (t:Int))=.ok (.tup (((ss.drop (s+1)).take (t-(s+1))).map Scene.enc)):=by
  have:=cut_nn (xs:=ss.map Scene.enc) (a:=s+1) (b:=t) (by simp;lia) (by simp;lia)
  rw[FQ,List.map_drop,<-this]
  push_cast
  rfl
 have e3:∀xs:List Scene,bR (bS T (aA T dfs n) (.one 0) CW (.con (.bl true)) [.no]) (xs.map Scene.enc)=.ok (xs.map (D.int∘Scene.both)):=λxs=>by
  rw[eL Scene.enc (λx=>some (D.int (Scene.both x))) (λx _=>by unfold Scene.both Scene.enc;lk),rR];rfl
 have e5:(((ss.drop (s+1)).take (t-(s+1))).map Scene.enc).length<=big:=by have:=bZ;simp;lia
 have e7:dI ss s t=ss[s].pause+(((ss.drop (s+1)).take (t-(s+1))).map Scene.both).sum:=by unfold dI;simp[hs]
 rw[e7]
 have e3:=e3 ((ss.drop (s+1)).take (t-(s+1)))
 have e8:=uR (f:=Scene.both) (xs:=(ss.drop (s+1)).take (t-(s+1)))
 have e9:D.ix ss[s].enc (.int 2)=.ok (.int ss[s].pause):=by simp
 generalize ((ss.drop (s+1)).take (t-(s+1))).map (D.int∘Scene.both)=X at *
 generalize ((ss.drop (s+1)).take (t-(s+1))).map Scene.enc=X2 at *
 generalize ss[s].enc=se at *
 generalize ss.map Scene.enc=sd at *
 lk
theorem Lv(n:Nat)(A S B C:D)(ps:List Part)(i j:Nat)(hi:i<ps.length)(hj:j<ps.length):aA T dfs (n+1) 1 [.tup [.tup (ps.map Part.enc),A,S,B,C],.int i,.int j]=.ok (.int (hV ps i j)):=by
 refine aT (k:=true) rfl rfl rfl ?_
 have e1:=kI (aP hi)
 have e2:=kI (aP hj)
 have e3:=Bs (s:=ps[i])
 have e4:=Bu (s:=ps[j])
 rw[vH hi hj]
 generalize ps[i].enc=x at *
 generalize ps[j].enc=y at *
 generalize ps.map Part.enc=pd at *
 lk
theorem Dr(n:Nat)(A B C:D)(ps:List Part)(ss:List Scene)(hl:ss.length<=24)(s i j:Nat)(hs:s<ss.length)(hi:i<ps.length)(hj:j<ps.length) :
 aA T dfs (n+2) 2 [.tup [.tup (ps.map Part.enc),A,.tup (ss.map Scene.enc),B,C],.int s,.int i,.int j]=.ok (eK (gB ps ss s i j)):=by
 have ct:=Lv n A (.tup (ss.map Scene.enc)) B C ps i j hi hj
 have rg:=Bv (s:=s) (m:=ss.length) (by lia) (by lia)
 have tb:=λt=>Lu n (.tup (ps.map Part.enc)) A B C ss hl s t
 have ln:=gM (f:=Scene.enc) (xs:=ss)
 have ssa:=λ(t:Nat) (h:t<ss.length)=>uZ (aP h)
 have hx:D.ix (.tup [.tup (ps.map Part.enc),A,.tup (ss.map Scene.enc),B,C]) (T.glob 2)=.ok (.tup (ss.map Scene.enc)):=rfl
 generalize D.tup [.tup (ps.map Part.enc),A,.tup (ss.map Scene.enc),B,C]=BK at *
 generalize ss.map Scene.enc=sd at *
 have loop:=By (f:=aV T (aA T dfs (n+1)) (.one 5) C0) (g:=jI ps ss s i j) (ts:=dA (s+1) (ss.length-(s+1)))
  (e:=[.v BK,.v (.int s),.v (.int i),.v (.int j),.v (.int (hV ps i j)),.no,.no])
  (I:=λe=>∃s5 s6,e=[.v BK,.v (.int s),.v (.int i),.v (.int j),.v (.int (hV ps i j)),s5,s6]) ⟨_,_,rfl⟩ (by
   rintro t ht e ⟨s5,s6,rfl⟩
   have ht':s<t/\t<ss.length:=by have:=mJ.mp ht;lia
   have e1:=ssa t ht'.2
   have e2:=tb t ht'.1 (by lia)
   have e3:D.ix ss[t].enc (.int 3)=.ok (.tup (bH ss[t].who)):=by simp
   have e4:=lQ (i:=j) (ws:=ss[t].who)
   unfold jI aB
   rw[vG ht'.2]
   generalize D.tup (bH ss[t].who)=wd at *
   generalize ss[t].enc=se at *
   generalize dI ss s t=bt at *
   cases c1:decide (j∈ss[t].who)with
   |true=>
    cases c2:decide (bt<hV ps i j)with
    |true=>
     rw[if_pos ⟨of_decide_eq_true c1,of_decide_eq_true c2⟩]
     dsimp only[Rz.enc]
     lk
    |false=>
     rw[if_neg (λz=>of_decide_eq_false c2 z.2)]
     exact⟨_,by lk,_,_,rfl⟩
   |false=>
    rw[if_neg (λz=>of_decide_eq_false c1 z.1)]
    exact⟨_,by lk,_,_,rfl⟩)
 refine aT (k:=false) rfl rfl rfl ?_
 unfold gB
 cases hg:(dA (s+1) (ss.length-(s+1))).findSome? (jI ps ss s i j)with
 |some r=>
  rw[hg]at loop
  dsimp only at loop
  unfold eK
  lk
 |none=>
  rw[hg]at loop
  obtain⟨e',h1,s5,s6,rfl⟩:=loop
  unfold eK
  lk
theorem Lw(n:Nat)(A B C:D)(ps:List Part)(ss:List Scene)(hl:ss.length<=24)(s i j:Nat)(hs:s<ss.length)(hi:i<ps.length)(hj:j<ps.length) :
 aA T dfs (n+3) 3 [.tup [.tup (ps.map Part.enc),A,.tup (ss.map Scene.enc),B,C],.int s,.int i,.int j]=.ok (eK (eW ps ss i j s)):=by
 have e1:=uZ (aP hs)
 have e2:=Dr n A B C ps ss hl s i j hs hi hj
 have e3:=Dr n A B C ps ss hl s j i hs hj hi
 have e5:=enc3 (s:=ss[s])
 have e6:=lQ (i:=i) (ws:=ss[s].who)
 have e7:=lQ (i:=j) (ws:=ss[s].who)
 have hx:D.ix (.tup [.tup (ps.map Part.enc),A,.tup (ss.map Scene.enc),B,C]) (T.glob 2)=.ok (.tup (ss.map Scene.enc)):=rfl
 refine aT (k:=false) rfl rfl rfl ?_
 unfold eW
 rw[vG hs]
 generalize D.tup [.tup (ps.map Part.enc),A,.tup (ss.map Scene.enc),B,C]=BK at *
 generalize ss.map Scene.enc=sd at *
 generalize ss[s].enc=se at *
 generalize D.tup (bH ss[s].who)=wd at *
 cases c1:decide (i∈ss[s].who)<;>cases c2:decide (j∈ss[s].who)
 ·rw[if_neg λz=>of_decide_eq_false c1 z.1,if_neg (of_decide_eq_false c1),if_neg (of_decide_eq_false c2)];unfold eK;lk
 ·rw[if_neg λz=>of_decide_eq_false c1 z.1,if_neg (of_decide_eq_false c1),if_pos (of_decide_eq_true c2)];lk
 ·rw[if_neg λz=>of_decide_eq_false c2 z.2,if_pos (of_decide_eq_true c1)];lk
 ·rw[if_pos ⟨of_decide_eq_true c1,of_decide_eq_true c2⟩];dsimp only[eK,Rz.enc];lk
theorem Lx(n:Nat)(A B C:D)(ps:List Part)(ss:List Scene)(hl:ss.length<=24)(i j:Nat)(hi:i<ps.length)(hj:j<ps.length) :
 aA T dfs (n+4) 4 [.tup [.tup (ps.map Part.enc),A,.tup (ss.map Scene.enc),B,C],.int i,.int j]=.ok (eK (aZ ps ss i j)):=by
 have rg:=fF (n:=ss.length) (by lia)
 have rf:=λs hs=>Lw n A B C ps ss hl s i j hs hi hj
 have ln:=gM (f:=Scene.enc) (xs:=ss)
 have hx:D.ix (.tup [.tup (ps.map Part.enc),A,.tup (ss.map Scene.enc),B,C]) (T.glob 2)=.ok (.tup (ss.map Scene.enc)):=rfl
 generalize D.tup [.tup (ps.map Part.enc),A,.tup (ss.map Scene.enc),B,C]=BK at *
 generalize ss.map Scene.enc=sd at *
 have loop:=By (f:=aV T (aA T dfs (n+3)) (.one 3) C3) (g:=eW ps ss i j) (ts:=aC ss.length)
  (e:=[.v BK,.v (.int i),.v (.int j),.no,.no])
  (I:=λe=>∃s5 s6,e=[.v BK,.v (.int i),.v (.int j),s5,s6]) ⟨_,_,rfl⟩ (by
   rintro s ht e ⟨s5,s6,rfl⟩
   have e1:=rf s (cF.mp ht)
   unfold aB
   cases hg:eW ps ss i j s with
   |some r=>
    rw[hg]at e1
    have e2:D.isNon (eK (some r))=false:=by cases r<;>rfl
    have e3:(!D.isNon (eK (some r)))=true:=by rw[e2];rfl
    show _=Res.ok (Out.rt (eK (some r)) false)
    generalize eK (some r)=rd at *
    lk
   |none=>
    rw[hg]at e1
    unfold eK at e1
    exact⟨_,by lk,_,_,rfl⟩)
 refine aT (k:=false) rfl rfl rfl ?_
 unfold aZ
 cases hg:(aC ss.length).findSome? (eW ps ss i j)with
 |some r=>
  rw[hg]at loop
  dsimp only at loop
  unfold eK
  lk
 |none=>
  rw[hg]at loop
  obtain⟨e',h1,s5,s6,rfl⟩:=loop
  unfold eK
  lk
theorem wG(n:Nat)(A B C:D)(ps:List Part)(ss:List Scene)(hl:ss.length<=24)(hp:ps.length<=8) :
 aA T dfs (n+5) 5 [.tup [.tup (ps.map Part.enc),A,.tup (ss.map Scene.enc),B,C]]=.ok (.lst (((jJ ps.length).filter λp=>(aZ ps ss p.1 p.2).isSome).map aF)):=by
 have rg:=fF (n:=ps.length) (by lia)
 have ro:=λi j=>Lx n A B C ps ss hl i j
 have ln:=gM (f:=Part.enc) (xs:=ps)
 have hx:D.ix (.tup [.tup (ps.map Part.enc),A,.tup (ss.map Scene.enc),B,C]) (T.glob 0)=.ok (.tup (ps.map Part.enc)):=rfl
 generalize D.tup [.tup (ps.map Part.enc),A,.tup (ss.map Scene.enc),B,C]=BK at *
 generalize ps.map Part.enc=pd at *
 obtain⟨e',h1,s3,rfl⟩:=qL (f:=aV T (aA T dfs (n+4)) (.one 3) C7)
  (λi e=>∃s3,e=[.v BK,.o (.lst (((fG ps.length i).filter λp=>(aZ ps ss p.1 p.2).isSome).map aF)),.v (.int ps.length),s3])
  ((aC ps.length).map aB) [.v BK,.o (.lst []),.v (.int ps.length),.no] 0 ⟨_,rfl⟩ (by
   rintro i0 d e hd ⟨s3,rfl⟩
   rw[oO]
   rw[bX]at hd
   cases hx2:(aC ps.length)[i0]? with
   |none=>rw[hx2]at hd;cases hd
   |some i=>
   rw[hx2]at hd
   cases hd
   have hi':=cT.mp hx2
   simp at hi'
   obtain⟨hi,rfl⟩:=hi'
   have rg2:=Bv (s:=i0) (m:=ps.length) (by lia) (by lia)
   have hc:bR (bS T (aA T dfs (n+4)) (.one 0) C6 C5 [.no,.v (.int i0),.v BK]) ((dA (i0+1) (ps.length-(i0+1))).map aB) =
    .ok (((hZ ps.length i0).filter λp=>(aZ ps ss p.1 p.2).isSome).map aF):=by
    rw[eL aB (λj=>if(aZ ps ss i0 j).isSome=true then some (aF (i0,j))else none) (by
     intro j hj
     have hj':=mJ.mp hj
     have e1:=ro i0 j hi (by lia)
     have e2:=Lb (o:=aZ ps ss i0 j)
     have e3:(!D.isNon (eK (aZ ps ss i0 j)))=(aZ ps ss i0 j).isSome:=by rw[e2];cases aZ ps ss i0 j<;>rfl
     unfold aB aF
     cases hr:(aZ ps ss i0 j).isSome with
     |false=>rw[hr]at e3;rw[if_neg aJ];lk
     |true=>rw[hr]at e3;rw[if_pos rfl];lk)]
    refine congrArg Res.ok ?_
    unfold hZ
    generalize dA (i0+1) (ps.length-(i0+1))=l
    induction l with
    |nil=>rfl
    |cons j r ih=>
     rw[jO,aL,oN]
     dsimp only
     rw[ih]
     cases (aZ ps ss i0 j).isSome<;>rfl
   have b1:(((fG ps.length i0).filter λp=>(aZ ps ss p.1 p.2).isSome).map aF).length+(((hZ ps.length i0).filter λp=>(aZ ps ss p.1 p.2).isSome).map aF).length<=big:=by
    have h1:=vI ps.length i0
    have h2:(hZ ps.length i0).length<=8:=by rw[hZ,aI,OG];lia
    have h3:=iW (λp:Nat×Nat=>(aZ ps ss p.1 p.2).isSome) (fG ps.length i0)
    have h4:=iW (λp:Nat×Nat=>(aZ ps ss p.1 p.2).isSome) (hZ ps.length i0)
    have h5:i0*ps.length<=8*8:=xH (by lia) hp
    have:=bZ
    rw[aI,aI]
    lia
   have b2:((dA (i0+1) (ps.length-(i0+1))).map aB).length<=big:=by have:=bZ;simp;lia
   rw[fG,OJ,cU]
   generalize ((fG ps.length i0).filter λp=>(aZ ps ss p.1 p.2).isSome).map aF=p1 at *
   generalize ((hZ ps.length i0).filter λp=>(aZ ps ss p.1 p.2).isSome).map aF=p2 at *
   exact⟨_,.inl (by lk),_,rfl⟩)
 refine aT (k:=true) rfl rfl rfl ?_
 rw[aI,dR,oO]at h1
 unfold jJ
 lk
section
variable{cf:Nat->List D->Res D}{pd sd wd p1 p2:D}{x1 x2 x3 s7 s8:Sl}{now off on:Int}{kvs:List (Sum Int Str×D)}{one other:Int}{w:Bool}{o:Option Int}
noncomputable def jM(w:Bool)(o:Option Int)(now need:Int):Bool:=w&&(match o with|some e=>decide (now-e<need)|none=>false)
theorem Ds(h0:D.ix sd (.int 3)=.ok wd)(hw:D.cmp .In (.int other) wd=.ok (.bl w))(hk:bE kvs (.inl one)=o.map D.int)(h1:D.ix pd (.int one)=.ok p1)(h2:D.ix p1 (.int 2)=.ok (.int off))(h3:D.ix pd (.int other)=.ok p2)(h4:D.ix p2 (.int 3)=.ok (.int on)) :
 aV T cf (.many [7,8]) D9 (.tup [.int one,.int other]) [.v pd,x1,x2,x3,.v (.int now),.o (.dct kvs),.v sd,s7,s8]=if jM w o now (off+on)=true then .ok (.rt (.bl true) false)else .ok (.nx [.v pd,x1,x2,x3,.v (.int now),.o (.dct kvs),.v sd,.v (.int one),.v (.int other)]):=by
 have k1:D.cmp .In (.int one) (.dct kvs)=.ok (.bl o.isSome):=by rw[LC,Bg,Res.ok_bind,hk];cases o<;>rfl
 cases w with
 |false=>exact(show _=_ by lk).trans (if_neg (by unfold jM;exact aJ)).symm
 |true=>
  cases o with
  |none=>exact(show _=_ by lk).trans (if_neg (by unfold jM;exact aJ)).symm
  |some e=>
   have k2:D.ix (.dct kvs) (.int one)=.ok (.int e):=by rw[ix_dct,Bg,Res.ok_bind,hk];rfl
   have hh:jM true (some e) now (off+on)=decide (now-e<off+on):=rfl
   rw[hh]
   cases q:decide (now-e<off+on)with
   |true=>rw[if_pos rfl];lk
   |false=>rw[if_neg aJ];lk
theorem Dt(h0:D.ix sd (.int 3)=.ok wd)(hw:D.cmp .In (.int one) wd=.ok (.bl w))(kb:kvs.length<big) :
 aV T cf (.one 7) D_ (.int one) [.v pd,x1,x2,x3,.v (.int now),.o (.dct kvs),.v sd,s7,s8]=.ok (.nx [.v pd,x1,x2,x3,.v (.int now),.o (.dct (if w=true then dX kvs (.inl one) (.int now)else kvs)),.v sd,.v (.int one),s8]):=by
 cases w with
 |false=>rw[if_neg aJ];lk
 |true=>rw[if_pos rfl];lk
end
theorem clash(n:Nat)(ps:List Part)(ss:List Scene)(hl:ss.length<=24)(g:∀s∈ss,0<=s.len/\0<=s.pause)(i j:Nat)(hi:i<ps.length)(hj:j<ps.length) :
 aA T dfs (n+1) 36 [.tup (ps.map Part.enc),.tup (ss.map Scene.enc),.int i,.int j]=.ok (.bl (aZ ps ss i j).isSome):=by
 have pi:=kI (aP hi)
 have pj:=kI (aP hj)
 have nij:=vH hi hj
 have nji:=vH hj hi
 have po:∀p:Part,D.ix p.enc (.int 2)=.ok (.int p.off)/\D.ix p.enc (.int 3)=.ok (.int p.on):=λp=>⟨Bs,Bu⟩
 have main:∀(r t:Nat)(kvs:List (Sum Int Str×D))(s6 s7 s8:Sl),t+r=ss.length->bE kvs (.inl i)=(eX ss i t).map D.int->bE kvs (.inl j)=(eX ss j t).map D.int->kvs.length<=2*t ->
  ∃out,aO (aV T (aA T dfs n) (.one 6) Da) ((ss.drop t).map Scene.enc) [.v (.tup (ps.map Part.enc)),.v (.tup (ss.map Scene.enc)),.v (.int i),.v (.int j),.v (.int (bL ss t)),.o (.dct kvs),s6,s7,s8]=.ok out /\
   (if(dA t r).any (hit ps ss i j)=true then out=.rt (.bl true) false else ∃e,out=.nx e):=by
  intro r
  induction r with
  |zero=>
   intro t kvs s6 s7 s8 hr _ _ _
   rw[Nx (by lia)]
   exact⟨_,rfl,by simp⟩
  |succ r ih=>
   intro t kvs s6 s7 s8 hr hki hkj hkl
   have ht:t<ss.length:=by lia
   have wt:=vG ht
   have hx:=aP ht
   have e1:bL ss t+ss[t].len+ss[t].pause=bL ss (t+1):=by rw[vE hx];unfold Scene.both;lia
   have hlt:fR ss t=ss[t].len:=by unfold fR;rw[hx];rfl
   have kb:kvs.length<big:=by have:=bZ;lia
   have w0:D.ix ss[t].enc (.int 3)=.ok (.tup (bH ss[t].who)):=enc3
   have w1:D.ix ss[t].enc (.int 1)=.ok (.int ss[t].len):=enc1
   have w2:D.ix ss[t].enc (.int 2)=.ok (.int ss[t].pause):=enc2
   have wi:D.cmp .In (.int (i:Int)) (.tup (bH ss[t].who))=.ok (.bl (decide (i∈ss[t].who))):=lQ
   have wj:D.cmp .In (.int (j:Int)) (.tup (bH ss[t].who))=.ok (.bl (decide (j∈ss[t].who))):=lQ
   have hh:hit ps ss i j t=(decide (i∈ss[t].who)&&decide (j∈ss[t].who)||jM (decide (j∈ss[t].who)) (eX ss i t) (bL ss t) (ps[i].off+ps[j].on)||jM (decide (i∈ss[t].who)) (eX ss j t) (bL ss t) (ps[j].off+ps[i].on)):=by
    unfold hit kJ;rw[wt,nij,nji];rfl
   have a1:=λx7 x8=>Ds (cf:=aA T dfs n) (x1:=.v (.tup (ss.map Scene.enc))) (x2:=.v (.int i)) (x3:=.v (.int j)) (s7:=x7) (s8:=x8) (now:=bL ss t) w0 wj hki pi (po _).1 pj (po _).2
   have a2:=λx7 x8=>Ds (cf:=aA T dfs n) (x1:=.v (.tup (ss.map Scene.enc))) (x2:=.v (.int i)) (x3:=.v (.int j)) (s7:=x7) (s8:=x8) (now:=bL ss t) w0 wi hkj pj (po _).1 pi (po _).2
   rw[xB ht,aL,iX,iC,hh]
   have b1:=λx7 x8=>Dt (cf:=aA T dfs n) (pd:=.tup (ps.map Part.enc)) (x1:=.v (.tup (ss.map Scene.enc))) (x2:=.v (.int i)) (x3:=.v (.int j)) (s7:=x7) (s8:=x8) (now:=bL ss t+ss[t].len) w0 wi kb
   have hput:=CC kvs (.inl (i:Int)) (.int (bL ss t+ss[t].len))
   have kb2:(if decide (i∈ss[t].who)=true then dX kvs (.inl (i:Int)) (.int (bL ss t+ss[t].len))else kvs).length<=2*t+1:=by split<;>lia
   have b2:=λx7 x8=>Dt (cf:=aA T dfs n) (pd:=.tup (ps.map Part.enc)) (x1:=.v (.tup (ss.map Scene.enc))) (x2:=.v (.int i)) (x3:=.v (.int j)) (s7:=x7) (s8:=x8) (now:=bL ss t+ss[t].len) w0 wj (FD kb2 (by have:=bZ;lia))
   have step:=ih (t+1) (if decide (j∈ss[t].who)=true then dX (if decide (i∈ss[t].who)=true then dX kvs (.inl (i:Int)) (.int (bL ss t+ss[t].len))else kvs) (.inl (j:Int)) (.int (bL ss t+ss[t].len))else if decide (i∈ss[t].who)=true then dX kvs (.inl (i:Int)) (.int (bL ss t+ss[t].len))else kvs) (.v ss[t].enc) (.v (.int j)) (.v (.int i)) (by lia)
   rw[eX,eX,wt,hlt]at step
   have hput2:=CC (if decide (i∈ss[t].who)=true then dX kvs (.inl (i:Int)) (.int (bL ss t+ss[t].len))else kvs) (.inl (j:Int)) (.int (bL ss t+ss[t].len))
   have hv:∀(a b:Nat)(c:Bool)(m:List (Sum Int Str×D))(v:D),bE (if c=true then dX m (.inl (a:Int)) v else m) (.inl (b:Int))=if c=true/\a=b then some v else bE m (.inl (b:Int)):=λa b c m v=>by
    cases c with
    |false=>simp
    |true=>
     rw[if_pos rfl,Ld]
     by_cases q:a=b
     ·rw[if_pos (by rw[q]),if_pos ⟨rfl,q⟩]
     ·rw[if_neg (λz=>q (by injection z with z;lia)),if_neg (λz=>q z.2)]
   generalize hdi:decide (i∈ss[t].who)=di at *
   generalize hdj:decide (j∈ss[t].who)=dj at *
   by_cases c1:(di&&dj)=true
   ·rw[c1,lW,lW,lW]
    refine⟨.rt (.bl true) false,iR ?_,by rw[if_pos rfl]⟩
    obtain⟨z1,z2⟩:=(aD _ _).mp c1
    rw[z1]at wi;rw[z2]at wj
    generalize ss[t].enc=sd at *
    generalize D.tup (bH ss[t].who)=wd at *
    lk
   ·have c1':(di&&dj)=false:=by simpa using c1
    have q1:evE T (aA T dfs n) (.and (.cmp .In (.var 2) (.ix (.var 6) (.con (.int 3)))) (.cmp .In (.var 3) (.ix (.var 6) (.con (.int 3))))) ([.v (.tup (ps.map Part.enc)),.v (.tup (ss.map Scene.enc)),.v (.int i),.v (.int j),.v (.int (bL ss t)),.o (.dct kvs),s6,s7,s8].set 6 (.v ss[t].enc))=.ok (.bl false):=by
     generalize ss[t].enc=sd at *
     cases di with
     |false=>lk
     |true=>rw[iV]at c1';rw[c1']at wj;lk
    rw[c1',lX]
    cases c2:jM dj (eX ss i t) (bL ss t) (ps[i].off+ps[j].on)with
    |true=>
     rw[lW,lW]
     refine⟨.rt (.bl true) false,iR ?_,by rw[if_pos rfl]⟩
     have f1:=λr=>iR (r:=r) ((a1 s7 s8).trans (if_pos c2))
     generalize ss[t].enc=sd at *
     have f1:=f1 [.tup [.int j,.int i]]
     lk
    |false=>
     rw[lX]
     have n1:=(a1 s7 s8).trans (if_neg (by rw[c2];exact aJ))
     cases c3:jM di (eX ss j t) (bL ss t) (ps[j].off+ps[i].on)with
     |true=>
      rw[lW]
      refine⟨.rt (.bl true) false,iR ?_,by rw[if_pos rfl]⟩
      have f1:=(cD n1).trans (iR (r:=[]) ((a2 (.v (.int i)) (.v (.int j))).trans (if_pos c3)))
      generalize ss[t].enc=sd at *
      lk
     |false=>
      rw[lX]
      have f1:=(cD n1).trans (cD (r:=[]) ((a2 (.v (.int i)) (.v (.int j))).trans (if_neg (by rw[c3];exact aJ))))
      have f2:=(cD (b1 (.v (.int j)) (.v (.int i)))).trans (cD (r:=[]) (b2 (.v (.int i)) (.v (.int i))))
      rw[uT]at f1 f2
      obtain⟨out,h5,h6⟩:=step (by
       rw[hv,hv,hki]
       cases di with
       |true=>rw[if_pos (of_decide_eq_true hdi)];by_cases q:dj=true/\j=i<;>simp[q]
       |false=>
        rw[if_neg (of_decide_eq_false hdi)]
        by_cases q:dj=true/\j=i
        ·exact absurd (hdi.symm.trans (by rw[<-q.2,hdj];exact q.1)) aJ
        ·rw[if_neg q];simp) (by
       rw[hv,hv,hkj]
       cases dj with
       |true=>rw[if_pos (of_decide_eq_true hdj)];simp
       |false=>
        rw[if_neg (of_decide_eq_false hdj)]
        by_cases q:di=true/\i=j
        ·exact absurd (hdj.symm.trans (by rw[<-q.2,hdi];exact q.1)) aJ
        ·rw[if_neg q];simp) (by split<;>lia)
      refine⟨out,?_,h6⟩
      rw[<-h5]
      refine cD ?_
      generalize ss[t].enc=sd at *
      rw[<-e1]
      lk
 obtain⟨out,h1,h2⟩:=main ss.length 0 [] .no .no .no (by lia) rfl rfl (by simp)
 rw[rL]at h1
 have eqr:dA 0 ss.length=aC ss.length:=by rw[iE]
 rw[eqr,Lh g]at h2
 have hb0:bL ss 0=0:=rfl
 rw[hb0]at h1
 refine aT (k:=false) rfl rfl rfl ?_
 cases hr:(aZ ps ss i j).isSome with
 |true=>
  rw[hr,if_pos rfl]at h2
  subst h2
  lk
 |false=>
  rw[hr,if_neg (by simp)]at h2
  obtain⟨e,rfl⟩:=h2
  lk
theorem Ly:("abcdef" : Str).cps.size=6:=by decide +kernel
theorem Lz (m:Int):∃y:Str,D.ix (.lst [.str "s", .str "t", .str "st", .str "tb", .str "stb", .str "bts", .str "bs", .str ""]) (.int (m%8))=.ok (.str y):=by
 have h:m%8=0\/m%8=1\/m%8=2\/m%8=3\/m%8=4\/m%8=5\/m%8=6\/m%8=7:=by lia
 rcases h with h|h|h|h|h|h|h|h<;>rw[h]<;>exact⟨_,rfl⟩
theorem MA(a b c d i:Int):∃v:Int,D.ix (.lst [.int a,.int b,.int c,.int d]) (.int (i%4))=.ok (.int v):=by
 have h:i%4=0\/i%4=1\/i%4=2\/i%4=3:=by lia
 rcases h with h|h|h|h<;>rw[h]<;>exact⟨_,rfl⟩
theorem MB(a b c i:Int):∃v:Int,D.ix (.lst [.int a,.int b,.int c]) (.int (i%3))=.ok (.int v):=by
 have h:i%3=0\/i%3=1\/i%3=2:=by lia
 rcases h with h|h|h<;>rw[h]<;>exact⟨_,rfl⟩
theorem MC(n:Nat)(c:Int)(many:Nat)(hm:many<=6):∃qs:List Player,qs.length=many/\aA T dfs (n+2) 33 [.int c,.int (many:Int)]=.ok (.tup (qs.map Player.enc)):=by
 have hb:=bZ
 have loop:∀(m k:Nat)(qs:List Player)(x3 x4 x5 x6:Sl),k+m=many->qs.length=k->∃(qs':List Player)(y3 y4 y5 y6:Sl),qs'.length=many/\aO (aV T (aA T dfs (n+1)) (.one 3) vY) ((dA k m).map aB) [.v (.int c),.v (.int (many:Int)),.o (.lst (qs.map Player.enc)),x3,x4,x5,x6]=.ok (.nx [.v (.int c),.v (.int (many:Int)),.o (.lst (qs'.map Player.enc)),y3,y4,y5,y6]):=by
  intro m
  induction m with
  |zero=>intro k qs x3 x4 x5 x6 h1 h2;exact⟨qs,x3,x4,x5,x6,by lia,rfl⟩
  |succ m ih=>
   intro k qs x3 x4 x5 x6 h1 h2
   have m1:=oB n c (5*(k:Int)+2) (by lia)
   have lo:=qM c (5*(k:Int)+2)
   have hi:=qN c (5*(k:Int)+2)
   have b5:D.bin .Mult (.int 5) (.int (k:Int))=.ok (.int (5*(k:Int))):=hU (by decide)
   generalize eJ c (5*(k:Int)+2)=w at *
   obtain⟨y,ey⟩:=Lz w
   obtain⟨v,ev1⟩:=MA 0 (w/8%5) (w/8%100) (w*w%1000000000) (w/3)
   have b2:D.bin .Mult (.int w) (.int w)=.ok (.int (w*w)):=hU (by lia)
   obtain⟨y1,ey1,ly1⟩:=ix_str (x:=("abcdef" : Str)) (i:=k) (by rw[Ly];lia) (by decide +kernel)
   have l1:("x" : Str).length+y1.length<=big:=by rw[ly1];decide +kernel
   have hl:qs.length<big:=by lia
   obtain⟨qs',y3,y4,y5,y6,h3,h4⟩:=ih (k+1) (qs++[(⟨("x" : Str)++y1,y,v⟩:Player)]) (.v (.int (k:Int))) (.v (.int w)) (.v (.str y)) (.v (.int v)) (by lia) (by rw[bB,h2];rfl)
   refine⟨qs',y3,y4,y5,y6,h3,?_⟩
   have e:aV T (aA T dfs (n+1)) (.one 3) vY (aB k) [.v (.int c),.v (.int (many:Int)),.o (.lst (qs.map Player.enc)),x3,x4,x5,x6]=.ok (.nx [.v (.int c),.v (.int (many:Int)),.o (.lst ((qs++[(⟨("x" : Str)++y1,y,v⟩:Player)]).map Player.enc)),.v (.int (k:Int)),.v (.int w),.v (.str y),.v (.int v)]):=by
    rw[cU]
    have p9:=uO
    have a1:=add_str l1
    have hl:(qs.map Player.enc).length<big:=by rw[aI];exact hl
    unfold aB
    lk
   rw[iX,aL,cD e,h4]
 obtain⟨qs,y3,y4,y5,y6,h1,h2⟩:=loop many 0 [] .no .no .no .no (by lia) rfl
 have rg:=fF (n:=many) (by lia)
 rw[iE]at rg
 rw[iT]at h2
 refine⟨qs,h1,?_⟩
 refine aT (k:=false) rfl rfl rfl ?_
 lk
noncomputable abbrev Lk:=(Nat×Nat)×Int
noncomputable def cI(l:Lk):D:=.tup [.int (l.1.1:Int),.int (l.1.2:Int),.int l.2]
noncomputable def lS(ls:List Lk):List (Nat×Nat):=ls.map (·.1)
structure GoodL(pls many:Nat)(ls:List Lk):Prop where
 lt:∀l∈ls,l.1.1<pls/\l.1.2<many
 nd:(lS ls).Nodup
 len:ls.length<=pls*many
theorem MD(n:Nat)(c:Int)(x1:Sl)(many p:Nat)(hm:many<=8)(hp:p<6):∀(m k:Nat)(ls:List Lk)(x5 x6:Sl),k+m=many->(lS ls).Nodup->(∀l∈ls,l.1.1<p\/(l.1.1=p/\l.1.2<k))->(∀l∈ls,l.1.2<many)->ls.length<=p*many+k ->
 ∃(ls':List Lk)(y5 y6:Sl),(lS ls').Nodup/\(∀l∈ls',l.1.1<p+1)/\(∀l∈ls',l.1.2<many)/\ls'.length<=p*many+many/\aO (aV T (aA T dfs (n+1)) (.one 5) qR) ((dA k m).map aB) [.v (.int c),x1,.v (.int (many:Int)),.o (.lst (ls.map cI)),.v (.int (p:Int)),x5,x6]=.ok (.nx [.v (.int c),x1,.v (.int (many:Int)),.o (.lst (ls'.map cI)),.v (.int (p:Int)),y5,y6]):=by
 have hb:=bZ
 intro m
 induction m with
 |zero=>
  intro k ls x5 x6 h1 h2 h3 h4 h5
  exact⟨ls,x5,x6,h2,λl hl=>by have:=h3 l hl;lia,h4,by lia,rfl⟩
 |succ m ih=>
  intro k ls x5 x6 h1 h2 h3 h4 h5
  have m1:=oB n c (8*(p:Int)+(k:Int)) (by lia)
  have lo:=qM c (8*(p:Int)+(k:Int))
  have hi:=qN c (8*(p:Int)+(k:Int))
  have b8:D.bin .Mult (.int 8) (.int (p:Int))=.ok (.int (8*(p:Int))):=hU (by decide)
  generalize eJ c (8*(p:Int)+(k:Int))=w at *
  obtain⟨v,ev1⟩:=MB (w/3%4) (w/3%50) (w*w%1000000000) (w/5)
  have b2:D.bin .Mult (.int w) (.int w)=.ok (.int (w*w)):=hU (by lia)
  have hpm:p*many<=6*8:=xH (by lia) hm
  have hl:ls.length<big:=by lia
  by_cases q:w%3=1
  ·obtain⟨ls',y5,y6,g1,g2,g3,g4,g5⟩:=ih (k+1) (ls++[((p,k),v)]) (.v (.int (k:Int))) (.v (.int w)) (by lia) (by
    unfold lS at h2⊢
    rw[cU,List.nodup_append]
    refine⟨h2,by simp,?_⟩
    intro a ha b hb' e
    subst e
    obtain⟨l,hl1,hl2⟩:=cZ.mp ha
    simp at hb'
    have:=h3 l hl1
    rw[hl2,hb']at this
    dsimp only at this
    lia) (by
    intro l hl1
    rcases eO.mp hl1 with hl1|hl1
    ·have:=h3 l hl1;lia
    ·rw[dE.mp hl1];dsimp only;lia) (by
    intro l hl1
    rcases eO.mp hl1 with hl1|hl1
    ·exact h4 l hl1
    ·rw[dE.mp hl1];dsimp only;lia) (by rw[bB,gO];lia)
   refine⟨ls',y5,y6,g1,g2,g3,g4,?_⟩
   have e:aV T (aA T dfs (n+1)) (.one 5) qR (aB k) [.v (.int c),x1,.v (.int (many:Int)),.o (.lst (ls.map cI)),.v (.int (p:Int)),x5,x6]=.ok (.nx [.v (.int c),x1,.v (.int (many:Int)),.o (.lst ((ls++[((p,k),v)]).map cI)),.v (.int (p:Int)),.v (.int (k:Int)),.v (.int w)]):=by
    rw[cU]
    have q':=beq_iff_eq.mpr q
    have p9:=uO
    have hl:(ls.map cI).length<big:=by rw[aI];exact hl
    unfold aB
    lk
   rw[iX,aL,cD e,g5]
  ·obtain⟨ls',y5,y6,g1,g2,g3,g4,g5⟩:=ih (k+1) ls (.v (.int (k:Int))) (.v (.int w)) (by lia) h2 (λl hl1=>by have:=h3 l hl1;lia) h4 (by lia)
   refine⟨ls',y5,y6,g1,g2,g3,g4,?_⟩
   have e:aV T (aA T dfs (n+1)) (.one 5) qR (aB k) [.v (.int c),x1,.v (.int (many:Int)),.o (.lst (ls.map cI)),.v (.int (p:Int)),x5,x6]=.ok (.nx [.v (.int c),x1,.v (.int (many:Int)),.o (.lst (ls.map cI)),.v (.int (p:Int)),.v (.int (k:Int)),.v (.int w)]):=by
    have q':=beq_eq_false_iff_ne.mpr q
    unfold aB
    lk
   rw[iX,aL,cD e,g5]
theorem likes(n:Nat)(c:Int)(pls many:Nat)(hp:pls<=6)(hm:many<=8):∃ls:List Lk,GoodL pls many ls/\aA T dfs (n+2) 34 [.int c,.int (pls:Int),.int (many:Int)]=.ok (.tup (ls.map cI)):=by
 have hb:=bZ
 have rgm:=fF (n:=many) (by lia)
 rw[iE]at rgm
 have loop:∀(m p:Nat)(ls:List Lk)(x4 x5 x6:Sl),p+m=pls->(lS ls).Nodup->(∀l∈ls,l.1.1<p)->(∀l∈ls,l.1.2<many)->ls.length<=p*many ->
  ∃(ls':List Lk)(y4 y5 y6:Sl),GoodL pls many ls'/\aO (aV T (aA T dfs (n+1)) (.one 4) vZ) ((dA p m).map aB) [.v (.int c),.v (.int (pls:Int)),.v (.int (many:Int)),.o (.lst (ls.map cI)),x4,x5,x6]=.ok (.nx [.v (.int c),.v (.int (pls:Int)),.v (.int (many:Int)),.o (.lst (ls'.map cI)),y4,y5,y6]):=by
  intro m
  induction m with
  |zero=>
   intro p ls x4 x5 x6 h1 h2 h3 h4 h5
   have:p=pls:=by lia
   subst this
   exact⟨ls,x4,x5,x6,⟨λl hl=>⟨h3 l hl,h4 l hl⟩,h2,h5⟩,rfl⟩
  |succ m ih=>
   intro p ls x4 x5 x6 h1 h2 h3 h4 h5
   obtain⟨l1,y5,y6,g1,g2,g3,g4,g5⟩:=MD n c (.v (.int (pls:Int))) many p hm (by lia) many 0 ls x5 x6 (by lia) h2 (λl hl=>.inl (h3 l hl)) h4 (by lia)
   obtain⟨ls',z4,z5,z6,f1,f2⟩:=ih (p+1) l1 (.v (.int (p:Int))) y5 y6 (by lia) g1 g2 g3 (by rw[Nat.add_mul];lia)
   refine⟨ls',z4,z5,z6,f1,?_⟩
   have e:aV T (aA T dfs (n+1)) (.one 4) vZ (aB p) [.v (.int c),.v (.int (pls:Int)),.v (.int (many:Int)),.o (.lst (ls.map cI)),x4,x5,x6]=.ok (.nx [.v (.int c),.v (.int (pls:Int)),.v (.int (many:Int)),.o (.lst (l1.map cI)),.v (.int (p:Int)),y5,y6]):=by
    unfold aB
    lk
   rw[iX,aL,cD e,f2]
 obtain⟨ls,y4,y5,y6,h1,h2⟩:=loop pls 0 [] .no .no .no (by lia) (by simp[lS]) (by simp) (by simp) (by simp)
 have rg:=fF (n:=pls) (by lia)
 rw[iE]at rg
 rw[iT]at h2
 refine⟨ls,h1,?_⟩
 refine aT (k:=false) rfl rfl rfl ?_
 lk
noncomputable def dO(S:D)(P:List Part)(Q:List Player)(ls:List Lk):D:=.tup [.tup (P.map Part.enc),.tup (Q.map Player.enc),S,.tup (ls.map cI),.tup []]
theorem ME(a b i j:Nat):D.cmp .Eq (.tup [.int (a:Int),.int (b:Int)]) (.tup [.int (i:Int),.int (j:Int)])=.ok (.bl (decide ((a,b)=(i,j)))):=by
 have h:=CU (a,b) (i,j)
 show aE (D.pl 30 (aF (a,b))&&D.pl 30 (aF (i,j))) (.ok (D.bl (D.eqb (aF (a,b)) (aF (i,j)))))=_
 rw[h,CG 29,CG 29];rfl
noncomputable def okV(P:List Part)(Q:List Player)(j k:Nat):Bool:=jK P Q k j
theorem Du(n:Nat)(P:List Part)(Q:List Player)(X Y Z:D)(hv:∀p∈P,(bP p.voice).length=1)(j k:Nat)(hj:j<Q.length)(hk:k<P.length) :
 ∃d,aA T dfs (n+1) 6 [.tup [.tup (P.map Part.enc),.tup (Q.map Player.enc),X,Y,Z],.int (k:Int),.int (j:Int)]=.ok d/\d.isNon=okV P Q j k:=by
 have e1:=kI (aP hk)
 have e2:=vO (aP hj)
 have e3:=vQ (p:=P[k]) (q:=Q[j]) (hv _ (kR hk))
 rw[<-vR hk hj]at e3
 have h0:D.ix (.tup [.tup (P.map Part.enc),.tup (Q.map Player.enc),X,Y,Z]) (T.glob 0)=.ok (.tup (P.map Part.enc)):=rfl
 have h1:D.ix (.tup [.tup (P.map Part.enc),.tup (Q.map Player.enc),X,Y,Z]) (T.glob 1)=.ok (.tup (Q.map Player.enc)):=rfl
 have e4:=vK (s:=P[k])
 have e5:=vJ (s:=Q[j])
 unfold okV
 generalize D.tup [.tup (P.map Part.enc),.tup (Q.map Player.enc),X,Y,Z]=BK at *
 generalize jK P Q k j=c at *
 generalize P[k].enc=pk at *
 generalize Q[j].enc=qj at *
 cases c with
 |true=>exact⟨.non,aT (k:=false) rfl rfl rfl (by lk),rfl⟩
 |false=>exact⟨.tup [.str "voice", .int (k:Int),.int (j:Int)],aT (k:=false) rfl rfl rfl (by lk),rfl⟩
theorem MF(p:Nat×Nat)(ps:List (Nat×Nat)):D.cmp .NotIn (aF p) (.lst (ps.map aF))=.ok (.bl (!decide (p∈ps))):=by
 show(do let k<-aE (D.pls 30 (ps.map aF)&&D.pl 29 (aF p)) (.ok (D.mem (aF p) (ps.map aF)));.ok (D.bl (!k)))=_
 rw[kH aF 29 (CS 28),CS 28,CV];rfl
noncomputable def tN(t:List Nat):D:=.tup (t.map aB)
theorem MG(n:Nat)(P:List Part)(Q:List Player)(X Y Z:D)(hv:∀p∈P,(bP p.voice).length=1)(cs:List (Option Nat))(hc:∀j,some j∈cs->j<Q.length)(k:Nat)(hk:k<P.length)(hk2:k<cs.length) :
 aA T dfs (n+1) 6 [.tup [.tup (P.map Part.enc),.tup (Q.map Player.enc),X,Y,Z],.int k,bW (cs.getD k none)]=.ok (dZ (eM P Q cs k)):=by
 refine aT (k:=false) rfl rfl rfl ?_
 have h0:D.ix (.tup [.tup (P.map Part.enc),.tup (Q.map Player.enc),X,Y,Z]) (T.glob 0)=.ok (.tup (P.map Part.enc)):=rfl
 have h1:D.ix (.tup [.tup (P.map Part.enc),.tup (Q.map Player.enc),X,Y,Z]) (T.glob 1)=.ok (.tup (Q.map Player.enc)):=rfl
 unfold eM
 cases h:cs.getD k none with
 |none=>
  dsimp only[dZ,Flt.enc,bW]
  lk
 |some j=>
  have hj:j<Q.length:=hc j (by
   have:=CP hk2
   rw[h]at this
   exact iB this)
  have e1:=kI (aP hk)
  have e2:=vO (aP hj)
  have e3:=vQ (p:=P[k]) (q:=Q[j]) (hv _ (kR hk))
  rw[<-vR hk hj]at e3
  have e4:=vK (s:=P[k])
  have e5:=vJ (s:=Q[j])
  dsimp only[bW]
  generalize D.tup [.tup (P.map Part.enc),.tup (Q.map Player.enc),X,Y,Z]=BK at *
  generalize jK P Q k j=c at *
  generalize P[k].enc=pk at *
  generalize Q[j].enc=qj at *
  cases c with
  |true=>rw[if_pos rfl];dsimp only[dZ];lk
  |false=>rw[if_neg aJ];dsimp only[dZ,Flt.enc];lk
theorem MH(n:Nat)(cs:List (Option Nat))(i j:Nat)(hi:i<cs.length)(hj:j<cs.length):aA T dfs (n+1) 7 [.lst (cs.map bW),.int i,.int j]=.ok (.bl (fS cs i j)):=by
 refine aT (k:=false) rfl rfl rfl ?_
 have e1:=CQ hi
 have e2:=CQ hj
 have e3:=Lp (cs.getD i none) (cs.getD j none)
 unfold fS
 generalize cs.getD i none=a at *
 generalize cs.getD j none=b at *
 generalize cs.map bW=cd at *
 cases a with
 |none=>dsimp only[bW]at e1;lk
 |some x=>rw[Ln]at e1 e3;generalize bW b=bd at *;generalize decide (some x=b)=q at *;show _=Res.ok (Out.rt (D.bl q) false);lk
theorem enumD_len:∀(l:List D)(k:Int),(bJ k l).length=l.length
 |[],_=>rfl
 |_::l,k=>by rw[bJ,aN,aN,enumD_len l (k+1)]
theorem MI(n:Nat)(P:List Part)(Q:List Player)(S:List Scene)(Y Z:D)(hp:P.length<=8)(hs:S.length<=24)(hv:∀p∈P,(bP p.voice).length=1)(cs:List (Option Nat))(hl:cs.length=P.length)(hc:∀j,some j∈cs->j<Q.length)(ps:List (Nat×Nat))(hps:∀p∈ps,p.1<P.length/\p.2<P.length)(hpl:ps.length<=100)
 (cl:aA T dfs (n+5) 5 [.tup [.tup (P.map Part.enc),.tup (Q.map Player.enc),.tup (S.map Scene.enc),Y,Z]]=.ok (.lst (ps.map aF))) :
 aA T dfs (n+6) 8 [.tup [.tup (P.map Part.enc),.tup (Q.map Player.enc),.tup (S.map Scene.enc),Y,Z],.lst (cs.map bW)]=.ok (.lst ((lR P Q ps cs).map Flt.enc)):=by
 have hb:=bZ
 refine aT (k:=true) rfl rfl rfl ?_
 have c1:bR (bS T (aA T dfs (n+5)) (.many [0,1]) Ca (.con (.bl true)) [.no,.no,.v (.tup [.tup (P.map Part.enc),.tup (Q.map Player.enc),.tup (S.map Scene.enc),Y,Z])]) (bJ 0 (cs.map bW))=.ok ((aC cs.length).map λk=>dZ (eM P Q cs k)):=by
  have e:=qP bW none cs 0
  rw[show((0:Nat):Int)=0 from rfl]at e
  rw[e,eL (λk=>D.tup [.int ((0+k:Nat):Int),bW (cs.getD k none)]) (λk=>some (dZ (eM P Q cs k))) (by
   intro k hk
   have hk:k<cs.length:=by simpa using hk
   have e1:=MG (n+4) P Q (.tup (S.map Scene.enc)) Y Z hv cs hc k (by lia) hk
   simp only[oO]
   generalize bW (cs.getD k none)=z at e1⊢
   generalize D.tup [.tup (P.map Part.enc),.tup (Q.map Player.enc),.tup (S.map Scene.enc),Y,Z]=BK at *
   lk),rR]
 have c2:∀(l:List (Option Flt)),bR (bS T (aA T dfs (n+5)) (.one 0) Cc Cb [.no]) (l.map dZ)=.ok ((l.filterMap id).map Flt.enc):=by
  intro l
  rw[eL dZ (λo=>o.map Flt.enc) (by
   intro o _
   have q:=Lr (o:=o)
   cases o with
   | none => have q' : (!(dZ none).isNon) = false := by rw [q]; rfl
             lk
   | some f => have q' : (!(dZ (some f)).isNon) = true := by rw [q]; rfl
               show _=Res.ok (some (dZ (some f)))
               generalize dZ (some f)=z at *
               lk)]
  refine congrArg Res.ok ?_
  induction l with
  |nil=>rfl
  |cons o r ih=>cases o<;>simp[ih]
 have c3:bR (bS T (aA T dfs (n+5)) (.many [0,1]) Ce Cd [.no,.no,.v (.lst (cs.map bW))]) (ps.map aF)=.ok (((ps.filter λp=>fS cs p.1 p.2).map λp=>Flt.cla p.1 p.2).map Flt.enc):=by
  rw[eL aF (λp=>if fS cs p.1 p.2=true then some (Flt.enc (.cla p.1 p.2))else none) (by
   intro p hp'
   have h:=hps p hp'
   have e1:=MH (n+4) cs p.1 p.2 (by lia) (by lia)
   generalize fS cs p.1 p.2=c at *
   generalize cs.map bW=cd at *
   unfold aF
   dsimp only[Flt.enc]
   cases c with
   |true=>rw[if_pos rfl];lk
   |false=>rw[if_neg aJ];lk)]
  refine congrArg Res.ok ?_
  clear cl hpl hps
  induction ps with
  |nil=>rfl
  |cons p r ih=>
   rw[jO,oN]
   cases fS cs p.1 p.2<;>simp[ih]
 have c4:((aC cs.length).map λk=>dZ (eM P Q cs k))=((aC cs.length).map (eM P Q cs)).map dZ:=by rw[dQ];rfl
 rw[c4]at c1
 have c5:=c2 ((aC cs.length).map (eM P Q cs))
 have l1:cs.length<=big:=by lia
 have l2:(((aC cs.length).map (eM P Q cs)).map dZ).length<=big:=by simp;lia
 have l3:ps.length<=big:=by lia
 have l5:=iW (λp:Nat×Nat=>fS cs p.1 p.2) ps
 have l6:(((aC cs.length).map (eM P Q cs)).filterMap id).length<=cs.length:=by
  have:=List.length_filterMap_le id ((aC cs.length).map (eM P Q cs))
  simpa using this
 have f1:lR P Q ps cs=((aC cs.length).map (eM P Q cs)).filterMap id++(ps.filter λp=>fS cs p.1 p.2).map λp=>Flt.cla p.1 p.2:=by
  unfold lR
  rw[Nk];rfl
 rw[f1]
 generalize ((aC cs.length).map (eM P Q cs)).filterMap id=A at *
 generalize hB:((aC cs.length).map (eM P Q cs)).map dZ=B at *
 have l7:A.length+((ps.filter λp=>fS cs p.1 p.2)).length<=big:=by lia
 generalize hG:(ps.filter λp=>fS cs p.1 p.2).map (λp=>Flt.cla p.1 p.2)=G at *
 have l8:A.length+G.length<=big:=by rw[<-hG,aI];exact l7
 have l1:(bJ 0 (cs.map bW)).length<=big:=by rw[enumD_len,aI];exact l1
 have l3:(ps.map aF).length<=big:=by rw[aI];exact l3
 have l8:(A.map Flt.enc).length+(G.map Flt.enc).length<=big:=by rw[aI,aI];exact l8
 have en:=uL (ds:=cs.map bW)
 rw[cU]
 generalize D.tup [.tup (P.map Part.enc),.tup (Q.map Player.enc),.tup (S.map Scene.enc),Y,Z]=BK at *
 generalize bJ 0 (cs.map bW)=ed at *
 generalize cs.map bW=cd at *
 generalize ps.map aF=pd at *
 lk
noncomputable def aW(i:Int):D:=.int i
noncomputable def tI(ks:List Int):D:=.tup (ks.map aW)
noncomputable def kD(kss:List (List Int)):D:=.tup (kss.map tI)
theorem wH(p:Int):∀ks:List Int,(ks.filterMap λq=>if q=p then none else some (aW q))=(ks.filter λq=>q != p).map aW
 |[]=>rfl
 |q::ks=>by
  by_cases h:q=p
  ·simp[h,wH p ks]
  ·simp[h,wH p ks]
theorem MJ(n:Nat)(ks:List Int)(p:Int)(hl:ks.length<=100):aA T dfs (n+1) 11 [tI ks,.int p]=.ok (tI (ks.filter λq=>q != p)):=by
 refine aT (k:=false) rfl rfl rfl ?_
 have hc:bR (bS T (aA T dfs n) (.one 0) Co Cn [.no,.v (.int p)]) (ks.map aW)=.ok ((ks.filter λq=>q != p).map aW):=by
  rw[eL aW (λq=>if q=p then none else some (aW q)) (by
   intro q _
   unfold aW
   by_cases h:q=p
   ·have h2:(!(q==p))=false:=by simp[h]
    rw[if_pos h];lk
   ·have h2:(!(q==p))=true:=by simp[h]
    rw[if_neg h];lk),wH]
 have hb:(ks.map aW).length<=big:=by rw[aI];exact cG hl (by decide)
 unfold tI
 lk
theorem Dv(k:Nat)(p:Int×Int):D.pl (k+1) (prD p)=true:=by cases k<;>rfl
theorem MK(p q:Int×Int):D.eqb (prD p) (prD q)=decide (p=q):=by
 obtain⟨a,b⟩:=p
 obtain⟨c,d⟩:=q
 show((a==c)&&((b==d)&&true))=_
 by_cases h1:a=c<;>by_cases h2:b=d<;>simp[h1,h2]
theorem Dw(p:Int×Int):∀cl:List (Int×Int),D.mem (prD p) (cl.map prD)=cl.contains p
 |[]=>rfl
 |q::cl=>by
  rw[aL,D.mem,MK,Dw p cl,List.contains_cons]
  congr 1
  rw[rQ,decide_eq_true_eq,beq_iff_eq]
  exact eq_comm
theorem in_prD(p:Int×Int)(cl:List (Int×Int)):D.cmp .In (.tup [.int p.1,.int p.2]) (.lst (cl.map prD))=.ok (.bl (cl.contains p)):=by
 show(do let k<-aE (D.pls 30 (cl.map prD)&&D.pl 29 (prD p)) (.ok (D.mem (prD p) (cl.map prD)));.ok (D.bl k))=_
 rw[kH prD 29 (Dv 28),Dv 28,Dw];rfl
theorem Dx(n:Nat)(m:Int)(cl:List (Int×Int))(f p:Int)(x1:Sl):∀(r:List (List Int))(j:Int)(acc:List (List Int))(x5 x6:Sl),(∀ks∈r,ks.length<=100)->acc.length+r.length<=100 ->
 ∃y5 y6,aO (aV T (aA T dfs (n+1)) (.many [5,6]) Dn) (bJ j (r.map tI)) [.v (.cnt m cl),x1,.v (.int p),.v (.int f),.o (.lst (acc.map tI)),x5,x6] =
  .ok (.nx [.v (.cnt m cl),x1,.v (.int p),.v (.int f),.o (.lst ((acc++L2.cC cl f j r p).map tI)),y5,y6])
 |[],j,acc,x5,x6,_,_=>⟨x5,x6,by simp[bJ,uT,L2.cC]⟩
 |ks::r,j,acc,x5,x6,hk,hl=>by
  obtain⟨y5,y6,ih⟩:=Dx n m cl f p x1 r (j+1) (acc++[if cl.contains (f,j)then ks.filter (λq=>q != p)else ks]) (.v (.int j)) (.v (tI ks)) (λz hz=>hk z (bG _ hz)) (by rw[bB,gO];rw[aN]at hl;lia)
  refine⟨y5,y6,?_⟩
  have e1:=MJ n ks p (hk ks bF)
  have e2:=in_prD (f,j) cl
  have hb:(acc.map tI).length<big:=by rw[aI];exact FD (show acc.length<=100 by lia) (by decide)
  have hc0:jY (aA T dfs (n+1)) .clashes (.cnt m cl) []=.ok (.lst (cl.map prD)):=rfl
  rw[aL,bJ,cD (e1:=[.v (.cnt m cl),x1,.v (.int p),.v (.int f),.o (.lst ((acc++[if cl.contains (f,j)then ks.filter (λq=>q != p)else ks]).map tI)),.v (.int j),.v (tI ks)]) (by
   rw[cU]
   cases hc:cl.contains (f,j)with
   |true=>rw[hc]at e2;rw[if_pos rfl];dsimp only at e2;lk
   |false=>rw[hc]at e2;rw[if_neg aJ];dsimp only at e2;lk),ih,xA]
  rfl
theorem behind(n:Nat)(m:Int)(cl:List (Int×Int))(ks:List Int)(r:List (List Int))(p:Int)(hk:∀z∈r,z.length<=100)(hr:r.length<=90)(h0:(r.length:Int)+1<=m)(h1:m<=100) :
 aA T dfs (n+2) 42 [.cnt m cl,kD (ks::r),.int p]=.ok (kD (L2.cC cl (m-(r.length+1:Nat)) (m-(r.length+1:Nat)+1) r p)):=by
 obtain⟨y5,y6,hL⟩:=Dx n m cl (m-(r.length+1:Nat)) p (.v (kD (ks::r))) r (m-(r.length+1:Nat)+1) [] .no .no hk (by simp;lia)
 have hs:mX (.tup (r.map tI)) (.int (m-(r.length+1:Nat)+1))=.ok (bJ (m-(r.length+1:Nat)+1) (r.map tI)):=by
  show aE (bN _&&decide (0<=_)) _=_
  refine bV ?_ _
  unfold bN
  simp only[aD,decide_eq_true_eq]
  lia
 have hcut:D.sl (kD (ks::r)) (some 1) none=.ok (.tup (r.map tI)):=by
  show Res.ok (D.tup (cut (tI ks::r.map tI) (some 1) none))=_
  unfold cut sIx
  simp[lZ]
 have hlen:Bt.run .len [kD (ks::r)]=.ok (.int ((r.length+1:Nat):Int)):=by
  show Res.ok (D.int ((tI ks::r.map tI).length:Nat))=_
  rw[aN,aI]
 have hp:jY (aA T dfs (n+1)) .parts (.cnt m cl) []=.ok (.int m):=rfl
 rw[show([]:List (List Int)).map tI=([]:List D)from rfl,kP]at hL
 refine aT (k:=false) rfl rfl rfl ?_
 generalize kD (ks::r)=K at *
 unfold kD
 generalize r.map tI=rd at *
 lk
theorem ML(p:Int):∀ks∈L2.subs3,(ks.filter λq=>q != p)∈L2.subs3:=by
 intro ks h
 by_cases h0:p=0
 ·subst h0;revert ks;decide
 ·by_cases h1:p=1
  ·subst h1;revert ks;decide
  ·by_cases h2:p=2
   ·subst h2;revert ks;decide
   ·have e:(ks.filter λq=>q != p)=ks:=by
     rw[FR]
     intro q hq
     have:q=0\/q=1\/q=2:=by
      have a:∀ks∈L2.subs3,∀q∈ks,q=0\/q=1\/q=2:=by decide
      exact a ks h q hq
     rw[bne_iff_ne]
     lia
    rw[e];exact h
theorem kK(cl:List (Int×Int))(f p:Int):∀(j:Int)(r:List (List Int)),(L2.cC cl f j r p).length=r.length
 |_,[]=>rfl
 |j,ks::r=>by rw[L2.cC,aN,aN,kK cl f p (j+1) r]
theorem wI(cl:List (Int×Int))(f p:Int):∀(j:Int)(r:List (List Int)),(∀ks∈r,ks∈L2.subs3)->∀ks∈L2.cC cl f j r p,ks∈L2.subs3
 |_,[],_,ks,h=>by rw[L2.cC]at h;cases h
 |j,ks::r,hr,ks',h=>by
  rw[L2.cC]at h
  rcases bU.mp h with rfl|h
  ·split
   ·exact ML p ks (hr ks bF)
   ·exact hr ks bF
  ·exact wI cl f p (j+1) r (λz hz=>hr z (bG _ hz)) ks' h
theorem qY:∀ks∈L2.subs3,ks.length<=3:=by decide
theorem MM(hl:kss.length<=5)(h:∀ks∈kss,ks∈L2.subs3):L2.fJ kss=true:=by
 unfold L2.fJ
 rw[aD,decide_eq_true_eq,eP]
 exact⟨hl,λks hk=>mD.mpr (h ks hk)⟩
theorem wJ(ks:List Int):cO (ks.map aW)=.ok ks:=uQ ks
theorem Dy:∀kss:List (List Int),gU (kss.map tI)=.ok kss
 |[]=>rfl
 |ks::r=>by
  show(do let q<-cO (ks.map aW);let qs<-gU (r.map tI);Res.ok (q::qs))=_
  rw[wJ,Dy r];rfl
theorem Dz(n:Nat)(m:Int)(cl:List (Int×Int))(kss:List (List Int)):aA T dfs (n+1) 43 [.cnt m cl,kD kss]=jD T (aA T dfs n) nZ 0 [.cnt m cl,kD kss]:=by
 rw[aA]
 rfl
theorem EA(m:Int)(cl:List (Int×Int))(h1:m<=100):∀(k:Nat)(kss:List (List Int))(n:Nat),kss.length=k->k<=5->(k:Int)<=m->(∀ks∈kss,ks∈L2.subs3)->aA T dfs (n+k+3) 43 [.cnt m cl,kD kss]=.ok (.int (L2.gR m cl k kss))
 |0,kss,n,hl,_,_,_=>by
  cases rM.mp hl
  rw[Dz]
  rfl
 |k+1,[],n,hl,_,_,_=>by cases hl
 |k+1,ks::r,n,hl,h5,hm,hs=>by
  have hr:r.length=k:=by rw[aN]at hl;lia
  have hsr:∀z∈r,z∈L2.subs3:=λz hz=>hs z (bG _ hz)
  have hk:=qY ks (hs ks bF)
  rw[Dz]
  have e1:∀p∈ks,bS T (aA T dfs (n+k+3)) (.one 0) wF (.con (.bl true)) [.no,.v (.cnt m cl),.v (kD (ks::r))] (aW p)=.ok (some (.int (L2.gR m cl k (L2.cC cl (m-(r.length+1:Nat)) (m-(r.length+1:Nat)+1) r p)))):=by
   intro p _
   have b:=behind (n+k+1) m cl ks r p (λz hz=>cG (qY z (hsr z hz)) (by decide)) (by lia) (by lia) h1
   have ih:=EA m cl h1 k (L2.cC cl (m-(r.length+1:Nat)) (m-(r.length+1:Nat)+1) r p) n (by rw[kK,hr]) (by lia) (by lia) (wI cl _ p _ r hsr)
   generalize L2.cC cl (m-(r.length+1:Nat)) (m-(r.length+1:Nat)+1) r p=z at b ih⊢
   generalize kD (ks::r)=c at b⊢
   unfold aW
   lk
  have hv:evE T (aA T dfs (n+k+3)) nZ [.v (.cnt m cl),.v (kD (ks::r))]=.ok (.int (L2.gR m cl (k+1) (ks::r))):=by
   have hc:=eL (f:=bS T (aA T dfs (n+k+3)) (.one 0) wF (.con (.bl true)) [.no,.v (.cnt m cl),.v (kD (ks::r))]) aW (λp=>some (.int (L2.gR m cl k (L2.cC cl (m-(r.length+1:Nat)) (m-(r.length+1:Nat)+1) r p)))) e1
   rw[rR]at hc
   have hb:(ks.map aW).length<=big:=by rw[aI];exact cG hk (by decide)
   have hi:D.ix (kD (ks::r)) (.int 0)=.ok (.tup (ks.map aW)):=by
    unfold kD
    rw[aL]
    show Res.of (atI (tI ks::r.map tI) 0)=_
    have:atI (tI ks::r.map tI) 0=some (tI ks):=by simp[atI,ixN]
    rw[this];rfl
   have sm:Bt.run .sum [.lst (ks.map λp=>D.int (L2.gR m cl k (L2.cC cl (m-(r.length+1:Nat)) (m-(r.length+1:Nat)+1) r p)))]=_:=uR
   generalize kD (ks::r)=c at hc hi⊢
   show _=Res.ok (D.int (ks.map λp=>L2.gR m cl k (L2.cC cl (m-(r.length+1:Nat)) (m-(r.length+1:Nat)+1) r p)).sum)
   lk
  show(match gU ((ks::r).map tI)with
   |.ok kss=>(match evE T (aA T dfs (n+k+3)) nZ ([Sl.v (D.cnt m cl),Sl.v (kD (ks::r))]++aQ 0 Sl.no)with
    |.ok (D.int v)=>aE (L2.fJ kss&&v==L2.dS m cl kss) (Res.ok (D.int v))
    |_=>.no)
   |_=>.no)=_
  rw[Dy]
  dsimp only
  rw[show([Sl.v (D.cnt m cl),Sl.v (kD (ks::r))]++aQ 0 Sl.no)=[Sl.v (D.cnt m cl),Sl.v (kD (ks::r))]from rfl,hv]
  dsimp only
  refine bV ?_ _
  rw[aD,beq_iff_eq]
  exact⟨MM (by lia) hs,by unfold L2.dS;rw[hl]⟩
theorem EB(d:D):D.cmp .Is d .non=.ok (.bl d.isNon):=by cases d<;>rfl
theorem choice(n:Nat)(P:List Part)(Q:List Player)(X Y Z:D)(hv:∀p∈P,(bP p.voice).length=1)(k:Nat)(hk:k<P.length) :
 bR (bS T (aA T dfs (n+1)) (.one 0) Cj Ci [.no,.v (.tup [.tup (P.map Part.enc),.tup (Q.map Player.enc),X,Y,Z]),.v (.int (k:Int))]) ((aC Q.length).map aB) =
  .ok (((aC Q.length).filter λj=>okV P Q j k).map aB):=by
 rw[eL aB (λj=>if okV P Q j k=true then some (aB j)else none) (by
  intro j hj
  obtain⟨d,e1,e2⟩:=Du n P Q X Y Z hv j k (cF.mp hj) hk
  have e3:=EB d
  rw[e2]at e3
  unfold aB
  generalize D.tup [.tup (P.map Part.enc),.tup (Q.map Player.enc),X,Y,Z]=BK at *
  cases h:okV P Q j k with
  |true=>rw[h]at e3;rw[if_pos rfl];lk
  |false=>rw[h]at e3;rw[if_neg aJ];lk)]
 refine congrArg Res.ok ?_
 generalize aC Q.length=l
 induction l with
 |nil=>rfl
 |cons j l ih=>
  cases h:okV P Q j k with
  |true=>simp[h,ih]
  |false=>simp[h,ih]
noncomputable def lT(cl:List (Int×Int))(f p:Int):Int->List Int->Bool
 |_,[]=>true
 |j,q::c=>(!cl.contains (f,j)||q != p)&&lT cl f p (j+1) c
noncomputable def okC(cl:List (Int×Int)):Int->List Int->Bool
 |_,[]=>true
 |f,p::c=>lT cl f p (f+1) c&&okC cl (f+1) c
noncomputable def pr:List (List Int)->List (List Int)
 |[]=>[[]]
 |ks::r=>ks.flatMap λp=>(pr r).map λc=>p::c
noncomputable def cA(cl:List (Int×Int))(f:Int)(kss:List (List Int)):List (List Int):=(pr kss).filter (okC cl f)
theorem EC{α β:Type}(s:α->Bool)(g:α->List β):∀ks:List α,(ks.filter s).flatMap g=ks.flatMap λx=>if s x=true then g x else []
 |[]=>rfl
 |k::ks=>by
  rw[oN,iD,<-EC s g ks]
  by_cases h:s k=true
  ·rw[if_pos h,if_pos h,iD]
  ·rw[if_neg h,if_neg h,kP]
theorem ED(s:Int->Bool)(t:List Int->Bool)(ks:List Int)(r r':List (List Int))(q:List Int->Bool)(h:pr r'=(pr r).filter t)(hq:∀p c,q (p::c)=(s p&&t c)):pr (ks.filter s::r')=(pr (ks::r)).filter q:=by
 rw[pr,pr,h,EC,OK]
 refine congrArg (λg=>rS g ks) (funext λp=>?_)
 rw[xI]
 have e:(q∘λc=>p::c)=λc=>s p&&t c:=funext λc=>hq p c
 rw[e]
 cases s p with
 |true=>simp
 |false=>simp
theorem MN{α:Type}(l:List α):l.filter (λ_=>true)=l:=by simp
theorem EF(cl:List (Int×Int))(f p:Int):∀(r:List (List Int))(j:Int),pr (L2.cC cl f j r p)=(pr r).filter (lT cl f p j)
 |[],j=>rfl
 |ks::r,j=>by
  rw[L2.cC]
  have e:(if cl.contains (f,j)=true then ks.filter (λq=>q != p)else ks)=ks.filter λq=>!cl.contains (f,j)||q != p:=by
   cases cl.contains (f,j)with
   |true=>simp
   |false=>simp[MN]
  rw[e]
  exact ED _ _ ks r _ _ (EF cl f p r (j+1)) λ_ _=>rfl
theorem wK(cl:List (Int×Int))(f:Int)(ks:List Int)(r:List (List Int)):cA cl f (ks::r)=ks.flatMap λp=>(cA cl (f+1) (L2.cC cl f (f+1) r p)).map λc=>p::c:=by
 unfold cA
 rw[pr,OK]
 refine congrArg (λg=>rS g ks) (funext λp=>?_)
 rw[EF,xI,xJ]
 refine congrArg (xK _) (congrArg (λq=>List.filter q (pr r)) (funext λc=>?_))
 show(lT cl f p (f+1) c&&okC cl (f+1) c)=_
 exact Bool.and_comm _ _
theorem wL{α:Type}(g:Int->List α):∀ks:List Int,((ks.flatMap g).length:Int)=(ks.map λp=>((g p).length:Int)).sum
 |[]=>rfl
 |k::ks=>by rw[iD,bB,aL,rP,<-wL g ks];lia
theorem EG(n:Int)(cl:List (Int×Int)):∀(k:Nat)(kss:List (List Int)),kss.length=k->L2.gR n cl k kss=((cA cl (n-(k:Int)) kss).length:Int)
 |0,kss,h=>by cases rM.mp h;rfl
 |k+1,[],h=>by cases h
 |k+1,ks::r,h=>by
  have hr:r.length=k:=by rw[aN]at h;lia
  rw[L2.gR,wK,wL]
  refine congrArg List.sum (congrArg (λg=>xK g ks) (funext λp=>?_))
  rw[EG n cl k _ (by rw[kK,hr]),aI,hr]
  have e:n-((k+1:Nat):Int)+1=n-(k:Int):=by lia
  rw[e]
theorem EH{α:Type}(g:Int->List α):∀(ks:List Int)(k:Nat),k<(ks.flatMap g).length->∃a p b,ks=a++p::b/\(a.flatMap g).length<=k/\k-(a.flatMap g).length<(g p).length/\(ks.flatMap g)[k]?=(g p)[k-(a.flatMap g).length]?
 |[],k,h=>by simp at h
 |q::ks,k,h=>by
  rw[iD,bB]at h
  by_cases c:k<(g q).length
  ·refine⟨[],q,ks,rfl,fU _,by simpa using c,?_⟩
   rw[iD,jP c];rfl
  ·obtain⟨a,p,b,h1,h2,h3,h4⟩:=EH g ks (k-(g q).length) (by lia)
   refine⟨q::a,p,b,by rw[h1];rfl,?_,?_,?_⟩
   ·rw[iD,bB];lia
   ·rw[iD,bB]
    rw[show k-((g q).length+(a.flatMap g).length)=k-(g q).length-(a.flatMap g).length by lia];exact h3
   ·rw[iD,gE (by lia),h4,iD,bB]
    rw[show k-((g q).length+(a.flatMap g).length)=k-(g q).length-(a.flatMap g).length by lia]
theorem MO{f:Int}{k:Nat}(h:k<(cA cl f (ks::r)).length) :
 ∃a p b k' c,ks=a++p::b/\k=(a.map λq=>((cA cl (f+1) (L2.cC cl f (f+1) r q)).length:Int)).sum.toNat+k'/\k'<(cA cl (f+1) (L2.cC cl f (f+1) r p)).length/\(cA cl (f+1) (L2.cC cl f (f+1) r p))[k']?=some c/\(cA cl f (ks::r))[k]?=some (p::c):=by
 rw[wK]at h
 obtain⟨a,p,b,h1,h2,h3,h4⟩:=EH _ ks k h
 rw[aI]at h3
 have h5:=aP h3
 refine⟨a,p,b,_,_,h1,?_,h3,h5,?_⟩
 ·have:=wL (λq=>(cA cl (f+1) (L2.cC cl f (f+1) r q)).map λc=>q::c) a
  simp only[aI]at this
  lia
 ·rw[wK,h4,bX,h5];rfl
theorem EI(ks:List Int):∀r:List (List Int),pr (r++[ks])=(pr r).flatMap λc=>ks.map λp=>c++[p]
 |[]=>by
  show(ks.flatMap λp=>[[p]])=_
  rw[pr]
  show _=(ks.map λp=>[]++[p])++[]
  rw[gN]
  induction ks with
  |nil=>rfl
  |cons k ks ih=>rw[iD,ih];rfl
 |js::r=>by
  rw[mH,pr,pr,EI ks r,List.flatMap_assoc]
  refine congrArg (λg=>rS g js) (funext λp=>?_)
  rw[OL,OM]
  refine congrArg (λg=>rS g (pr r)) (funext λc=>?_)
  rw[dQ];rfl
noncomputable def toZ(p:Nat×Nat):Int×Int:=((p.1:Int),(p.2:Int))
noncomputable def eN(P:List Part)(ss:List Scene):List (Nat×Nat):=(jJ P.length).filter λp=>(aZ P ss p.1 p.2).isSome
noncomputable def eA(P:List Part)(ss:List Scene):List (Int×Int):=(eN P ss).map toZ
noncomputable def bkS(P:List Part)(Q:List Player)(ss:List Scene)(Y Z:D):D:=.tup [.tup (P.map Part.enc),.tup (Q.map Player.enc),.tup (ss.map Scene.enc),Y,Z]
theorem EJ:∀ps:List (Nat×Nat),jC (ps.map aF)=.ok (ps.map toZ)
 |[]=>rfl
 |p::r=>by
  show(do let q<-jC (r.map aF);Res.ok (((p.1:Int),(p.2:Int))::q))=_
  rw[EJ r];rfl
theorem mkR_ok{T:Tab}{cf:Nat->List D->Res D}{x y:E}{n:Int}{ds:List D}(h1:evE T cf x ([Sl.no,Sl.v d]++aQ m Sl.no)=.ok (.int n))(h2:evE T cf y ([Sl.no,Sl.v d]++aQ m Sl.no)=.ok (.lst ds))(h3:jC ds=.ok cl)(h4:cP T y=true):mkR T cf x y m [.non,d]=.ok (.cnt n cl):=by
 rw[mkR,h1,Res.ok_bind]
 dsimp only
 rw[h2,Res.ok_bind]
 dsimp only
 rw[h3,Res.ok_bind,h4]
 rfl
theorem mk_eq(n:Nat)(d:D):aA T dfs (n+1) 41 [.non,d]=mkR T (aA T dfs n) qV qW 0 [.non,d]:=by
 rw[aA]
 rfl
theorem wM(n:Nat)(P:List Part)(Q:List Player)(ss:List Scene)(Y Z:D)(hp:P.length<=8)(hs:ss.length<=24):aA T dfs (n+6) 41 [.non,bkS P Q ss Y Z]=.ok (.cnt P.length (eA P ss)):=by
 rw[mk_eq]
 have e1:evE T (aA T dfs (n+5)) qV ([.no,.v (bkS P Q ss Y Z)]++aQ 0 Sl.no)=.ok (.int (P.length:Nat)):=by
  have ln:=gM (f:=Part.enc) (xs:=P)
  have hx:D.ix (bkS P Q ss Y Z) (T.glob 0)=.ok (.tup (P.map Part.enc)):=rfl
  generalize bkS P Q ss Y Z=BK at *
  generalize P.map Part.enc=pd at *
  lk
 have e2:evE T (aA T dfs (n+5)) qW ([.no,.v (bkS P Q ss Y Z)]++aQ 0 Sl.no)=.ok (.lst ((eN P ss).map aF)):=by
  have c1:aA T dfs (n+5) 5 [bkS P Q ss Y Z]=.ok (.lst ((eN P ss).map aF)):=wG n (.tup (Q.map Player.enc)) Y Z P ss hs hp
  generalize bkS P Q ss Y Z=BK at *
  lk
 exact mkR_ok e1 e2 (EJ _) rfl
theorem MP{many:Nat}(h:many<=8):mR (.int (many:Int))=.ok (.lst ((aC many).map aB)):=by
 have hb:=bZ
 show aE (bN (many:Int)&&decide ((many:Int)<=((big:Nat):Int))) (.ok (D.lst (bQ 0 (many:Int).toNat)))=_
 have c:(bN (many:Int)&&decide ((many:Int)<=((big:Nat):Int)))=true:=by
  unfold bN
  rw[aD,aD,decide_eq_true_eq,decide_eq_true_eq,decide_eq_true_eq]
  lia
 rw[bV c,eY]
 have:=vB 0 many
 rw[show((0:Nat):Int)=0 from rfl]at this
 rw[this,iE]
noncomputable def chV(P:List Part)(Q:List Player)(k:Nat):List Int:=((aC Q.length).filter λj=>okV P Q j k).map λn:Nat=>(n:Int)
noncomputable def cJ(P:List Part)(Q:List Player):List (List Int):=(aC P.length).map (chV P Q)
theorem tI_ch(P:List Part)(Q:List Player)(k:Nat):D.tup (((aC Q.length).filter λj=>okV P Q j k).map aB)=tI (chV P Q k):=by
 unfold tI chV
 rw[dQ];rfl
theorem wN(n:Nat)(P:List Part)(Q:List Player)(X Y Z:D)(hv:∀p∈P,(bP p.voice).length=1)(hp:P.length<=8)(hq:Q.length<=6) :
 aA T dfs (n+2) 10 [.tup [.tup (P.map Part.enc),.tup (Q.map Player.enc),X,Y,Z]]=.ok (kD (cJ P Q)):=by
 have hb:=bZ
 have lr:=MP (many:=Q.length) (by lia)
 have rg:=fF (n:=P.length) (by lia)
 have lp:=gM (f:=Part.enc) (xs:=P)
 have lq:=gM (f:=Player.enc) (xs:=Q)
 have loop:∀(m k:Nat)(x3:Sl),k+m=P.length->∃y3,aO (aV T (aA T dfs (n+1)) (.one 3) Ck) ((dA k m).map aB) [.v (.tup [.tup (P.map Part.enc),.tup (Q.map Player.enc),X,Y,Z]),.v (.lst ((aC Q.length).map aB)),.o (.lst (((aC k).map (chV P Q)).map tI)),x3] =
  .ok (.nx [.v (.tup [.tup (P.map Part.enc),.tup (Q.map Player.enc),X,Y,Z]),.v (.lst ((aC Q.length).map aB)),.o (.lst ((cJ P Q).map tI)),y3]):=by
  intro m
  induction m with
  |zero=>intro k x3 h;exact⟨x3,by rw[show k=P.length by lia];rfl⟩
  |succ m ih=>
   intro k x3 h
   obtain⟨y3,e⟩:=ih (k+1) (.v (.int (k:Int))) (by lia)
   refine⟨y3,?_⟩
   rw[iX,aL,<-e]
   refine cD ?_
   have c:=choice n P Q X Y Z hv k (by lia)
   have l1:((aC Q.length).map aB).length<=big:=by rw[aI,dR];lia
   have tc:=tI_ch P Q k
   rw[ON,cU,cU]
   have l2:(((aC k).map (chV P Q)).map tI).length<big:=by rw[aI,aI,dR];lia
   rw[show([k].map (chV P Q)).map tI=[tI (chV P Q k)]from rfl,<-tc]
   generalize ((aC k).map (chV P Q)).map tI=old at *
   generalize ((aC Q.length).filter λj=>okV P Q j k).map aB=fd at *
   generalize (aC Q.length).map aB=rq at *
   generalize (D.tup [.tup (P.map Part.enc),.tup (Q.map Player.enc),X,Y,Z])=B at *
   unfold aB
   lk
 obtain⟨y3,e⟩:=loop P.length 0 .no (by lia)
 rw[<-iE,show((aC 0).map (chV P Q)).map tI=([]:List D)from rfl]at e
 have h0:D.ix (.tup [.tup (P.map Part.enc),.tup (Q.map Player.enc),X,Y,Z]) (T.glob 0)=.ok (.tup (P.map Part.enc)):=rfl
 have h1:D.ix (.tup [.tup (P.map Part.enc),.tup (Q.map Player.enc),X,Y,Z]) (T.glob 1)=.ok (.tup (Q.map Player.enc)):=rfl
 refine aT (k:=false) rfl rfl rfl ?_
 unfold kD
 generalize (cJ P Q).map tI=cd at *
 generalize D.tup [.tup (P.map Part.enc),.tup (Q.map Player.enc),X,Y,Z]=BK at *
 generalize P.map Part.enc=pe at *
 generalize Q.map Player.enc=qe at *
 generalize (aC P.length).map aB=rp at *
 generalize (aC Q.length).map aB=rq at *
 lk
theorem MQ(s:Nat->Bool)(q:Nat)(h:q<=3):((aC q).filter s).map (λn:Nat=>(n:Int))∈L2.subs3:=by
 have key:∀b0 b1 b2:Bool,∀q:Fin 4,((aC q.1).filter λk=>[b0,b1,b2].getD k false).map (λn:Nat=>(n:Int))∈L2.subs3:=by decide
 rw[xM (q:=λk=>[s 0,s 1,s 2].getD k false) (λk hk=>by
  have hk:=cF.mp hk
  have:k=0\/k=1\/k=2:=by lia
  rcases this with rfl|rfl|rfl<;>rfl)]
 exact key (s 0) (s 1) (s 2) ⟨q,by lia⟩
theorem EK(hq:Q.length<=3):∀ks∈cJ P Q,ks∈L2.subs3:=by
 intro ks h
 obtain⟨k,_,rfl⟩:=cZ.mp h
 exact MQ _ _ hq
theorem gC(P:List Part)(Q:List Player):(cJ P Q).length=P.length:=by unfold cJ;rw[aI,dR]
theorem EL{m:Int}(N:Nat)(hN:8<=N)(h1:m<=100)(hk:kss.length<=5)(hm:(kss.length:Int)<=m)(hs:∀ks∈kss,ks∈L2.subs3):aA T dfs N 43 [.cnt m cl,kD kss]=.ok (.int ((cA cl (m-(kss.length:Int)) kss).length:Int)):=by
 obtain⟨n,rfl⟩:∃n,N=n+kss.length+3:=⟨N-kss.length-3,by lia⟩
 rw[EA m cl h1 kss.length kss n rfl hk hm hs,EG m cl kss.length kss rfl]
theorem EM(n:Nat)(P:List Part)(Q:List Player)(ss:List Scene)(Y Z:D)(hv:∀p∈P,(bP p.voice).length=1)(hp:P.length<=5)(hq:Q.length<=3)(hs:ss.length<=24) :
 aA T dfs (n+9) 12 [bkS P Q ss Y Z]=.ok (.int ((cA (eA P ss) 0 (cJ P Q)).length:Int)):=by
 have e1:=wM (n+2) P Q ss Y Z (by lia) hs
 have e2:aA T dfs (n+8) 10 [bkS P Q ss Y Z]=.ok (kD (cJ P Q)):=wN (n+6) P Q (.tup (ss.map Scene.enc)) Y Z hv (by lia) (by lia)
 have e3:=EL (m:=P.length) (cl:=eA P ss) (kss:=cJ P Q) (n+8) (by lia) (by lia) (by rw[gC];exact hp) (by rw[gC];lia) (EK hq)
 rw[gC,rT]at e3
 refine aT (k:=false) rfl rfl rfl ?_
 generalize bkS P Q ss Y Z=B at *
 generalize kD (cJ P Q)=K at *
 lk
theorem MR(h:c e=.ok false):eE c f (n+1) e=.ok (.nx e):=by rw[eE,h];rfl
theorem MS{e1:Nv}(h:c e=.ok true)(h2:f e=.ok (.nx e1)):eE c f (n+1) e=eE c f n e1:=by rw[eE,h,Res.ok_bind,if_pos rfl,h2];rfl
section
variable{m:Int}{cl:List (Int×Int)}
theorem kD_ne(kss:List (List Int)):D.cmp .NotEq (kD kss) (.tup [])=.ok (.bl (!kss.isEmpty)):=by
 have h1:∀ks:List Int,D.pl 29 (tI ks)=true:=λks=>by
  show D.pls 29 (ks.map aW)=true
  exact kH aW 28 (λ_=>by cases 28<;>rfl) ks
 show aE (D.eqOk (kD kss) (.tup [])) (.ok (D.bl (!D.eqb (kD kss) (.tup []))))=_
 rw[bV (by
  show(D.pls 30 (kss.map tI)&&true)=true
  rw[kH tI 29 h1 kss];rfl)]
 cases kss<;>rfl
theorem wO(w:Int->Int)(hw:∀q,0<=w q):∀a:List Int,0<=(a.map w).sum
 |[]=>FP _
 |q::a=>by rw[aL,rP];have:=wO w hw a;have:=hw q;lia
theorem EN(cf:Nat->List D->Res D)(K:D)(g:Int->D)(w:Int->Int)(hw:∀q,0<=w q)(hb:∀q:Int,cf 42 [.cnt m cl,K,.int q]=.ok (g q))(hm:∀q,cf 43 [.cnt m cl,g q]=.ok (.int (w q)))(k p:Int)(b:List Int):∀(a:List Int)(ah:Int)(x4 x5:Sl),ah+(a.map w).sum<=k->k<ah+(a.map w).sum+w p ->
 ∃y5,aO (aV T cf (.one 4) Cr) ((a++p::b).map aW) [.v (.cnt m cl),.v K,.v (.int k),.v (.int ah),x4,x5]=.ok (.nx [.v (.cnt m cl),.v K,.v (.int k),.v (.int (ah+(a.map w).sum)),.v (.int p),y5])
 |[],ah,x4,x5,h1,h2=>by
  refine⟨.v (.int (w p)),?_⟩
  rw[kP,aL,iT,List.sum_nil,mK]
  rw[iT,List.sum_nil,mK]at h2
  have e1:=hb p
  have e2:=hm p
  have h2:=decide_eq_true h2
  exact LO (by unfold aW;lk)
 |q::a,ah,x4,x5,h1,h2=>by
  rw[aL,rP]at h1 h2
  have e1:=hb q
  have e2:=hm q
  have h3:=wO w hw a
  obtain⟨y5,ih⟩:=EN cf K g w hw hb hm k p b a (ah+w q) (.v (.int q)) (.v (.int (w q))) (by lia) (by lia)
  refine⟨y5,?_⟩
  rw[mH,aL,aL,rP,<-Int.add_assoc,<-ih]
  have h4:decide (k<ah+w q)=false:=decide_eq_false (by lia)
  exact cD (by unfold aW;lk)
theorem kD_0(ks:List Int)(r:List (List Int)):D.ix (kD (ks::r)) (.int 0)=.ok (.tup (ks.map aW)):=by
 unfold kD
 rw[aL]
 show Res.of (atI (tI ks::r.map tI) 0)=_
 have:atI (tI ks::r.map tI) 0=some (tI ks):=by simp[atI,ixN]
 rw[this];rfl
theorem MT(n:Nat)(a b:List Int)(p:Int)(r:List (List Int))(g:Int->D)(w:Int->Int)(hw:∀q,0<=w q)(hb:∀q:Int,aA T dfs n 42 [.cnt m cl,kD ((a++p::b)::r),.int q]=.ok (g q))(hm:∀q,aA T dfs n 43 [.cnt m cl,g q]=.ok (.int (w q)))(k:Int)(h1:(a.map w).sum<=k)(h2:k<(a.map w).sum+w p) :
 aA T dfs (n+1) 13 [.cnt m cl,kD ((a++p::b)::r),.int k]=.ok (.tup [.int p,.int (a.map w).sum]):=by
 obtain⟨y5,e⟩:=EN (aA T dfs n) _ g w hw hb hm k p b a 0 .no .no (by lia) (by lia)
 rw[jT]at e
 have e0:=kD_0 (a++p::b) r
 refine aT (k:=false) rfl rfl rfl ?_
 generalize kD ((a++p::b)::r)=K at *
 generalize (a++p::b).map aW=kd at *
 lk
structure Ch(m:Int)(kss:List (List Int)):Prop where
 m0:m<=100
 len:kss.length<=5
 le:(kss.length:Int)<=m
 sub:∀ks∈kss,ks∈L2.subs3
theorem Ch.tl(h:Ch m (ks::r))(f j p:Int):Ch m (L2.cC cl f j r p):=by
 have:=h.len
 have:=h.le
 rw[aN]at *
 exact⟨h.m0,by rw[kK];lia,by rw[kK];lia,wI cl f p j r λz hz=>h.sub z (bG _ hz)⟩
theorem Ch.behind(h:Ch m (ks::r))(N:Nat)(hN:8<=N)(p:Int):aA T dfs N 42 [.cnt m cl,kD (ks::r),.int p]=.ok (kD (L2.cC cl (m-((ks::r).length:Int)) (m-((ks::r).length:Int)+1) r p)):=by
 obtain⟨n,rfl⟩:∃n,N=n+2:=⟨N-2,by lia⟩
 have h1:=h.len
 have h2:=h.le
 rw[aN]at *
 exact K78.behind n m cl ks r p (λz hz=>cG (qY z (h.sub z (bG _ hz))) (by decide)) (by lia) (by lia) h.m0
theorem Ch.many(h:Ch m kss)(N:Nat)(hN:8<=N):aA T dfs N 43 [.cnt m cl,kD kss]=.ok (.int ((cA cl (m-(kss.length:Int)) kss).length:Int)):=EL N hN h.m0 h.len h.le h.sub
theorem qZ(ks:List Int)(r:List (List Int)):m-((ks::r).length:Int)+1=m-(r.length:Int):=by rw[aN];lia
noncomputable def bhd(m:Int)(cl:List (Int×Int))(ks:List Int)(r:List (List Int))(q:Int):List (List Int):=L2.cC cl (m-((ks::r).length:Int)) (m-((ks::r).length:Int)+1) r q
noncomputable def gD(m:Int)(cl:List (Int×Int))(ks:List Int)(r:List (List Int))(q:Int):Int:=((cA cl (m-(r.length:Int)) (bhd m cl ks r q)).length:Int)
theorem lU(ks:List Int)(r:List (List Int))(q:Int):(bhd m cl ks r q).length=r.length:=kK ..
theorem Ch.b1(h:Ch m (ks::r))(N:Nat)(hN:8<=N)(q:Int):aA T dfs N 42 [.cnt m cl,kD (ks::r),.int q]=.ok (kD (bhd m cl ks r q)):=h.behind N hN q
theorem Ch.b2(h:Ch m (ks::r))(N:Nat)(hN:8<=N)(q:Int):aA T dfs N 43 [.cnt m cl,kD (bhd m cl ks r q)]=.ok (.int (gD m cl ks r q)):=by
 have:=(h.tl (cl:=cl) (m-((ks::r).length:Int)) (m-((ks::r).length:Int)+1) q).many (cl:=cl) N hN
 rw[kK]at this
 exact this
theorem EO(ks:List Int)(r:List (List Int))(q:Int):0<=gD m cl ks r q:=xE _
theorem ER{k:Nat}(h:k<(cA cl (m-((ks::r).length:Int)) (ks::r)).length) :
 ∃(a:List Int)(p:Int)(b:List Int)(k':Nat)(c:List Int),ks=a++p::b/\(k:Int)=(a.map (gD m cl ks r)).sum+(k':Int)/\(k':Int)<gD m cl ks r p/\(cA cl (m-(r.length:Int)) (bhd m cl ks r p))[k']?=some c/\(cA cl (m-((ks::r).length:Int)) (ks::r))[k]?=some (p::c):=by
 obtain⟨a,p,b,k',c,h1,h2,h3,h4,h5⟩:=MO h
 rw[qZ]at h2 h3 h4
 have hs:=wO (gD m cl ks r) (EO ks r) a
 refine⟨a,p,b,k',c,h1,?_,?_,?_,h5⟩
 ·unfold gD bhd at *
  rw[qZ]at *
  lia
 ·unfold gD bhd
  rw[qZ]
  lia
 ·unfold bhd
  rw[qZ]
  exact h4
theorem MU(cf:Nat->List D->Res D)(B:Sl)(K K2:D)(p s k:Int)(acc:List D)(x5 x6:Sl)(hl:acc.length<big)(e4:cf 13 [.cnt m cl,K,.int k]=.ok (.tup [.int p,.int s]))(e3:cf 42 [.cnt m cl,K,.int p]=.ok K2) :
 exS T cf vT [B,.v (.int k),.v (.cnt m cl),.v K,.o (.lst acc),x5,x6]=.ok (.nx [B,.v (.int (k-s)),.v (.cnt m cl),.v K2,.o (.lst (acc++[.int p])),.v (.int p),.v (.int s)]):=by lk
theorem MV(cf:Nat->List D->Res D)(B x1 x2 x4 x5 x6:Sl)(kss:List (List Int)):nX T cf vS [B,x1,x2,.v (kD kss),x4,x5,x6]=.ok (!kss.isEmpty):=by
 have e:=kD_ne kss
 generalize kD kss=K at *
 lk
theorem MW(n:Nat)(hn:8<=n)(B:Sl):∀(N:Nat)(kss:List (List Int))(k:Nat)(acc:List Int)(x5 x6:Sl),Ch m kss->kss.length<N->acc.length+kss.length<=100->k<(cA cl (m-(kss.length:Int)) kss).length ->
 ∃c y5 y6,(cA cl (m-(kss.length:Int)) kss)[k]?=some c/\eE (nX T (aA T dfs (n+1)) vS) (exS T (aA T dfs (n+1)) vT) N [B,.v (.int (k:Int)),.v (.cnt m cl),.v (kD kss),.o (.lst (acc.map aW)),x5,x6] =
  .ok (.nx [B,.v (.int 0),.v (.cnt m cl),.v (kD []),.o (.lst ((acc++c).map aW)),y5,y6]):=by
 intro N
 induction N with
 |zero=>intro kss k acc x5 x6 _ h;exact absurd h (jS _)
 |succ N ih=>
  intro kss k acc x5 x6 hc hN hl hk
  have te:=MV (aA T dfs (n+1)) B (.v (.int (k:Int))) (.v (.cnt m cl)) (.o (.lst (acc.map aW))) x5 x6 kss
  cases kss with
  |nil=>
   have h1:(cA cl (m-(([]:List (List Int)).length:Int)) []).length=1:=rfl
   have:k=0:=by lia
   subst this
   exact⟨[],x5,x6,rfl,by rw[gN];exact MR te⟩
  |cons ks r=>
   obtain⟨a,p,b,k',c,h1,h2,h3,h4,h5⟩:=ER hk
   have hb:=bZ
   rw[aN]at hl hN
   have e3:=hc.b1 (cl:=cl) (n+1) (by lia) p
   obtain⟨c',y5,y6,i1,i2⟩:=ih (bhd m cl ks r p) k' (acc++[p]) (.v (.int p)) (.v (.int (a.map (gD m cl ks r)).sum)) (hc.tl _ _ p) (by rw[lU];lia) (by rw[lU,bB,gO];lia) (by rw[lU];unfold gD at h3;lia)
   rw[lU,h4]at i1
   injection i1 with i1
   subst i1
   refine⟨p::c,y5,y6,h5,?_⟩
   rw[xA,OO]at i2
   rw[<-i2,show(k':Int)=(k:Int)-(a.map (gD m cl ks r)).sum by lia,cU]
   have e4:=MT n a b p r (λq=>kD (bhd m cl ks r q)) (gD m cl ks r) (EO ks r) (λq=>by rw[<-h1];exact hc.b1 n hn q) (hc.b2 n hn) (k:Int) (by lia) (by lia)
   rw[<-h1]at e4
   exact MS te (MU _ B _ _ p _ _ _ x5 x6 (by rw[aI];lia) e4 e3)
end
theorem oC{α β:Type}(p:α->Bool)(f:α->β):∀l:List α,l.filterMap (λs=>if p s=true then some (f s)else none)=(l.filter p).map f
 |[]=>rfl
 |a::l=>by
  rw[jO,oN]
  cases p a with
  |true=>simp only[if_true,aL];rw[oC p f l]
  |false=>exact oC p f l
theorem MX:∀ks∈L2.subs3,ks.Pairwise (· < ·):=by decide
theorem MY(a b:List Int)(p:Int)(h:(a++p::b).Pairwise (· < ·)):(a++p::b).filter (λq=>decide (q<p))=a:=by
 rw[FS,FT]at h
 rw[OJ,oN,if_neg (by simp),FR.mpr (λq hq=>by simpa using h.2.2 q hq p bF),xN.mpr (λq hq=>by have:=h.2.1.1 q hq;simp;lia),gN]
section
variable{m:Int}{cl:List (Int×Int)}
theorem MZ(cf:Nat->List D->Res D)(B C x5 x6:Sl)(K:D)(g:Int->D)(w:Int->Int)(hb:∀q:Int,cf 42 [.cnt m cl,K,.int q]=.ok (g q))(hm:∀q,cf 43 [.cnt m cl,g q]=.ok (.int (w q)))(ks a:List Int)(p acc:Int)(e0:D.ix K (.int 0)=.ok (.tup (ks.map aW)))(hl:ks.length<=3)(hle:ks.filter (λq=>decide (q<p))=a) :
 aV T cf (.one 5) vU (.int p) [B,C,.v (.cnt m cl),.v K,.v (.int acc),x5,x6]=.ok (.nx [B,C,.v (.cnt m cl),.v (g p),.v (.int (acc+(a.map w).sum)),.v (.int p),.v (.lst (a.map aW))]):=by
 have c1:bR (bS T cf (.one 0) Cv Cu [.no,.v (.int p)]) (ks.map aW)=.ok (a.map aW):=by
  rw[eL aW (λq=>if decide (q<p)=true then some (aW q)else none) (by
   intro q _
   unfold aW
   cases hq:decide (q<p)with
   |true=>rw[if_pos rfl];lk
   |false=>rw[if_neg aJ];lk)]
  refine congrArg Res.ok ?_
  rw[oC,hle]
 have c2:bR (bS T cf (.one 0) Cw (.con (.bl true)) [.no,.v (.cnt m cl),.v K]) (a.map aW)=.ok (a.map (D.int∘w)):=by
  rw[eL aW (λq=>some (.int (w q))) (by
   intro q _
   have f1:=hb q
   have f2:=hm q
   unfold aW
   lk),rR]
  rfl
 have sm:=uR (f:=w) (xs:=a)
 have e3:=hb p
 have hb:=bZ
 have hf:=iW (λq:Int=>decide (q<p)) ks
 rw[hle]at hf
 have l1:(ks.map aW).length<=big:=by rw[aI];lia
 have l2:(a.map aW).length<=big:=by rw[aI];lia
 generalize a.map (D.int∘w)=sd at *
 generalize ks.map aW=kd at *
 generalize a.map aW=ad at *
 lk
theorem M0(n:Nat)(hn:8<=n)(B C:Sl):∀(N:Nat)(kss:List (List Int))(c:List Int)(k:Nat)(acc:Int)(x5 x6:Sl),kss.length=N->Ch m kss->(cA cl (m-(kss.length:Int)) kss)[k]?=some c ->
 ∃K y5 y6,aO (aV T (aA T dfs n) (.one 5) vU) (c.map aW) [B,C,.v (.cnt m cl),.v (kD kss),.v (.int acc),x5,x6]=.ok (.nx [B,C,.v (.cnt m cl),.v K,.v (.int (acc+(k:Int))),y5,y6]):=by
 intro N
 induction N with
 |zero=>
  intro kss c k acc x5 x6 hN _ h
  cases rM.mp hN
  rw[show cA cl (m-(([]:List (List Int)).length:Int)) []=[[]]from rfl]at h
  cases k with
  |zero=>cases h;exact⟨_,x5,x6,by rw[iT,uT,show((0:Nat):Int)=0 from rfl,mK]⟩
  |succ k=>cases h
 |succ N ih=>
  intro kss c0 k acc x5 x6 hN hc h
  cases kss with
  |nil=>cases hN
  |cons ks r=>
   obtain⟨a,p,b,k',c,h1,h2,h3,h4,h5⟩:=ER ((cT.mp h).1)
   rw[h]at h5
   injection h5 with h5
   subst h5
   have hss:=MX ks (hc.sub ks bF)
   have hlk:=qY ks (hc.sub ks bF)
   obtain⟨K,y5,y6,ih⟩:=ih (bhd m cl ks r p) c k' (acc+(a.map (gD m cl ks r)).sum) (.v (.int p)) (.v (.lst (a.map aW))) (by rw[lU];rw[aN]at hN;lia) (hc.tl _ _ p) (by rw[lU];exact h4)
   refine⟨K,y5,y6,?_⟩
   rw[Int.add_assoc,<-h2]at ih
   rw[aL,<-ih]
   exact cD (MZ _ B C x5 x6 _ _ _ (hc.b1 n hn) (hc.b2 n hn) ks a p acc (kD_0 ks r) hlk (by rw[h1]at hss⊢;exact MY a b p hss))
end
theorem M2(ws:List Nat):bJ 0 (ws.map aB)=(aC ws.length).map λk:Nat=>D.tup [.int (k:Int),aB (ws.getD k 0)]:=by
 have:=qP aB 0 ws 0
 rw[show((0:Nat):Int)=0 from rfl]at this
 rw[this]
 apply iU
 intro a _
 rw[oO]
theorem mem_getD{x:Nat}:x∈ws↔∃p,p<ws.length/\ws.getD p 0=x:=by
 rw[List.mem_iff_getElem]
 constructor
 ·rintro⟨p,hp,rfl⟩
  exact⟨p,hp,by rw[jU,aP hp];rfl⟩
 ·rintro⟨p,hp,rfl⟩
  exact⟨p,hp,by rw[jU,aP hp];rfl⟩
noncomputable def clL(P:List Part)(ss:List Scene):Nat->List (Nat×Nat)
 |0=>[]
 |m+1=>clL P ss m++((aC m).filter λi=>(aZ P ss i m).isSome).map λi=>(i,m)
theorem mem_clL:∀{m:Nat} {p:Nat×Nat},p∈clL P ss m↔p.1<p.2/\p.2<m/\(aZ P ss p.1 p.2).isSome=true
 |0,p=>⟨λh=>(nomatch h),λh=>absurd h.2.1 (by lia)⟩
 |m+1,p=>by
  rw[clL,eO,mem_clL (m:=m),cZ]
  constructor
  ·rintro(⟨h1,h2,h3⟩|⟨i,hi,rfl⟩)
   ·exact⟨h1,by lia,h3⟩
   ·obtain⟨h1,h2⟩:=cB.mp hi
    exact⟨cF.mp h1,oH _,h2⟩
  ·rintro⟨h1,h2,h3⟩
   by_cases c:p.2<m
   ·exact .inl ⟨h1,c,h3⟩
   ·have:p.2=m:=by lia
    refine .inr ⟨p.1,cB.mpr ⟨cF.mpr (by lia),by rw[<-this];exact h3⟩,by rw[<-this]⟩
theorem ES(P:List Part)(ss:List Scene):∀m,(clL P ss m).length<=m*m
 |0=>aK _
 |m+1=>by
  have h1:=ES P ss m
  have h2:=iW (λi=>(aZ P ss i m).isSome) (aC m)
  rw[dR]at h2
  rw[clL,bB,aI,Nat.mul_add,Nat.add_mul];lia
theorem ET(n:Nat)(P:List Part)(A Y Z:D)(ss:List Scene)(hs:ss.length<=24)(g:∀s∈ss,0<=s.len/\0<=s.pause)(hP:P.length<=8):∀(m k:Nat)(x2:Sl),k+m=P.length ->
 ∃x2',aO (aV T (aA T dfs (n+1)) (.one 2) Dg) ((dA k m).map aB) [.v (.tup [.tup (P.map Part.enc),A,.tup (ss.map Scene.enc),Y,Z]),.v (.lst ((clL P ss k).map aF)),x2] =
  .ok (.nx [.v (.tup [.tup (P.map Part.enc),A,.tup (ss.map Scene.enc),Y,Z]),.v (.lst ((clL P ss P.length).map aF)),x2'])
 |0,k,x2,h=>⟨x2,by rw[<-h];rfl⟩
 |m+1,k,x2,h=>by
  have hb:=bZ
  obtain⟨x2',ih⟩:=ET n P A Y Z ss hs g hP m (k+1) (.v (.int (k:Int))) (by lia)
  refine⟨x2',?_⟩
  rw[iX,aL,<-ih]
  refine cD ?_
  have rg:=fF (n:=k) (by lia)
  have c:bR (bS T (aA T dfs (n+1)) (.one 0) De Dd [.no,.v (.int (k:Int)),.v (.tup [.tup (P.map Part.enc),A,.tup (ss.map Scene.enc),Y,Z])]) ((aC k).map aB)=.ok ((((aC k).filter λi=>(aZ P ss i k).isSome).map λi=>(i,k)).map aF):=by
   rw[eL aB (λi=>if(aZ P ss i k).isSome=true then some (aF (i,k))else none) (by
    intro i hi
    have hik:=cF.mp hi
    have e1:=clash n P ss hs g i k (by lia) (by lia)
    unfold aF aB
    dsimp only
    generalize (aZ P ss i k).isSome=b at *
    generalize P.map Part.enc=pe at *
    generalize ss.map Scene.enc=se at *
    cases b with
    |true=>rw[if_pos rfl];lk
    |false=>rw[if_neg aJ];lk),oC,dQ]
   rfl
  rw[clL,cU]
  have l1:((clL P ss k).map aF).length<=64:=by rw[aI];exact cG (ES P ss k) (show k*k<=8*8 from xH (by lia) (by lia))
  have l2:((((aC k).filter λi=>(aZ P ss i k).isSome).map λi=>(i,k)).map aF).length<=8:=by
   rw[aI,aI]
   exact cG (iW _ _) (by rw[dR];lia)
  have l3:((aC k).map aB).length<=big:=by rw[aI,dR];lia
  generalize (((aC k).filter λi=>(aZ P ss i k).isSome).map λi=>(i,k)).map aF=more at *
  generalize (clL P ss k).map aF=old at *
  have ad:=CM (a:=old) (b:=more) (by lia)
  generalize (D.tup [.tup (P.map Part.enc),A,.tup (ss.map Scene.enc),Y,Z])=B at *
  generalize (aC k).map aB=rk at *
  unfold aB
  lk
theorem M3(n:Nat)(P:List Part)(A Y Z:D)(ss:List Scene)(hs:ss.length<=24)(g:∀s∈ss,0<=s.len/\0<=s.pause)(hP:P.length<=8) :
 aA T dfs (n+2) 37 [.tup [.tup (P.map Part.enc),A,.tup (ss.map Scene.enc),Y,Z]]=.ok (.lst ((clL P ss P.length).map aF)):=by
 obtain⟨x2,h⟩:=ET n P A Y Z ss hs g hP P.length 0 .no (by lia)
 rw[<-iE,show(clL P ss 0).map aF=[]from rfl]at h
 have rg:=fF (n:=P.length) (by lia)
 have ln:=gM (f:=Part.enc) (xs:=P)
 refine aT (k:=false) rfl rfl rfl ?_
 have hx:D.ix (.tup [.tup (P.map Part.enc),A,.tup (ss.map Scene.enc),Y,Z]) (.int 0)=.ok (.tup (P.map Part.enc)):=rfl
 generalize D.tup [.tup (P.map Part.enc),A,.tup (ss.map Scene.enc),Y,Z]=BK at *
 generalize P.map Part.enc=pd at *
 generalize (clL P ss P.length).map aF=r at *
 generalize (aC P.length).map aB=rk at *
 lk
noncomputable def iS(P:List Part)(Q:List Player)(cl:List (Nat×Nat))(ws:List Nat):Bool:=((aC ws.length).all λk=>okV P Q (ws.getD k 0) k)&&cl.all λp=>!decide (ws.getD p.1 0=ws.getD p.2 0)
theorem EU{k:Nat}(h:k<ws.length):D.ix (.lst (ws.map aB)) (.int (k:Int))=.ok (aB (ws.getD k 0)):=ix_l (by
 rw[bX,aP h,jU,aP h];rfl)
theorem nat_eq(a b:Nat):D.cmp .Eq (aB a) (aB b)=.ok (.bl (decide (a=b))):=by
 show D.cmp .Eq (bW (some a)) (.int (b:Int))=_
 rw[CN,show decide (some a=some b)=decide (a=b)from decide_eq_decide.mpr ⟨λh=>dJ.inj h,λh=>congrArg some h⟩]
theorem EV(n:Nat)(P:List Part)(Q:List Player)(X Y Z C:D)(hv:∀p∈P,(bP p.voice).length=1)(ws:List Nat)(wl:ws.length=P.length)(wt:∀w∈ws,w<Q.length)(x5 x6:Sl):∀(ks:List Nat)(x3 x4:Sl),(∀k∈ks,k<ws.length) ->
 ((ks.all λk=>okV P Q (ws.getD k 0) k)=true/\∃x3' x4',aO (aV T (aA T dfs n) (.many [3,4]) qS) (ks.map λk:Nat=>D.tup [.int (k:Int),aB (ws.getD k 0)]) [.v (.tup [.tup (P.map Part.enc),.tup (Q.map Player.enc),X,Y,Z]),.v C,.v (.lst (ws.map aB)),x3,x4,x5,x6]=.ok (.nx [.v (.tup [.tup (P.map Part.enc),.tup (Q.map Player.enc),X,Y,Z]),.v C,.v (.lst (ws.map aB)),x3',x4',x5,x6])) \/
 ((ks.all λk=>okV P Q (ws.getD k 0) k)=false/\aO (aV T (aA T dfs n) (.many [3,4]) qS) (ks.map λk:Nat=>D.tup [.int (k:Int),aB (ws.getD k 0)]) [.v (.tup [.tup (P.map Part.enc),.tup (Q.map Player.enc),X,Y,Z]),.v C,.v (.lst (ws.map aB)),x3,x4,x5,x6]=.ok (.rt (.bl false) false))
 |[],x3,x4,_=>.inl ⟨rfl,x3,x4,rfl⟩
 |k::ks,x3,x4,hk=>by
  have hkl:=hk k (bF ..)
  have hkP:k<P.length:=by lia
  have hj:ws.getD k 0<Q.length:=wt _ (mem_getD.mpr ⟨k,hkl,rfl⟩)
  have e1:=kI (aP hkP)
  have e2:=vO (aP hj)
  have e3:=vQ (p:=P[k]) (q:=Q[ws.getD k 0]) (hv _ (kR hkP))
  rw[<-vR hkP hj]at e3
  have e4:=vK (s:=P[k])
  have e5:=vJ (s:=Q[ws.getD k 0])
  have h0:D.ix (.tup [.tup (P.map Part.enc),.tup (Q.map Player.enc),X,Y,Z]) (.int 0)=.ok (.tup (P.map Part.enc)):=rfl
  have h1:D.ix (.tup [.tup (P.map Part.enc),.tup (Q.map Player.enc),X,Y,Z]) (.int 1)=.ok (.tup (Q.map Player.enc)):=rfl
  have ih:=EV n P Q X Y Z C hv ws wl wt x5 x6 ks (.v (.int (k:Int))) (.v (aB (ws.getD k 0))) (λq hq=>hk q (bG _ hq))
  rw[gP,aL]
  unfold okV at ih⊢
  generalize D.tup [.tup (P.map Part.enc),.tup (Q.map Player.enc),X,Y,Z]=BK at *
  generalize jK P Q k (ws.getD k 0)=c at *
  generalize P[k].enc=pk at *
  generalize Q[ws.getD k 0].enc=qk at *
  generalize hw:ws.getD k 0=w at *
  generalize ws.map aB=wd at *
  unfold aB at ih⊢
  cases c with
  |true=>
   have turn:aV T (aA T dfs n) (.many [3,4]) qS (.tup [.int (k:Int),.int (w:Int)]) [.v BK,.v C,.v (.lst wd),x3,x4,x5,x6]=.ok (.nx [.v BK,.v C,.v (.lst wd),.v (.int (k:Int)),.v (.int (w:Int)),x5,x6]):=by lk
   rw[iV,cD turn]
   exact ih
  |false=>
   refine .inr ⟨rfl,iR (by lk)⟩
theorem EW(n:Nat)(B C:D)(ws:List Nat)(x3 x4:Sl):∀(cl:List (Nat×Nat))(x5 x6:Sl),(∀p∈cl,p.1<ws.length/\p.2<ws.length) ->
 ((cl.all λp=>!decide (ws.getD p.1 0=ws.getD p.2 0))=true/\∃x5' x6',aO (aV T (aA T dfs n) (.many [5,6]) qT) (cl.map aF) [.v B,.v C,.v (.lst (ws.map aB)),x3,x4,x5,x6]=.ok (.nx [.v B,.v C,.v (.lst (ws.map aB)),x3,x4,x5',x6'])) \/
 ((cl.all λp=>!decide (ws.getD p.1 0=ws.getD p.2 0))=false/\aO (aV T (aA T dfs n) (.many [5,6]) qT) (cl.map aF) [.v B,.v C,.v (.lst (ws.map aB)),x3,x4,x5,x6]=.ok (.rt (.bl false) false))
 |[],x5,x6,_=>.inl ⟨rfl,x5,x6,rfl⟩
 |p::cl,x5,x6,hp=>by
  have h0:=hp p (bF ..)
  have e1:=EU h0.1
  have e2:=EU h0.2
  have e3:=nat_eq (ws.getD p.1 0) (ws.getD p.2 0)
  have ih:=EW n B C ws x3 x4 cl (.v (.int (p.1:Int))) (.v (.int (p.2:Int))) (λq hq=>hp q (bG _ hq))
  rw[gP,aL]
  unfold aF at ih⊢
  generalize aB (ws.getD p.1 0)=a at *
  generalize aB (ws.getD p.2 0)=b at *
  generalize decide (ws.getD p.1 0=ws.getD p.2 0)=c at *
  generalize ws.map aB=wd at *
  cases c with
  |false=>
   have turn:aV T (aA T dfs n) (.many [5,6]) qT (.tup [.int (p.1:Int),.int (p.2:Int)]) [.v B,.v C,.v (.lst wd),x3,x4,x5,x6]=.ok (.nx [.v B,.v C,.v (.lst wd),x3,x4,.v (.int (p.1:Int)),.v (.int (p.2:Int))]):=by lk
   rw[rN,iV,cD turn]
   exact ih
  |true=>
   refine .inr ⟨rfl,iR (by lk)⟩
theorem EX(n:Nat)(P:List Part)(Q:List Player)(X Y Z:D)(cl:List (Nat×Nat))(hv:∀p∈P,(bP p.voice).length=1)(ws:List Nat)(wl:ws.length=P.length)(wt:∀w∈ws,w<Q.length)(hc:∀p∈cl,p.1<ws.length/\p.2<ws.length) :
 aA T dfs (n+1) 38 [.tup [.tup (P.map Part.enc),.tup (Q.map Player.enc),X,Y,Z],.lst (cl.map aF),.lst (ws.map aB)]=.ok (.bl (iS P Q cl ws)):=by
 have en:=M2 ws
 have r1:=EV n P Q X Y Z (.lst (cl.map aF)) hv ws wl wt .no .no (aC ws.length) .no .no (λk hk=>cF.mp hk)
 refine aT (k:=false) rfl rfl rfl ?_
 unfold iS
 have en2:=uL (ds:=ws.map aB)
 rw[en]at en2
 generalize (D.tup [.tup (P.map Part.enc),.tup (Q.map Player.enc),X,Y,Z])=B at *
 generalize (aC ws.length).map (λk:Nat=>D.tup [.int (k:Int),aB (ws.getD k 0)])=EE at *
 rcases r1 with⟨h1,y3,y4,h2⟩|⟨h1,h2⟩
 ·have r2:=EW n B (.lst (cl.map aF)) ws y3 y4 cl .no .no hc
  rw[h1,iV]
  generalize ws.map aB=wd at *
  generalize cl.map aF=cd at *
  rcases r2 with⟨h3,y5,y6,h4⟩|⟨h3,h4⟩
  ·rw[h3];lk
  ·rw[h3];lk
 ·rw[h1,Et]
  generalize ws.map aB=wd at *
  generalize cl.map aF=cd at *
  lk
noncomputable def iA(pls:Nat):Nat->List (List Nat)
 |0=>[[]]
 |m+1=>(iA pls m).flatMap λc=>(aC pls).map λp=>c++[p]
theorem mem_allC{pls:Nat}:∀{m:Nat} {w:List Nat},w∈iA pls m↔w.length=m/\∀x∈w,x<pls
 |0,w=>by
  rw[iA,dE]
  constructor
  ·rintro rfl;exact⟨rfl,λx h=>nomatch h⟩
  ·exact λh=>rM.mp h.1
 |m+1,w=>by
  rw[iA,Np]
  constructor
  ·rintro⟨c,hc,h⟩
   obtain⟨p,hp,rfl⟩:=cZ.mp h
   obtain⟨h1,h2⟩:=mem_allC.mp hc
   refine⟨by rw[bB,h1];rfl,λx hx=>?_⟩
   rcases eO.mp hx with hx|hx
   ·exact h2 x hx
   ·rw[dE.mp hx];exact cF.mp hp
  ·rintro⟨h1,h2⟩
   have h0:w≠[]:=λz=>by rw[z]at h1;cases h1
   refine⟨w.dropLast,mem_allC.mpr ⟨by rw[List.length_dropLast];lia,λx hx=>h2 x (List.dropLast_subset _ hx)⟩,cZ.mpr ⟨w.getLast h0,cF.mpr (h2 _ (List.getLast_mem h0)),List.dropLast_concat_getLast h0⟩⟩
noncomputable def lN(b:List Nat):D:=.lst (b.map aB)
theorem M4(n:Nat)(ns:List Int)(many pls:Nat)(hm:many<=8)(hp:pls<=6):∃(P:List Part)(Q:List Player)(ss:List Scene)(ls:List Lk),P.length=many/\(∀p∈P,(bP p.voice).length=1)/\Q.length=pls/\ss.length<=14/\(∀s∈ss,GoodScene many s)/\GoodL pls many ls/\aA T dfs (n+3) 35 [.lst (ns.map D.int),.int (many:Int),.int (pls:Int),.int 14]=.ok (dO (.tup (ss.map Scene.enc)) P Q ls):=by
 obtain⟨P,p1,p2,p3⟩:=parts n (bO ns 1) many hm
 obtain⟨Q,q1,q2⟩:=MC n (bO ns 2) pls hp
 obtain⟨ls,l1,l2⟩:=likes n (bO ns 3) pls many hp hm
 have c1:=oA (n+1) ns 1
 rw[show((1:Nat):Int)=1 from rfl]at c1
 have c2:=oA (n+1) ns 2
 rw[show((2:Nat):Int)=2 from rfl]at c2
 have c3:=oA (n+1) ns 3
 rw[show((3:Nat):Int)=3 from rfl]at c3
 obtain⟨cells,hcells,hlen⟩:∃cells:List Int,cut (ns.map D.int) (some 6) (some 20)=cells.map D.int/\cells.length<=14:=by
  refine⟨cut ns (some 6) (some 20),by unfold cut sIx;simp,by unfold cut sIx;simp;lia⟩
 obtain⟨ss,s1,s2,s3⟩:=scenes n cells (by lia) many hm
 refine⟨P,Q,ss,ls,p1,λp hp=>(p2 p hp).2,q1,by lia,s2,l1,?_⟩
 refine aT (k:=false) rfl rfl rfl ?_
 have hcells:D.sl (.lst (ns.map D.int)) (some 6) (some (6+14))=.ok (.lst (cells.map D.int)):=congrArg (λz=>Res.ok (D.lst z)) hcells
 unfold dO
 lk
noncomputable def cK(w:List Nat):List Int:=w.map λn:Nat=>(n:Int)
theorem rA(w:List Nat):(cK w).map aW=w.map aB:=by unfold cK;rw[dQ];rfl
theorem rC(w:List Nat)(i:Nat):(cK w).getD i 0=((w.getD i 0:Nat):Int):=by
 unfold cK
 rw[jU,jU,bX]
 cases w[i]?<;>rfl
noncomputable def oE(P:List Part)(Q:List Player):Nat->List Int->Bool
 |_,[]=>true
 |k,q::c=>okV P Q q.toNat k&&oE P Q (k+1) c
theorem EY(pls:Nat):∀m:Nat,pr (aQ m ((aC pls).map λn:Nat=>(n:Int)))=(iA pls m).map cK
 |0=>rfl
 |m+1=>by
  rw[List.replicate_succ',EI,EY pls m,iA,OL,OM]
  refine congrArg (λg=>rS g (iA pls m)) (funext λc=>?_)
  rw[dQ,dQ]
  refine congrArg (λg=>xK g (aC pls)) (funext λp=>?_)
  unfold cK
  simp
theorem EZ(P:List Part)(Q:List Player):∀m k:Nat,pr ((dA k m).map (chV P Q))=(pr (aQ m ((aC Q.length).map λn:Nat=>(n:Int)))).filter (oE P Q k)
 |0,k=>rfl
 |m+1,k=>by
  rw[iX,aL,kO]
  have e:chV P Q k=((aC Q.length).map λn:Nat=>(n:Int)).filter λq=>okV P Q q.toNat k:=by
   unfold chV
   rw[xI]
   rfl
  rw[e]
  exact ED _ _ _ _ _ _ (EZ P Q m (k+1)) λ_ _=>rfl
theorem E1(cl:List (Int×Int))(f p:Int):∀(c:List Int)(j:Int),lT cl f p j c=true↔∀t:Nat,t<c.length->(f,j+(t:Int))∈cl->c.getD t 0≠p
 |[],j=>⟨λ_ t h=>absurd h (jS _),λ_=>rfl⟩
 |q::c,j=>by
  rw[lT,aD,E1 cl f p c (j+1),fH,bM,bne_iff_ne]
  constructor
  ·rintro⟨h1,h2⟩ t ht hc
   cases t with
   |zero=>
    rw[show((0:Nat):Int)=0 from rfl,mK]at hc
    rcases h1 with h1|h1
    ·rw[mD.mpr hc]at h1;cases h1
    ·exact h1
   |succ t=>
    rw[aN]at ht
    exact h2 t (by lia) (by rw[show j+1+(t:Int)=j+((t+1:Nat):Int) by lia];exact hc)
  ·intro h
   refine⟨?_,λt ht hc=>?_⟩
   ·by_cases hc:(f,j)∈cl
    ·exact .inr (h 0 (Nat.succ_pos _) (by rw[show((0:Nat):Int)=0 from rfl,mK];exact hc))
    ·refine .inl ?_
     cases hb:cl.contains (f,j)with
     |false=>rfl
     |true=>exact absurd (mD.mp hb) hc
   ·have:=h (t+1) (by rw[aN];lia) (by rw[show j+((t+1:Nat):Int)=j+1+(t:Int) by lia];exact hc)
    exact this
theorem E2(cl:List (Int×Int)):∀(c:List Int)(f:Int),okC cl f c=true↔∀i j:Nat,i<j->j<c.length->(f+(i:Int),f+(j:Int))∈cl->c.getD i 0≠c.getD j 0
 |[],f=>⟨λ_ i j _ h=>absurd h (jS _),λ_=>rfl⟩
 |p::c,f=>by
  rw[okC,aD,E1,E2 cl c (f+1)]
  constructor
  ·rintro⟨h1,h2⟩ i j hij hj hc
   rw[aN]at hj
   cases j with
   |zero=>lia
   |succ j=>
    cases i with
    |zero=>
     have:=h1 j (by lia) (by rw[show f+1+(j:Int)=f+((j+1:Nat):Int) by lia];rw[show((0:Nat):Int)=0 from rfl,mK]at hc;exact hc)
     exact λz=>this z.symm
    |succ i=>exact h2 i j (by lia) (by lia) (by rw[show f+1+(j:Int)=f+((j+1:Nat):Int) by lia,show f+1+(i:Int)=f+((i+1:Nat):Int) by lia];exact hc)
  ·intro h
   refine⟨λt ht hc z=>?_,λi j hij hj hc=>?_⟩
   ·exact h 0 (t+1) (by lia) (by rw[aN];lia) (by rw[show f+((t+1:Nat):Int)=f+1+(t:Int) by lia,show((0:Nat):Int)=0 from rfl,mK];exact hc) z.symm
   ·exact h (i+1) (j+1) (by lia) (by rw[aN];lia) (by rw[show f+((j+1:Nat):Int)=f+1+(j:Int) by lia,show f+((i+1:Nat):Int)=f+1+(i:Int) by lia];exact hc)
theorem E3(P:List Part)(Q:List Player):∀(w:List Nat)(k:Nat),oE P Q k (cK w)=true↔∀i,i<w.length->okV P Q (w.getD i 0) (k+i)=true
 |[],k=>⟨λ_ i h=>absurd h (jS _),λ_=>rfl⟩
 |q::w,k=>by
  show(okV P Q ((q:Int)).toNat k&&oE P Q (k+1) (cK w))=true↔_
  rw[aD,E3 P Q w (k+1),eY]
  constructor
  ·rintro⟨h1,h2⟩ i hi
   rw[aN]at hi
   cases i with
   |zero=>exact h1
   |succ i=>have:=h2 i (by lia);rw[show k+(i+1)=k+1+i by lia];exact this
  ·intro h
   exact⟨h 0 (Nat.succ_pos _),λi hi=>by have:=h (i+1) (by rw[aN];lia);rw[show k+(i+1)=k+1+i by lia]at this;exact this⟩
theorem E4(P:List Part)(ss:List Scene)(p:Nat×Nat):p∈eN P ss↔p∈clL P ss P.length:=by
 unfold eN
 rw[cB,mem_clL]
 exact⟨λh=>⟨(jL h.1).1,(jL h.1).2,h.2⟩,λh=>⟨Ls h.1 h.2.1,h.2.2⟩⟩
theorem E5(P:List Part)(ss:List Scene)(i j:Nat):((i:Int),(j:Int))∈eA P ss↔(i,j)∈eN P ss:=by
 unfold eA
 rw[cZ]
 constructor
 ·rintro⟨p,hp,e⟩
  unfold toZ at e
  injection e with e1 e2
  have:p=(i,j):=Prod.ext (by lia) (by lia)
  rw[<-this];exact hp
 ·exact λh=>⟨(i,j),h,rfl⟩
theorem rD(wl:w.length=P.length):iS P Q (clL P ss P.length) w=true↔(∀i,i<w.length->okV P Q (w.getD i 0) i=true)/\∀p∈eN P ss,w.getD p.1 0≠w.getD p.2 0:=by
 unfold iS
 rw[aD,eP,eP]
 constructor
 ·rintro⟨h1,h2⟩
  refine⟨λi hi=>h1 i (cF.mpr hi),λp hp=>?_⟩
  have:=h2 p ((E4 P ss p).mp hp)
  simpa using this
 ·rintro⟨h1,h2⟩
  refine⟨λi hi=>h1 i (cF.mp hi),λp hp=>?_⟩
  have:=h2 p ((E4 P ss p).mpr hp)
  simpa using this
theorem M5(wl:w.length=P.length):iS P Q (clL P ss P.length) w=(oE P Q 0 (cK w)&&okC (eA P ss) 0 (cK w)):=by
 rw[rQ,rD wl,aD,E3,E2]
 have lc:(cK w).length=w.length:=aI ..
 constructor
 ·rintro⟨h1,h2⟩
  refine⟨λi hi=>by rw[oO];exact h1 i hi,λi j hij hj hc=>?_⟩
  rw[jT,jT,E5]at hc
  rw[rC,rC]
  have:=h2 (i,j) hc
  dsimp only at this
  lia
 ·rintro⟨h1,h2⟩
  refine⟨λi hi=>by have:=h1 i hi;rw[oO]at this;exact this,λp hp=>?_⟩
  have hm:=jL (cB.mp hp).1
  have:=h2 p.1 p.2 hm.1 (by rw[lc,wl];exact hm.2) (by rw[jT,jT,E5];exact hp)
  rw[rC,rC]at this
  lia
noncomputable def aM(P:List Part)(Q:List Player)(ss:List Scene):List (List Nat):=(iA Q.length P.length).filter (iS P Q (clL P ss P.length))
theorem E6(P:List Part)(Q:List Player)(ss:List Scene):(aM P Q ss).map cK=cA (eA P ss) 0 (cJ P Q):=by
 unfold cA cJ aM
 rw[iE,EZ,EY,xJ,xI]
 refine congrArg (xK cK) (xM λw hw=>?_)
 rw[M5 (mem_allC.mp hw).1]
 exact Bool.and_comm _ _
theorem M6(P:List Part)(Q:List Player)(ss:List Scene):(cA (eA P ss) 0 (cJ P Q)).length=(aM P Q ss).length:=by rw[<-E6,aI]
theorem E7{k:Nat}(h:(aM P Q ss)[k]?=some w):(cA (eA P ss) 0 (cJ P Q))[k]?=some (cK w):=by rw[<-E6,bX,h];rfl
theorem M7(wl:w.length=P.length):lR P Q (eN P ss) (w.map some)=[]↔iS P Q (clL P ss P.length) w=true:=by
 rw[rD wl]
 unfold lR
 have gd:∀i,i<w.length->(w.map some).getD i none=some (w.getD i 0):=λi hi=>by
  rw[jU,bX,jU,aP hi];rfl
 rw[List.append_eq_nil_iff,List.filterMap_eq_nil_iff,List.map_eq_nil_iff,xN,aI]
 constructor
 ·rintro⟨h1,h2⟩
  refine⟨λi hi=>?_,λp hp z=>?_⟩
  ·have:=h1 i (cF.mpr hi)
   unfold eM at this
   rw[gd i hi]at this
   dsimp only at this
   unfold okV
   cases hm:jK P Q i (w.getD i 0)with
   |true=>rfl
   |false=>rw[hm]at this;cases this
  ·have hm:=jL (cB.mp hp).1
   have:=h2 p hp
   unfold fS at this
   rw[gd p.1 (by lia),gd p.2 (by lia),z]at this
   simp at this
 ·rintro⟨h1,h2⟩
  refine⟨λi hi=>?_,λp hp z=>?_⟩
  ·have hi:=cF.mp hi
   have:=h1 i hi
   unfold okV at this
   unfold eM
   rw[gd i hi]
   dsimp only
   rw[if_pos this]
  ·have hm:=jL (cB.mp hp).1
   unfold fS at z
   rw[gd p.1 (by lia),gd p.2 (by lia)]at z
   simp only[FE,iV,decide_eq_true_eq,dJ.injEq]at z
   exact h2 p hp z
theorem ask_ok(n:Nat)(b c:D)(h:aA T dfs (n+6) 8 [b,c]=.ok (.lst [])):aA T dfs (n+7) 9 [b,c]=.ok .non:=by
 refine LN (e:=[.v b,.v c]) rfl rfl rfl ?_
 have q:D.cmp .NotEq (.lst []) (.lst [])=.ok (.bl false):=rfl
 lk
section
variable{P:List Part}{Q:List Player}{ss:List Scene}{Y Z:D}
theorem M8(n:Nat)(hv:∀p∈P,(bP p.voice).length=1)(hp:P.length<=5)(hs:ss.length<=24)(cs:List (Option Nat))(hl:cs.length=P.length)(hc:∀j,some j∈cs->j<Q.length) :
 aA T dfs (n+6) 8 [bkS P Q ss Y Z,.lst (cs.map bW)]=.ok (.lst ((lR P Q (eN P ss) cs).map Flt.enc)):=
 MI n P Q ss Y Z (by lia) hs hv cs hl hc (eN P ss) (λp h=>by have:=jL (cB.mp h).1;lia) (by
  have h1:=iW (λp:Nat×Nat=>(aZ P ss p.1 p.2).isSome) (jJ P.length)
  have h2:=vI P.length P.length
  have h3:P.length*P.length<=5*5:=xH hp hp
  unfold eN
  unfold jJ at h1⊢
  lia) (wG n (.tup (Q.map Player.enc)) Y Z P ss hs (by lia))
theorem Ch.all(hp:P.length<=5)(hq:Q.length<=3):Ch (P.length:Int) (cJ P Q):=⟨by lia,by rw[gC];exact hp,by rw[gC];lia,EK hq⟩
theorem M9(w:List Nat):w.map aB=(w.map some).map bW:=by rw[dQ];rfl
theorem E8(n:Nat)(hv:∀p∈P,(bP p.voice).length=1)(hp:P.length<=5)(hq:Q.length<=3)(hs:ss.length<=24){k:Nat}(h:(aM P Q ss)[k]?=some w) :
 aA T dfs (n+10) 14 [bkS P Q ss Y Z,.int (k:Int)]=.ok (lN w):=by
 have hw:=E7 h
 have hk:=(cT.mp hw).1
 have e1:=wM (n+3) P Q ss Y Z (by lia) hs
 have e2:aA T dfs (n+9) 10 [bkS P Q ss Y Z]=.ok (kD (cJ P Q)):=wN (n+7) P Q (.tup (ss.map Scene.enc)) Y Z hv (by lia) (by lia)
 have hc:=Ch.all (P:=P) hp hq
 have e3:=hc.many (cl:=eA P ss) (n+9) (by lia)
 rw[gC,rT]at e3
 obtain⟨c,y5,y6,i1,i2⟩:=MW (cl:=eA P ss) (n+8) (by lia) (.v (bkS P Q ss Y Z)) 1000 (cJ P Q) k [] .no .no hc (by rw[gC];lia) (by rw[gC,oM];lia) (by rw[gC,rT];exact hk)
 rw[gC,rT,hw]at i1
 have i1:=dJ.inj i1
 subst i1
 rw[kP,rA,iT]at i2
 refine aT (k:=true) rfl rfl rfl ?_
 unfold lN
 have hk1:decide ((0:Int)<=(k:Int))=true:=decide_eq_true (by lia)
 have hk2:decide ((k:Int)<((cA (eA P ss) 0 (cJ P Q)).length:Int))=true:=decide_eq_true (by lia)
 generalize bkS P Q ss Y Z=B at *
 generalize kD (cJ P Q)=K at *
 generalize kD []=K0 at *
 generalize ((cA (eA P ss) 0 (cJ P Q)).length:Int)=W at *
 generalize w.map aB=wd at *
 have hk3:(!decide ((k:Int)<W))=false:=by rw[hk2];rfl
 lk
theorem E9(n:Nat)(hv:∀p∈P,(bP p.voice).length=1)(hp:P.length<=5)(hq:Q.length<=3)(hs:ss.length<=24){k:Nat}(h:(aM P Q ss)[k]?=some w) :
 aA T dfs (n+10) 15 [bkS P Q ss Y Z,lN w]=.ok (.int (k:Int)):=by
 have hw:=E7 h
 have hm:=cB.mp (iB h)
 have wl:=(mem_allC.mp hm.1).1
 have wt:=(mem_allC.mp hm.1).2
 have e0:=M8 (Y:=Y) (Z:=Z) (n+2) hv hp hs (w.map some) (by rw[aI];exact wl) (λj hj=>by
  obtain⟨x,hx,e⟩:=cZ.mp hj
  injection e with e
  rw[<-e];exact wt x hx)
 rw[(M7 wl).mpr hm.2]at e0
 have e4:=ask_ok (n+2) _ _ e0
 rw[<-M9]at e4
 have e1:=wM (n+3) P Q ss Y Z (by lia) hs
 have e2:aA T dfs (n+9) 10 [bkS P Q ss Y Z]=.ok (kD (cJ P Q)):=wN (n+7) P Q (.tup (ss.map Scene.enc)) Y Z hv (by lia) (by lia)
 have hc:=Ch.all (P:=P) hp hq
 obtain⟨K',y5,y6,i2⟩:=M0 (cl:=eA P ss) (n+9) (by lia) (.v (bkS P Q ss Y Z)) (.v (lN w)) P.length (cJ P Q) (cK w) k 0 .no .no (gC P Q) hc (by rw[gC,rT];exact hw)
 rw[rA,jT]at i2
 refine aT (k:=false) rfl rfl rfl ?_
 unfold lN at *
 generalize bkS P Q ss Y Z=B at *
 generalize kD (cJ P Q)=K at *
 generalize w.map aB=wd at *
 lk
end
theorem E_:∀a b:List Nat,D.eqs (a.map aB) (b.map aB)=decide (a=b)
 |[],[]=>rfl
 |[],_::_=>rfl
 |_::_,[]=>rfl
 |x::a,y::b=>by
  show((x:Int)==(y:Int)&&D.eqs (a.map aB) (b.map aB))=_
  rw[E_ a b,rQ,aD,beq_iff_eq,decide_eq_true_eq,decide_eq_true_eq,List.cons.injEq]
  exact and_congr_left λ_=>by lia
theorem lN_pl(k:Nat)(b:List Nat):D.pl (k+1) (lN b)=true:=by
 show D.pls (k+1) (b.map aB)=true
 exact kH aB k (CO k) b
theorem kL{α:Type}{f:D->Res (Option D)}(enc:α->D){R:D->Prop}:∀{xs:List α},(∀a∈xs,∃d,f (enc a)=.ok (some d)/\R d)->∃ds,bR f (xs.map enc)=.ok ds/\ds.length=xs.length/\∀d∈ds,R d
 |[],_=>⟨[],rfl,rfl,λd h=>nomatch h⟩
 |a::r,h=>by
  obtain⟨d,h1,h2⟩:=h a bF
  obtain⟨ds,i1,i2,i3⟩:=kL enc λx hx=>h x (bG _ hx)
  refine⟨d::ds,?_,congrArg (·+1) i2,λx hx=>?_⟩
  ·rw[aL,bR,h1,Res.ok_bind,i1];rfl
  ·rcases bU.mp hx with rfl|hx
   ·exact h2
   ·exact i3 x hx
noncomputable def IsI(d:D):Prop:=∃v:Int,d=.int v
theorem Ea:∀{ds:List D},(∀d∈ds,IsI d)->∃ns:List Int,ds=ns.map D.int
 |[],_=>⟨[],rfl⟩
 |d::ds,h=>by
  obtain⟨v,rfl⟩:=h d bF
  obtain⟨ns,rfl⟩:=Ea λx hx=>h x (bG _ hx)
  exact⟨v::ns,rfl⟩
theorem Eb(n:Nat)(B:D)(i j:Nat):∀(ls:List Lk)(x3:Sl),(∃v,aO (aV T (aA T dfs n) (.one 3) vV) (ls.map cI) [.v B,.v (.int (i:Int)),.v (.int (j:Int)),x3]=.ok (.rt (.int v) false)) \/
 ∃x,aO (aV T (aA T dfs n) (.one 3) vV) (ls.map cI) [.v B,.v (.int (i:Int)),.v (.int (j:Int)),x3]=.ok (.nx [.v B,.v (.int (i:Int)),.v (.int (j:Int)),x])
 |[],x3=>.inr ⟨x3,rfl⟩
 |l::ls,x3=>by
  have g:=ME l.1.1 l.1.2 i j
  have h0:D.sl (cI l) none (some 2)=.ok (.tup [.int (l.1.1:Int),.int (l.1.2:Int)]):=rfl
  have h1:D.ix (cI l) (.int 2)=.ok (.int l.2):=rfl
  rw[aL]
  generalize cI l=ld at *
  generalize decide ((l.1.1,l.1.2)=(i,j))=b at g
  cases b with
  |true=>exact .inl ⟨l.2,iR (by lk)⟩
  |false=>rw[cD (e1:=[.v B,.v (.int (i:Int)),.v (.int (j:Int)),.v ld]) (by lk)];exact Eb n B i j ls _
theorem M_(n:Nat)(S:D)(P:List Part)(Q:List Player)(ls:List Lk)(i j:Nat):∃v,aA T dfs (n+1) 25 [dO S P Q ls,.int (i:Int),.int (j:Int)]=.ok (.int v):=by
 have h3:D.ix (dO S P Q ls) (T.glob 3)=.ok (.tup (ls.map cI)):=rfl
 rcases Eb n (dO S P Q ls) i j ls .no with⟨v,l⟩|⟨x,l⟩
 ·refine⟨v,aT (k:=false) rfl rfl rfl ?_⟩
  generalize dO S P Q ls=B at *
  generalize ls.map cI=ld at *
  lk
 ·refine⟨0,aT (k:=false) rfl rfl rfl ?_⟩
  generalize dO S P Q ls=B at *
  generalize ls.map cI=ld at *
  lk
noncomputable def RowI(m:Nat)(d:D):Prop:=∃r:List D,d=.tup r/\r.length=m/\∀x∈r,IsI x
theorem Ma(n:Nat)(S:D)(P:List Part)(Q:List Player)(ls:List Lk)(i:Nat)(hP:P.length<=8):∃d,aA T dfs (n+2) 26 [dO S P Q ls,.int (i:Int)]=.ok d/\RowI P.length d:=by
 have hb:=bZ
 have rg:=fF (n:=P.length) (by lia)
 obtain⟨r,c,rl,ri⟩:=kL (f:=bS T (aA T dfs (n+1)) (.one 0) DT (.con (.bl true)) [.no,.v (dO S P Q ls),.v (.int (i:Int))]) aB (R:=IsI) (xs:=aC P.length) (by
  intro j _
  obtain⟨v,g⟩:=M_ n S P Q ls i j
  refine⟨.int v,?_,v,rfl⟩
  generalize dO S P Q ls=B at *
  unfold aB
  lk)
 have l:((aC P.length).map aB).length<=big:=by rw[aI,dR];lia
 have h0:D.ix (dO S P Q ls) (T.glob 0)=.ok (.tup (P.map Part.enc)):=rfl
 have ln:=gM (f:=Part.enc) (xs:=P)
 refine⟨.tup r,aT (k:=false) rfl rfl rfl ?_,r,rfl,rl.trans dR,ri⟩
 generalize dO S P Q ls=B at *
 generalize (aC P.length).map aB=R at *
 generalize P.map Part.enc=pe at *
 lk
structure GoodP(p q:Nat)(hs ls:List D):Prop where
 h1:hs.length=q
 h2:∀d∈hs,IsI d
 l1:ls.length=q
 l2:∀d∈ls,RowI p d
theorem Mb(n:Nat)(S:D)(P:List Part)(Q:List Player)(ls:List Lk)(hP:P.length<=8)(hQ:Q.length<=6):∃hs rs,GoodP P.length Q.length hs rs/\aA T dfs (n+3) 27 [dO S P Q ls]=.ok (.tup [.tup hs,.tup rs]):=by
 have hb:=bZ
 have rg:=fF (n:=Q.length) (by lia)
 obtain⟨hs,c1,hl,hi⟩:=kL (f:=bS T (aA T dfs (n+2)) (.one 0) DV (.con (.bl true)) [.no]) Player.enc (R:=IsI) (xs:=Q) (by
  intro p _
  have g:D.ix p.enc (.int 2)=.ok (.int p.hire):=rfl
  refine⟨.int p.hire,?_,_,rfl⟩
  generalize p.enc=pe at *
  lk)
 obtain⟨rs,c2,rl,ri⟩:=kL (f:=bS T (aA T dfs (n+2)) (.one 0) DW (.con (.bl true)) [.no,.v (dO S P Q ls)]) aB (R:=RowI P.length) (xs:=aC Q.length) (by
  intro i _
  obtain⟨d,g,hd⟩:=Ma n S P Q ls i hP
  refine⟨d,?_,hd⟩
  generalize dO S P Q ls=B at *
  unfold aB
  lk)
 refine⟨hs,rs,⟨hl,hi,rl.trans dR,ri⟩,aT (k:=false) rfl rfl rfl ?_⟩
 have l1:(Q.map Player.enc).length<=big:=by rw[aI];lia
 have l2:((aC Q.length).map aB).length<=big:=by rw[aI,dR];lia
 have h0:D.ix (dO S P Q ls) (T.glob 1)=.ok (.tup (Q.map Player.enc)):=rfl
 have ln:=gM (f:=Player.enc) (xs:=Q)
 generalize dO S P Q ls=B at *
 generalize (aC Q.length).map aB=RQ at *
 generalize Q.map Player.enc=qe at *
 lk
noncomputable abbrev Tp(ok:Nat->Bool)(ps:List (Nat×Nat))(l t:List Nat):Prop:=t.Sublist l/\(∀p∈t,ok p=true)/\t.Pairwise λa b=>(a,b)∉ps
noncomputable def Tk(ok:Nat->Bool)(ps:List (Nat×Nat))(l:List Nat)(ts:List (List Nat)):Prop:=ts.length<=2^l.length/\∀t,t∈ts↔Tp ok ps l t
theorem Mc{s:List Nat}:s.Sublist (l++[p])↔s.Sublist l\/∃t,s=t++[p]/\t.Sublist l:=by
 rw[List.sublist_append_iff]
 constructor
 ·rintro⟨a,b,rfl,h1,h2⟩
  cases h2 with
  |cons _ h=>rw[FU.mp h,gN];exact .inl h1
  |cons_cons _ h=>rw[FU.mp h];exact .inr ⟨a,rfl,h1⟩
 ·rintro(h|⟨t,rfl,h⟩)
  ·exact⟨s,[],(gN _).symm,h,List.nil_sublist _⟩
  ·exact⟨t,[p],rfl,h,List.Sublist.refl _⟩
theorem Md{ok:Nat->Bool}{ts:List (List Nat)}(h:Tk ok ps l ts):Tk ok ps (l++[p]) (if ok p=true then ts++(ts.filter λt=>t.all λo=>!decide ((o,p)∈ps)).map (·++[p])else ts):=by
 obtain⟨h0,h⟩:=h
 refine⟨?_,λt=>?_⟩
 ·have:=iW (λt=>t.all λo=>!decide ((o,p)∈ps)) ts
  rw[bB,gO,FM]
  split
  ·rw[bB,aI];lia
  ·lia
 ·unfold Tp at *
  rw[Mc]
  by_cases c:ok p=true
  ·rw[if_pos c,eO,h]
   constructor
   ·rintro(⟨h1,h2,h3⟩|q)
    ·exact⟨.inl h1,h2,h3⟩
    ·obtain⟨t0,h5,rfl⟩:=cZ.mp q
     obtain⟨h5,h4⟩:=cB.mp h5
     obtain⟨h1,h2,h3⟩:=(h _).mp h5
     refine⟨.inr ⟨t0,rfl,h1⟩,λq hq=>?_,FS.mpr ⟨h3,OP _ _,λa ha b hb=>?_⟩⟩
     ·rcases eO.mp hq with hq|hq
      ·exact h2 q hq
      ·rw[dE.mp hq];exact c
     ·rw[dE.mp hb]
      simpa using eP.mp h4 a ha
   ·rintro⟨h1|⟨t0,rfl,h1⟩,h2,h3⟩
    ·exact .inl ⟨h1,h2,h3⟩
    ·obtain⟨g1,_,g3⟩:=FS.mp h3
     refine .inr (cZ.mpr ⟨t0,cB.mpr ⟨(h _).mpr ⟨h1,λq hq=>h2 q (rG _ hq),g1⟩,?_⟩,rfl⟩)
     rw[eP]
     intro a ha
     simpa using g3 a ha p (dE.mpr rfl)
  ·rw[if_neg c,h]
   constructor
   ·rintro⟨h1,h2,h3⟩;exact⟨.inl h1,h2,h3⟩
   ·rintro⟨h1|⟨t0,rfl,h1⟩,h2,h3⟩
    ·exact⟨h1,h2,h3⟩
    ·exact absurd (h2 p (fT _ (dE.mpr rfl))) c
theorem Me(n:Nat)(ps:List (Nat×Nat))(t:List Nat)(ht:t.length<=100)(p:Nat):aA T dfs (n+1) 16 [.lst (ps.map aF),tN t,.int (p:Int)]=.ok (.bl (t.all λo=>!decide ((o,p)∈ps))):=by
 have hb:=bZ
 have c:bR (bS T (aA T dfs n) (.one 0) Cz (.con (.bl true)) [.no,.v (.lst (ps.map aF)),.v (.int (p:Int))]) (t.map aB)=.ok ((t.map λo=>!decide ((o,p)∈ps)).map D.bl):=by
  rw[eL aB (λo=>some (D.bl (!decide ((o,p)∈ps)))) (by
   intro o _
   have e:D.cmp .NotIn (.tup [.int (o:Int),.int (p:Int)]) (.lst (ps.map aF))=.ok (.bl (!decide ((o,p)∈ps))):=MF (o,p) ps
   generalize (!decide ((o,p)∈ps))=b at *
   generalize ps.map aF=pp at *
   unfold aB
   lk),rR,dQ]
  rfl
 have l1:(t.map aB).length<=big:=by rw[aI];lia
 have it:D.items (tN t)=.ok (t.map aB):=rfl
 have bl:Bt.run .all [.lst ((t.map λo=>!decide ((o,p)∈ps)).map D.bl)]=.ok (.bl (t.all λo=>!decide ((o,p)∈ps))):=by
  rw[Li,show gT ((t.map λo=>!decide ((o,p)∈ps)).map D.bl)=.ok (t.map λo=>!decide ((o,p)∈ps)) by
   generalize (t.map λo=>!decide ((o,p)∈ps))=q
   clear c l1 it ht
   induction q with
   |nil=>rfl
   |cons b r ih=>rw[aL,gT,ih];rfl,Res.ok_bind,FJ]
  rfl
 refine aT (k:=false) rfl rfl rfl ?_
 generalize (t.all λo=>!decide ((o,p)∈ps))=a at *
 generalize (t.map λo=>!decide ((o,p)∈ps)).map D.bl=qd at *
 generalize tN t=td at *
 generalize t.map aB=tl at *
 lk
theorem Ec(n:Nat)(P:List Part)(Q:List Player)(X Y Z:D)(ps:List (Nat×Nat))(hv:∀p∈P,(bP p.voice).length=1)(j:Nat)(hj:j<Q.length)(L:D):∀(rest l0:List Nat)(ts:List (List Nat))(x5:Sl),(l0++rest).length<=5->(∀p∈rest,p<P.length)->Tk (okV P Q j) ps l0 ts ->
 ∃ts' x5',Tk (okV P Q j) ps (l0++rest) ts'/\aO (aV T (aA T dfs (n+1)) (.one 5) DD) (rest.map aB) [.v (.tup [.tup (P.map Part.enc),.tup (Q.map Player.enc),X,Y,Z]),.v (.lst (ps.map aF)),.v (.int (j:Int)),.v L,.v (.lst (ts.map tN)),x5] =
  .ok (.nx [.v (.tup [.tup (P.map Part.enc),.tup (Q.map Player.enc),X,Y,Z]),.v (.lst (ps.map aF)),.v (.int (j:Int)),.v L,.v (.lst (ts'.map tN)),x5'])
 |[],l0,ts,x5,_,_,h=>⟨ts,x5,by rw[gN];exact h,rfl⟩
 |p::rest,l0,ts,x5,hl,hp,h=>by
  have hb:=bZ
  have hl0:l0.length<=4:=by simp at hl;lia
  obtain⟨d,hd,hn⟩:=Du n P Q X Y Z hv j p hj (hp p (bF ..))
  have tl:ts.length<=2^4:=cG h.1 (FV (by lia) hl0)
  have tm:∀t∈ts,t.length<=4:=λt ht=>cG ((h.2 t).mp ht).1.length_le hl0
  obtain⟨ts',x5',ih,i2⟩:=Ec n P Q X Y Z ps hv j hj L rest (l0++[p]) _ (.v (.int (p:Int))) (by simpa using hl) (λq hq=>hp q (bG _ hq)) (Md (p:=p) h)
  refine⟨ts',x5',by rw[xA,OO]at ih;exact ih,?_⟩
  rw[aL,<-i2]
  refine cD ?_
  unfold aB
  generalize (D.tup [.tup (P.map Part.enc),.tup (Q.map Player.enc),X,Y,Z])=B at *
  have ec:D.cmp .Is d .non=.ok (.bl (okV P Q j p)):=by rw[EB,hn]
  generalize okV P Q j p=c at *
  cases c with
  |false=>rw[if_neg aJ];lk
  |true=>
   have cc:bR (bS T (aA T dfs (n+1)) (.one 0) DC DB [.no,.v (.int (p:Int)),.v (.lst (ps.map aF))]) (ts.map tN)=.ok (((ts.filter λt=>t.all λo=>!decide ((o,p)∈ps)).map (·++[p])).map tN):=by
    rw[eL tN (λt=>if(t.all λo=>!decide ((o,p)∈ps))=true then some (tN (t++[p]))else none) (by
     intro t ht
     have e1:=Me n ps t (cG (tm t ht) (by lia)) p
     have e2:D.bin .Add (tN t) (.tup [.int (p:Int)])=.ok (tN (t++[p])):=by
      have:=tm t ht
      show aE (decide ((t.map aB).length+1<=big)) _=_
      rw[bV (decide_eq_true (by rw[aI];lia))]
      unfold tN
      rw[cU];rfl
     generalize (t.all λo=>!decide ((o,p)∈ps))=b at *
     generalize ps.map aF=pp at *
     generalize tN t=td at *
     generalize tN (t++[p])=te at *
     cases b with
     |true=>rw[if_pos rfl];lk
     |false=>rw[if_neg aJ];lk),oC,dQ]
    rfl
   rw[if_pos rfl,cU]
   have fl:(((ts.filter λt=>t.all λo=>!decide ((o,p)∈ps)).map (·++[p])).map tN).length<=16:=by
    rw[aI,aI]
    exact cG (iW _ _) tl
   have tl2:(ts.map tN).length<=16:=by rw[aI];exact tl
   generalize ((ts.filter λt=>t.all λo=>!decide ((o,p)∈ps)).map (·++[p])).map tN=more at *
   generalize ts.map tN=td at *
   have e3:D.bin .Add (.lst td) (.lst more)=.ok (.lst (td++more)):=by
    show aE (decide (td.length+more.length<=big)) _=_
    rw[bV (decide_eq_true (by lia))]
   lk
theorem Mf(n:Nat)(P:List Part)(Q:List Player)(X Y Z:D)(ps:List (Nat×Nat))(hv:∀p∈P,(bP p.voice).length=1)(j:Nat)(hj:j<Q.length)(left:List Nat)(hl:left.length<=5)(hp:∀p∈left,p<P.length) :
 ∃ts,Tk (okV P Q j) ps left ts/\aA T dfs (n+2) 17 [.tup [.tup (P.map Part.enc),.tup (Q.map Player.enc),X,Y,Z],.lst (ps.map aF),.int (j:Int),tN left]=.ok (.lst (ts.map tN)):=by
 obtain⟨ts,x5',h,i2⟩:=Ec n P Q X Y Z ps hv j hj (tN left) left [] [[]] .no (by simpa using hl) hp ⟨aK 1,λt=>by
  unfold Tp
  rw[dE,FU]
  exact⟨λe=>by rw[e];exact⟨rfl,(λp h=>nomatch h),FC.nil⟩,λh=>h.1⟩⟩
 rw[show [([]:List Nat)].map tN=[.tup []]from rfl]at i2
 have it:D.items (tN left)=.ok (left.map aB):=rfl
 refine⟨ts,h,aT (k:=false) rfl rfl rfl ?_⟩
 generalize (D.tup [.tup (P.map Part.enc),.tup (Q.map Player.enc),X,Y,Z])=B at *
 generalize ts.map tN=r at *
 generalize tN left=tl at *
 lk
noncomputable def cL(left t:List Nat):List Nat:=left.filter λp=>!decide (p∈t)
noncomputable def Sk(m:Nat)(ok:Nat->Nat->Bool)(ps:List (Nat×Nat))(k:Nat)(l:List Nat):Prop:=
 ∃f:Nat->Nat,l=(aC m).filter (λp=>decide (k<=f p))/\(∀p,p<m->f p<k->ok (f p) p=true)/\∀a b,(a,b)∈ps->f a=f b->k<=f a
theorem Ed{a b:Nat}:∀{t:List Nat},t.Pairwise (λa b=>(a,b)∉ps)->t.Pairwise (· < ·)->a∈t->b∈t->a<b->(a,b)∉ps
 |x::t,h,g,ha,hb,hl=>by
  obtain⟨h1,h2⟩:=FT.mp h
  obtain⟨g1,g2⟩:=FT.mp g
  rcases bU.mp ha with ea|ha
  ·rcases bU.mp hb with eb|hb
   ·lia
   ·rw[ea];exact h1 b hb
  ·rcases bU.mp hb with eb|hb
   ·have:=g1 a ha;lia
   ·exact Ed h2 g2 ha hb hl
theorem Mg{ok:Nat->Nat->Bool}(hps:∀q∈ps,q.1<q.2){k:Nat}:(∃e,Sk m ok ps k e/\∃t,Tp (ok k) ps e t/\l=cL e t)↔Sk m ok ps (k+1) l:=by
 constructor
 ·rintro⟨_,⟨f,rfl,h1,h2⟩,t,⟨t1,t2,t3⟩,rfl⟩
  have tp:=(OQ (n:=m)).sublist (t1.trans OR)
  have tf:∀p∈t,k<=f p:=λp hp=>by simpa using(cB.mp (t1.subset hp)).2
  refine⟨λp=>if p∈t then k else if k<=f p then k+1 else f p,?_,λp hp hk=>?_,λa b hab he=>?_⟩
  ·unfold cL
   rw[xJ]
   refine xM λp _=>?_
   by_cases c:p∈t
   ·simp[c]
   ·by_cases d:k<=f p
    ·simp[c,d]
    ·simp[c,d];lia
  ·by_cases c:p∈t
   ·simp only[c,if_true];exact t2 p c
   ·by_cases d:k<=f p
    ·simp only[c,d,if_true,if_false]at hk;lia
    ·simp only[c,d,if_false];exact h1 p hp (by lia)
  ·have hl:=hps _ hab
   by_cases ca:a∈t
   ·by_cases cb:b∈t
    ·exact absurd hab (Ed t3 tp ca cb hl)
    ·simp only[ca,cb,if_true,if_false]at he
     split at he<;>lia
   ·by_cases cb:b∈t
    ·simp only[ca,cb,if_true,if_false]at he
     split at he<;>lia
    ·simp only[ca,cb,if_false]at he⊢
     split
     ·lia
     ·rename_i d
      rw[if_neg d]at he
      split at he
      ·lia
      ·exact absurd (h2 a b hab he) d
 ·rintro⟨f,rfl,h1,h2⟩
  refine⟨_,⟨f,rfl,λp hp hk=>h1 p hp (by lia),λa b hab he=>by have:=h2 a b hab he;lia⟩,((aC m).filter λp=>decide (k<=f p)).filter λp=>decide (f p=k),⟨OR,λp hp=>?_,?_⟩,?_⟩
  ·obtain⟨hp,he⟩:=cB.mp hp
   have he:=of_decide_eq_true he
   have:=h1 p (cF.mp (cB.mp hp).1) (by lia)
   rwa [he]at this
  ·refine FC.imp_of_mem (R:=λ_ _=>True) (λ{a b} ha hb _ hab=>?_) (List.pairwise_of_forall λ_ _=>trivial)
   have e1:=of_decide_eq_true (cB.mp ha).2
   have e2:=of_decide_eq_true (cB.mp hb).2
   have:=h2 a b hab (by lia)
   lia
  ·unfold cL
   rw[xJ]
   refine xM λp hp=>?_
   by_cases d:k<=f p
   ·by_cases e:f p=k
    ·have g:p∈((aC m).filter λp=>decide (k<=f p)).filter λp=>decide (f p=k):=cB.mpr ⟨cB.mpr ⟨hp,by simpa using d⟩,by simpa using e⟩
     simp only[g,decide_true,mC,Et,decide_eq_false_iff_not];lia
    ·have g:p∉((aC m).filter λp=>decide (k<=f p)).filter λp=>decide (f p=k):=λz=>e (by simpa using(cB.mp z).2)
     simp only[g,d,decide_true,decide_false,rN,iV,decide_eq_true_eq];lia
   ·rw[decide_eq_false d,FB,decide_eq_false_iff_not];lia
theorem sk_zero{ok:Nat->Nat->Bool}:Sk m ok ps 0 l↔l=aC m:=by
 have e:∀f:Nat->Nat,(aC m).filter (λp=>decide (0<=f p))=aC m:=λf=>FR.mpr λp _=>decide_eq_true (fU _)
 constructor
 ·rintro⟨f,rfl,_⟩;exact e f
 ·rintro rfl
  exact⟨λ_=>0,(e _).symm,λp _ h=>absurd h (jS _),λ_ _ _ _=>fU _⟩
theorem sk_in{ok:Nat->Nat->Bool}{k:Nat}(h:Sk m ok ps k l):l.length<=m/\∀p∈l,p<m:=by
 obtain⟨f,rfl,_⟩:=h
 exact⟨cG (iW _ _) (Ew dR),λp hp=>cF.mp (cB.mp hp).1⟩
theorem sk_some:Sk P.length (okV P Q) (eN P ss) Q.length []↔aM P Q ss≠[]:=by
 have hps:∀q∈eN P ss,q.1<P.length/\q.2<P.length:=λq h=>by have:=jL (cB.mp h).1;lia
 constructor
 ·rintro⟨f,e,h1,h2⟩ z
  have hf:∀p,p<P.length->f p<Q.length:=λp hp=>by
   have:=xN.mp e.symm p (cF.mpr hp)
   simpa using this
  have at':∀p,p<P.length->((aC P.length).map f).getD p 0=f p:=λp hp=>by simp[jU,hp]
  have wl:((aC P.length).map f).length=P.length:=by rw[aI,dR]
  have:(aC P.length).map f∈aM P Q ss:=by
   refine cB.mpr ⟨mem_allC.mpr ⟨wl,λx hx=>?_⟩,(rD wl).mpr ⟨λi hi=>?_,λp hp he=>?_⟩⟩
   ·obtain⟨p,hp,rfl⟩:=cZ.mp hx
    exact hf p (cF.mp hp)
   ·rw[wl]at hi
    rw[at' i hi];exact h1 i hi (hf i hi)
   ·obtain⟨b1,b2⟩:=hps p hp
    rw[at' _ b1,at' _ b2]at he
    have:=h2 p.1 p.2 hp he
    have:=hf p.1 b1
    lia
  rw[z]at this
  exact nomatch this
 ·intro z
  obtain⟨w,r,hw⟩:=List.exists_cons_of_ne_nil z
  have hw:w∈aM P Q ss:=by rw[hw];exact bF
  obtain⟨h1,h2⟩:=cB.mp hw
  obtain⟨wl,wt⟩:=mem_allC.mp h1
  obtain⟨g1,g2⟩:=(rD wl).mp h2
  have lt:∀p,p<P.length->w.getD p 0<Q.length:=λp hp=>wt _ (mem_getD.mpr ⟨p,by lia,rfl⟩)
  refine⟨λp=>w.getD p 0,(xN.mpr λp hp=>?_).symm,λp hp _=>g1 p (by lia),λa b hab he=>absurd he (g2 _ hab)⟩
  have:=lt p (cF.mp hp)
  simp only[decide_eq_true_eq];lia
theorem tN_nil(t:List Nat):D.cmp .Eq (tN t) (.tup [])=.ok (.bl (decide (t=[]))):=by
 unfold tN
 rw[Lq (kH aB 29 (CO 29) t)]
 cases t<;>rfl
theorem Mh(n:Nat)(g:GoodP p q hs rs)(hj:j<q)(t:List Nat)(ht:∀x∈t,x<p)(hl:t.length<=100) :
 ∃c,aA T dfs (n+1) 18 [.tup [.tup hs,.tup rs],.int (j:Int),tN t]=.ok (.int c):=by
 have hb:=bZ
 have h1:j<hs.length:=by rw[g.h1];exact hj
 have h2:j<rs.length:=by rw[g.l1];exact hj
 obtain⟨v,hv⟩:=g.h2 _ (kR h1)
 obtain⟨r,hr,rl,ri⟩:=g.l2 _ (kR h2)
 have e2:=iQ (aP h1)
 have e3:=iQ (aP h2)
 rw[hv]at e2
 rw[hr]at e3
 have e1:=tN_nil t
 have it:D.items (tN t)=.ok (t.map aB):=rfl
 obtain⟨ds,c,_,di⟩:=kL (f:=bS T (aA T dfs n) (.one 0) DF (.con (.bl true)) [.no,.v (.tup rs),.v (.int (j:Int))]) aB (R:=IsI) (xs:=t) (by
  intro x hx
  have hx':x<r.length:=by rw[rl];exact ht x hx
  have q:=iQ (aP hx')
  refine⟨r[x],?_,ri _ (kR hx')⟩
  generalize r[x]=y at *
  generalize D.tup r=rt at *
  generalize D.tup rs=rt at *
  unfold aB
  lk)
 obtain⟨ns,rfl⟩:=Ea di
 have s1:=Bj (ns:=ns)
 have l1:(t.map aB).length<=big:=by rw[aI];lia
 generalize t.map aB=tl at *
 by_cases q:t=[]
 ·refine⟨0,aT (k:=false) rfl rfl rfl ?_⟩
  rw[decide_eq_true q]at e1
  generalize tN t=td at *
  lk
 ·refine⟨v+ns.sum,aT (k:=true) rfl rfl rfl ?_⟩
  rw[decide_eq_false q]at e1
  generalize tN t=td at *
  generalize ns.map D.int=nd at *
  lk
theorem Mi(n:Nat)(left t:List Nat)(hl:left.length<=100):aA T dfs (n+1) 19 [tN left,tN t]=.ok (tN (cL left t)):=by
 have hb:=bZ
 have it:D.items (tN left)=.ok (left.map aB):=rfl
 have l1:(left.map aB).length<=big:=by rw[aI];lia
 have c:bR (bS T (aA T dfs n) (.one 0) DI DH [.no,.v (tN t)]) (left.map aB)=.ok ((cL left t).map aB):=by
  refine CD aB (λp=>!decide (p∈t)) ?_
  intro p _
  have e:D.cmp .NotIn (.int (p:Int)) (tN t)=.ok (.bl (!decide (p∈t))):=by
   show(do let k<-aE (D.pls 30 (bH t)&&D.pl 29 (.int (p:Int))) (.ok (D.mem (.int (p:Int)) (bH t)));.ok (D.bl (!k)))=_
   rw[uY 29,uX];rfl
  generalize (!decide (p∈t))=b at *
  generalize tN t=td at *
  unfold aB
  cases b with
  |true=>rw[if_pos rfl];lk
  |false=>rw[if_neg aJ];lk
 refine aT (k:=false) rfl rfl rfl ?_
 show _=Res.ok (Out.rt (D.tup ((cL left t).map aB)) false)
 generalize (cL left t).map aB=r at *
 generalize left.map aB=ll at *
 generalize tN left=td at *
 lk
theorem Mj(n:Nat)(cs:List D)(t:List Nat)(j:Nat)(hl:cs.length<=100):∃cs',cs'.length=cs.length/\aA T dfs (n+1) 20 [.lst cs,tN t,.int (j:Int)]=.ok (.lst cs'):=by
 have hb:=bZ
 have en:=qP id D.non cs 0
 rw[List.map_id,show((0:Nat):Int)=0 from rfl]at en
 have en:qK (.lst cs)=.ok ((aC cs.length).map λk:Nat=>D.tup [.int ((0+k:Nat):Int),id (cs.getD k .non)]):=congrArg Res.ok en
 obtain⟨ds,c,dl,_⟩:=kL (f:=bS T (aA T dfs n) (.many [0,1]) DK (.con (.bl true)) [.no,.no,.v (.int (j:Int)),.v (tN t)]) (λk:Nat=>D.tup [.int ((0+k:Nat):Int),id (cs.getD k .non)]) (R:=λ_=>True) (xs:=aC cs.length) (by
  intro k _
  have e:D.cmp .In (.int ((0+k:Nat):Int)) (tN t)=.ok (.bl (decide (0+k∈t))):=lQ
  generalize id (cs.getD k .non)=o at *
  generalize tN t=td at *
  generalize decide (0+k∈t)=b at *
  generalize ((0+k:Nat):Int)=i at *
  cases b with
  |true=>exact⟨.int (j:Int),by lk,trivial⟩
  |false=>exact⟨o,by lk,trivial⟩)
 rw[dR]at dl
 have l2:((aC cs.length).map λk:Nat=>D.tup [.int ((0+k:Nat):Int),id (cs.getD k .non)]).length<=big:=by rw[aI,dR];lia
 refine⟨ds,dl,aT (k:=true) rfl rfl rfl ?_⟩
 generalize ((aC cs.length).map λk:Nat=>D.tup [.int ((0+k:Nat):Int),id (cs.getD k .non)])=el at *
 lk
noncomputable def bT(k:List Nat):List (Sum Int Str):=k.map λ(i:Nat)=>Sum.inl (i:Int)
theorem rE:∀{a b:List Nat},bT a=bT b->a=b
 |[],[],_=>rfl
 |[],_::_,h=>nomatch h
 |_::_,[],h=>nomatch h
 |x::a,y::b,h=>by
  injection h with h1 h2
  injection h1 with h1
  rw[Int.ofNat.inj h1,rE h2]
theorem oF:∀k:List Nat,dG (k.map aB)=some (bT k)
 |[]=>rfl
 |a::k=>by
  show(dG (k.map aB)).map (Sum.inl (a:Int)::·)=_
  rw[oF k];rfl
theorem Ml(k:List Nat):lA (tN k)=.ok (bT k):=by
 show Res.of (dG (k.map aB))=_
 rw[oF];rfl
noncomputable abbrev Wd:=List (List (Sum Int Str)×D)
noncomputable def Ws(S:List Nat->Prop)(L:Wd):Prop:=(∀e∈L,∃(k:List Nat)(c:Int)(cs:List D),e=(bT k,.tup [.int c,.lst cs])/\cs.length<=100/\S k)/\∀k,S k->bT k∈L.map (·.1)
theorem Ws.iff{S S':List Nat->Prop}(h:Ws S L)(e:∀k,S k↔S' k):Ws S' L:=
 ⟨λx hx=>(h.1 x hx).elim λk ⟨c,cs,h1,h2,h3⟩=>⟨k,c,cs,h1,h2,(e k).mp h3⟩,λk hk=>h.2 k ((e k).mpr hk)⟩
theorem wQ(L:Wd)(k:List (Sum Int Str)):(∃d,cH L k=some d/\(k,d)∈L)\/(cH L k=none/\k∉L.map (·.1)):=by
 unfold cH
 cases h:L.find? λkv=>decide (kv.1=k)with
 |some x=>
  have e:x.1=k:=by simpa using Nt h
  exact .inl ⟨x.2,rfl,by rw[<-e];exact Nr h⟩
 |none=>
  refine .inr ⟨rfl,λz=>?_⟩
  obtain⟨x,hx,e⟩:=cZ.mp z
  exact absurd (decide_eq_true e) (List.find?_eq_none.mp h x hx)
theorem Ws.get{S:List Nat->Prop}(h:Ws S L){k:List Nat}(hk:S k):∃c cs,cH L (bT k)=some (.tup [.int c,.lst cs])/\cs.length<=100:=by
 rcases wQ L (bT k)with⟨d,h1,h2⟩|⟨_,h2⟩
 ·obtain⟨_,c,cs,e,hl,_⟩:=h.1 _ h2
  injection e with _ e
  exact⟨c,cs,by rw[h1,e],hl⟩
 ·exact absurd (h.2 k hk) h2
theorem Ws.put{S:List Nat->Prop}(h:Ws S L)(k:List Nat)(c:Int){cs:List D}(hc:cs.length<=100):Ws (λx=>S x\/x=k) (iJ L (bT k) (.tup [.int c,.lst cs]))/\(iJ L (bT k) (.tup [.int c,.lst cs])).length<=L.length+1:=by
 have old:∀e∈L,∃(k':List Nat)(c:Int)(cs:List D),e=(bT k',.tup [.int c,.lst cs])/\cs.length<=100/\(S k'\/k'=k):=λe he=>(h.1 e he).elim λk' ⟨c,cs,h1,h2,h3⟩=>⟨k',c,cs,h1,h2,.inl h3⟩
 unfold iJ
 by_cases q:(L.any λe=>decide (e.1=bT k))=true
 ·rw[if_pos q]
  have hf:(L.map λkv=>if kv.1=bT k then(kv.1,D.tup [.int c,.lst cs])else kv).map (·.1)=L.map (·.1):=by
   rw[dQ]
   refine iU λe _=>?_
   show(if e.1=bT k then(e.1,D.tup [.int c,.lst cs])else e).1=e.1
   split<;>rfl
  refine⟨⟨λe he=>?_,λx hx=>?_⟩,by rw[aI];lia⟩
  ·obtain⟨y,hy,rfl⟩:=cZ.mp he
   by_cases z:y.1=bT k
   ·rw[if_pos z];exact⟨k,c,cs,by rw[z],hc,.inr rfl⟩
   ·rw[if_neg z];exact old y hy
  ·rw[hf]
   rcases hx with hx|rfl
   ·exact h.2 x hx
   ·obtain⟨y,hy,z⟩:=xG.mp q
    exact cZ.mpr ⟨y,hy,of_decide_eq_true z⟩
 ·rw[if_neg q]
  refine⟨⟨λe he=>?_,λx hx=>?_⟩,by rw[bB];exact aK _⟩
  ·rcases eO.mp he with he|he
   ·exact old e he
   ·rw[dE.mp he];exact⟨k,c,cs,rfl,hc,.inr rfl⟩
  ·rw[cU]
   rcases hx with hx|rfl
   ·exact rG _ (h.2 x hx)
   ·exact fT _ bF
theorem Ws.keys{S:List Nat->Prop}:∀{L:Wd},(∀e∈L,∃(k:List Nat)(c:Int)(cs:List D),e=(bT k,.tup [.int c,.lst cs])/\cs.length<=100/\S k)->∃es:List (List Nat),L.map (·.1)=es.map bT/\(L.map λkv=>D.tup (kv.1.map iI))=es.map tN/\∀k∈es,S k
 |[],_=>⟨[],rfl,rfl,λk h=>nomatch h⟩
 |e::L,h=>by
  obtain⟨k,c,cs,rfl,_,hk⟩:=h e bF
  obtain⟨es,i1,i2,i3⟩:=Ws.keys λx hx=>h x (bG _ hx)
  refine⟨k::es,by rw[aL,i1];rfl,?_,λx hx=>?_⟩
  ·rw[aL,i2,aL]
   refine congrArg (·::_) ?_
   show D.tup ((bT k).map iI)=_
   unfold bT tN
   rw[dQ];rfl
  ·rcases bU.mp hx with rfl|hx
   ·exact hk
   ·exact i3 x hx
theorem dix{k:List Nat}(h:cH L (bT k)=some d):D.ix (.tdc L) (tN k)=.ok d:=by
 show(Res.of (dG (k.map aB))>>=λq=>Res.of (cH L q))=_
 rw[oF]
 show Res.of (cH L (bT k))=_
 rw[h];rfl
theorem dnotin(L:Wd)(k:List Nat):D.cmp .NotIn (tN k) (.tdc L)=.ok (.bl (!(cH L (bT k)).isSome)):=by
 show(do let z<-(Res.of (dG (k.map aB))>>=λq=>Res.ok (cH L q).isSome);Res.ok (D.bl (!z)))=_
 rw[oF];rfl
theorem Ee(n:Nat)(B C W:D)(g:GoodP p q hs rs)(hj:j<q)(left:List Nat)(hl:left.length<=100)(c:Int)(cs:List D)(hc:cs.length<=100):∀(ts:List (List Nat))(L:Wd)(S:List Nat->Prop)(x9 x10 x11:Sl),
 L.length+ts.length<=100000->(∀t∈ts,t.length<=100/\∀x∈t,x<p)->Ws S L ->
 ∃L' x9' x10' x11',Ws (λk=>S k\/∃t∈ts,k=cL left t) L'/\L'.length<=L.length+ts.length/\aO (aV T (aA T dfs (n+1)) (.one 9) qQ) (ts.map tN) [.v B,.v C,.v (.tup [.tup hs,.tup rs]),.v (.int (j:Int)),.v W,.o (.tdc L),.v (tN left),.v (.int c),.v (.lst cs),x9,x10,x11] =
  .ok (.nx [.v B,.v C,.v (.tup [.tup hs,.tup rs]),.v (.int (j:Int)),.v W,.o (.tdc L'),.v (tN left),.v (.int c),.v (.lst cs),x9',x10',x11'])
 |[],L,S,x9,x10,x11,_,_,h=>⟨L,x9,x10,x11,h.iff λk=>⟨.inl,λz=>z.elim id λ⟨_,t,_⟩=>nomatch t⟩,aK _,rfl⟩
 |t::ts,L,S,x9,x10,x11,ha,ht,h=>by
  have hbig:(100000:Nat)<big:=by decide
  rw[aN]at ha
  have h0:=ht t bF
  have e1:=Mi n left t hl
  obtain⟨v,e2⟩:=Mh n g hj t h0.2 h0.1
  obtain⟨cs',cl,e3⟩:=Mj n cs t j hc
  have e4:=dnotin L (cL left t)
  have e5:=Ml (cL left t)
  have lb:L.length<big:=by lia
  have fin:∀L1:Wd,Ws (λx=>S x\/x=cL left t) L1->L1.length<=L.length+1->aV T (aA T dfs (n+1)) (.one 9) qQ (tN t) [.v B,.v C,.v (.tup [.tup hs,.tup rs]),.v (.int (j:Int)),.v W,.o (.tdc L),.v (tN left),.v (.int c),.v (.lst cs),x9,x10,x11]=.ok (.nx [.v B,.v C,.v (.tup [.tup hs,.tup rs]),.v (.int (j:Int)),.v W,.o (.tdc L1),.v (tN left),.v (.int c),.v (.lst cs),.v (tN t),.v (tN (cL left t)),.v (.int (c+v))]) ->
   ∃L' x9' x10' x11',Ws (λk=>S k\/∃u∈t::ts,k=cL left u) L'/\L'.length<=L.length+(t::ts).length/\aO (aV T (aA T dfs (n+1)) (.one 9) qQ) ((t::ts).map tN) [.v B,.v C,.v (.tup [.tup hs,.tup rs]),.v (.int (j:Int)),.v W,.o (.tdc L),.v (tN left),.v (.int c),.v (.lst cs),x9,x10,x11] =
    .ok (.nx [.v B,.v C,.v (.tup [.tup hs,.tup rs]),.v (.int (j:Int)),.v W,.o (.tdc L'),.v (tN left),.v (.int c),.v (.lst cs),x9',x10',x11']):=λL1 w1 l1 e=>by
   obtain⟨L',y9,y10,y11,i1,i2,i3⟩:=Ee n B C W g hj left hl c cs hc ts L1 _ (.v (tN t)) (.v (tN (cL left t))) (.v (.int (c+v))) (by lia) (λu hu=>ht u (bG _ hu)) w1
   refine⟨L',y9,y10,y11,i1.iff λk=>?_,by rw[aN];lia,by rw[aL,cD e];exact i3⟩
   constructor
   ·rintro((h|h)|⟨u,hu,h⟩)
    ·exact .inl h
    ·exact .inr ⟨t,bF,h⟩
    ·exact .inr ⟨u,bG _ hu,h⟩
   ·rintro(h|⟨u,hu,h⟩)
    ·exact .inl (.inl h)
    ·rcases bU.mp hu with rfl|hu
     ·exact .inl (.inr h)
     ·exact .inr ⟨u,hu,h⟩
  obtain⟨w1,l1⟩:=h.put (cL left t) (c+v) (by rw[cl];exact hc:cs'.length<=100)
  by_cases hk:S (cL left t)
  ·obtain⟨c0,cs0,e6,_⟩:=h.get hk
   have e7:=dix e6
   have e8:D.ix (.tup [.int c0,.lst cs0]) (.int 0)=.ok (.int c0):=rfl
   rw[e6]at e4
   cases hd:decide (c+v<c0)with
   |true=>
    refine fin _ w1 l1 ?_
    clear fin h w1 l1
    generalize D.tup [.tup hs,.tup rs]=prd at *
    generalize D.tup [.int c0,.lst cs0]=d0 at *
    generalize tN (cL left t)=kt at *
    generalize tN t=td at *
    generalize tN left=tl at *
    lk
   |false=>
    refine fin L (h.iff λk=>⟨.inl,λz=>z.elim id λe=>by rw[e];exact hk⟩) (by lia) ?_
    clear fin h w1 l1
    generalize D.tup [.tup hs,.tup rs]=prd at *
    generalize D.tup [.int c0,.lst cs0]=d0 at *
    generalize tN (cL left t)=kt at *
    generalize tN t=td at *
    generalize tN left=tl at *
    lk
  ·have e6:cH L (bT (cL left t))=none:=by
    rcases wQ L (bT (cL left t))with⟨d,_,h2⟩|⟨h1,_⟩
    ·obtain⟨k,_,_,e,_,z⟩:=h.1 _ h2
     injection e with e _
     rw[rE e]at hk
     exact absurd z hk
    ·exact h1
   rw[e6]at e4
   refine fin _ w1 l1 ?_
   clear fin h w1 l1
   generalize D.tup [.tup hs,.tup rs]=prd at *
   generalize tN (cL left t)=kt at *
   generalize tN t=td at *
   generalize tN left=tl at *
   lk
theorem Ef(n:Nat)(P:List Part)(Q:List Player)(X Y Z:D)(ps:List (Nat×Nat))(hv:∀p∈P,(bP p.voice).length=1)(g:GoodP P.length Q.length hs rs)(hj:j<Q.length)(hW:Ws S0 W)(h0:∀k,S0 k->k.length<=5/\∀p∈k,p<P.length):∀(es:List (List Nat))(L:Wd)(S:List Nat->Prop)(x6 x7 x8 x9 x10 x11:Sl),
 L.length+es.length*32<=100000->(∀e∈es,S0 e)->Ws S L ->
 ∃L' x6' x7' x8' x9' x10' x11',Ws (λk=>S k\/∃e∈es,∃t,Tp (okV P Q j) ps e t/\k=cL e t) L'/\L'.length<=L.length+es.length*32/\aO (aV T (aA T dfs (n+2)) (.one 6) DN) (es.map tN) [.v (.tup [.tup (P.map Part.enc),.tup (Q.map Player.enc),X,Y,Z]),.v (.lst (ps.map aF)),.v (.tup [.tup hs,.tup rs]),.v (.int (j:Int)),.v (.tdc W),.o (.tdc L),x6,x7,x8,x9,x10,x11] =
  .ok (.nx [.v (.tup [.tup (P.map Part.enc),.tup (Q.map Player.enc),X,Y,Z]),.v (.lst (ps.map aF)),.v (.tup [.tup hs,.tup rs]),.v (.int (j:Int)),.v (.tdc W),.o (.tdc L'),x6',x7',x8',x9',x10',x11'])
 |[],L,S,x6,x7,x8,x9,x10,x11,_,_,h=>⟨L,x6,x7,x8,x9,x10,x11,h.iff λk=>⟨.inl,λz=>z.elim id λ⟨_,t,_⟩=>nomatch t⟩,aK _,rfl⟩
 |e::es,L,S,x6,x7,x8,x9,x10,x11,ha,he,h=>by
  rw[aN]at ha
  have se:=he e bF
  obtain⟨c,cs,e1,hc⟩:=hW.get se
  have e1:=dix e1
  obtain⟨el,ep⟩:=h0 e se
  obtain⟨ts,tk,t1⟩:=Mf n P Q X Y Z ps hv j hj e el ep
  have tl:ts.length<=2^5:=cG tk.1 (FV (by lia) el)
  obtain⟨L1,y9,y10,y11,i1,i2,i3⟩:=Ee (n+1) (.tup [.tup (P.map Part.enc),.tup (Q.map Player.enc),X,Y,Z]) (.lst (ps.map aF)) (.tdc W) g hj e (by lia) c cs hc ts L S x9 x10 x11 (by lia) (λt ht=>by
   have hs:=((tk.2 t).mp ht).1
   exact⟨cG hs.length_le (by lia),λp hp=>ep p (hs.subset hp)⟩) h
  obtain⟨L',x6',x7',x8',x9',x10',x11',k1,k2,k3⟩:=Ef n P Q X Y Z ps hv g hj hW h0 es L1 _ (.v (tN e)) (.v (.int c)) (.v (.lst cs)) y9 y10 y11 (by lia) (λq hq=>he q (bG _ hq)) i1
  refine⟨L',x6',x7',x8',x9',x10',x11',k1.iff λk=>?_,by rw[aN];lia,?_⟩
  ·constructor
   ·rintro((h|⟨t,ht,h⟩)|⟨u,hu,h⟩)
    ·exact .inl h
    ·exact .inr ⟨e,bF,t,(tk.2 t).mp ht,h⟩
    ·exact .inr ⟨u,bG _ hu,h⟩
   ·rintro(h|⟨u,hu,t,ht,h⟩)
    ·exact .inl (.inl h)
    ·rcases bU.mp hu with rfl|hu
     ·exact .inl (.inr ⟨t,(tk.2 t).mpr ht,h⟩)
     ·exact .inr ⟨u,hu,t,ht,h⟩
  ·rw[aL,<-k3]
   refine cD ?_
   clear h h0 he ha k1 k2 k3 i1 i2
   generalize (D.tup [.tup (P.map Part.enc),.tup (Q.map Player.enc),X,Y,Z])=B at *
   generalize D.tup [.tup hs,.tup rs]=prd at *
   generalize ts.map tN=td at *
   generalize tN e=ke at *
   lk
theorem Mm(n:Nat)(P:List Part)(Q:List Player)(X Y Z:D)(ps:List (Nat×Nat))(hv:∀p∈P,(bP p.voice).length=1)(g:GoodP P.length Q.length hs rs)(hj:j<Q.length)(hW:Ws S0 W)(h0:∀k,S0 k->k.length<=5/\∀p∈k,p<P.length)(hl:W.length*32<=100000) :
 ∃L,Ws (λk=>∃e,S0 e/\∃t,Tp (okV P Q j) ps e t/\k=cL e t) L/\L.length<=W.length*32/\aA T dfs (n+3) 22 [.tup [.tup (P.map Part.enc),.tup (Q.map Player.enc),X,Y,Z],.lst (ps.map aF),.tup [.tup hs,.tup rs],.int (j:Int),.tdc W]=.ok (.tdc L):=by
 obtain⟨es,k1,k2,k3⟩:=Ws.keys hW.1
 have kl:es.length=W.length:=by have:=congrArg Ey k1;rw[aI,aI]at this;exact this.symm
 obtain⟨L,x6,x7,x8,x9,x10,x11,i1,i2,i3⟩:=Ef n P Q X Y Z ps hv g hj hW h0 es [] (λ_=>False) .no .no .no .no .no .no (by rw[kl,oM];lia) k3 ⟨(λe h=>nomatch h),λ_ h=>h.elim⟩
 have dk:mW (.tdc W)=.ok (es.map tN):=congrArg Res.ok k2
 refine⟨L,i1.iff λk=>⟨λz=>z.elim False.elim λ⟨e,he,z⟩=>⟨e,k3 e he,z⟩,λ⟨e,he,z⟩=>.inr ⟨e,?_,z⟩⟩,by rw[kl,oM]at i2;lia,aT (k:=false) rfl rfl rfl ?_⟩
 ·have:=hW.2 e he
  rw[k1]at this
  obtain⟨e',h1,h2⟩:=cZ.mp this
  rw[<-rE h2];exact h1
 ·generalize (D.tup [.tup (P.map Part.enc),.tup (Q.map Player.enc),X,Y,Z])=B at *
  generalize D.tup [.tup hs,.tup rs]=prd at *
  generalize es.map tN=ed at *
  lk
theorem Mn(n:Nat)(P:List Part)(A X Y Z:D)(hP:P.length<=8):∃L:Wd,Ws (λk=>k=aC P.length) L/\L.length=1/\aA T dfs (n+1) 21 [.tup [.tup (P.map Part.enc),A,X,Y,Z]]=.ok (.tdc L):=by
 have e1:mT (.int (P.length:Int))=.ok (tN (aC P.length)):=by
  show aE (bN (P.length:Int)&&decide ((P.length:Int)<=1000)) (Res.ok (D.tup (bQ 0 (P.length:Int).toNat)))=_
  rw[bV (by unfold bN;simp;lia),eY,show(0:Int)=((0:Nat):Int)from rfl,vB,iE];rfl
 obtain⟨cs,hc,e2⟩:∃cs:List D,cs.length<=100/\D.bin .Mult (.lst [.non]) (.int (P.length:Int))=.ok (.lst cs):=by
  refine⟨(aQ (P.length:Int).toNat [D.non]).flatten,by rw[eY,List.length_flatten,List.map_replicate,List.sum_replicate_nat,gO];lia,?_⟩
  show aE (decide (1=1)&&decide ((0:Int)<=(P.length:Int))&&decide ((P.length:Int)<=1000)) (Res.ok (D.lst (aQ (P.length:Int).toNat [D.non]).flatten))=_
  rw[bV (by simp;lia)]
 have e3:mV (tN (aC P.length)) (.tup [.int 0,.lst cs])=.ok (.tdc [(bT (aC P.length),.tup [.int 0,.lst cs])]):=by
  show(Res.of (dG ((aC P.length).map aB))>>=λq=>Res.ok (D.tdc [(q,_)]))=_
  rw[oF];rfl
 have ln:=gM (f:=Part.enc) (xs:=P)
 refine⟨[(bT (aC P.length),.tup [.int 0,.lst cs])],⟨λe he=>⟨_,0,cs,dE.mp he,hc,rfl⟩,λk hk=>by rw[hk];exact bF⟩,rfl,aT (k:=false) rfl rfl rfl ?_⟩
 have h0:D.ix (.tup [.tup (P.map Part.enc),A,X,Y,Z]) (T.glob 0)=.ok (.tup (P.map Part.enc)):=rfl
 generalize D.tup [.tup (P.map Part.enc),A,X,Y,Z]=B at *
 generalize tN (aC P.length)=tr at *
 generalize bT (aC P.length)=kw at *
 generalize (P.map Part.enc)=pe at *
 lk
theorem Eg(a:List D)(x:D):D.ix (.lst (a++[x])) (.int (-1))=.ok x:=by
 show Res.of (atI (a++[x]) (-1))=_
 unfold atI ixN
 rw[if_neg (by lia),bB,gO,if_pos (by lia)]
 have:((-1:Int)+((a.length+1:Nat):Int)).toNat=a.length:=by lia
 rw[this]
 simp[Res.of]
theorem Eh(n:Nat)(P:List Part)(Q:List Player)(X Y Z:D)(ps:List (Nat×Nat))(hv:∀p∈P,(bP p.voice).length=1)(g:GoodP P.length Q.length hs rs)(hP:P.length<=5)(hQ:Q.length<=3)(hps:∀q∈ps,q.1<q.2):∀(m k:Nat)(A:List D)(L:Wd)(x4:Sl),k+m=Q.length->A.length=k->L.length<=32^k->Ws (Sk P.length (okV P Q) ps k) L ->
 ∃A' L' x4',Ws (Sk P.length (okV P Q) ps Q.length) L'/\aO (aV T (aA T dfs (n+3)) (.one 4) DP) ((dA k m).map aB) [.v (.tup [.tup (P.map Part.enc),.tup (Q.map Player.enc),X,Y,Z]),.v (.tup [.tup hs,.tup rs]),.v (.lst (ps.map aF)),.o (.lst (A++[.tdc L])),x4] =
  .ok (.nx [.v (.tup [.tup (P.map Part.enc),.tup (Q.map Player.enc),X,Y,Z]),.v (.tup [.tup hs,.tup rs]),.v (.lst (ps.map aF)),.o (.lst (A'++[.tdc L'])),x4'])
 |0,k,A,L,x4,hk,_,_,h=>⟨A,L,x4,by rw[<-hk];exact h,rfl⟩
 |m+1,k,A,L,x4,hk,hA,hL,h=>by
  have hb:=bZ
  have h32:32^k<=32^2:=FV (by lia) (by lia)
  obtain⟨L1,i1,i2,i3⟩:=Mm n P Q X Y Z ps hv g (show k<Q.length by lia) h (λe he=>by have:=sk_in he;exact⟨by lia,this.2⟩) (by lia)
  obtain⟨A',L',x4',j1,j2⟩:=Eh n P Q X Y Z ps hv g hP hQ hps m (k+1) (A++[.tdc L]) L1 (.v (.int (k:Int))) (by lia) (by rw[bB,hA];rfl) (by rw[FM];lia) (i1.iff λl=>Mg hps)
  refine⟨A',L',x4',j1,?_⟩
  rw[iX,aL,<-j2]
  refine cD ?_
  have e1:=Eg A (.tdc L)
  have la:(A++[D.tdc L]).length<big:=by rw[bB,gO];lia
  clear j1 j2 h i1 i2 hL
  generalize A++[D.tdc L]=AL at *
  generalize (D.tup [.tup (P.map Part.enc),.tup (Q.map Player.enc),X,Y,Z])=B at *
  generalize D.tup [.tup hs,.tup rs]=prd at *
  unfold aB
  lk
theorem Mo(n:Nat)(P:List Part)(Q:List Player)(Y Z:D)(ss:List Scene)(hs:ss.length<=24)(hv:∀p∈P,(bP p.voice).length=1){h r:List D}(g:GoodP P.length Q.length h r)(hP:P.length<=5)(hQ:Q.length<=3) :
 ∃d,aA T dfs (n+7) 24 [bkS P Q ss Y Z,.tup [.tup h,.tup r]]=.ok d/\d.isNon=decide (aM P Q ss=[]):=by
 have hb:=bZ
 have c:=wG n (.tup (Q.map Player.enc)) Y Z P ss hs (by lia)
 obtain⟨L0,f1,f2,f3⟩:=Mn (n+4) P (.tup (Q.map Player.enc)) (.tup (ss.map Scene.enc)) Y Z (by lia)
 obtain⟨A,L,x4,l1,l2⟩:=Eh (n+2) P Q (.tup (ss.map Scene.enc)) Y Z (eN P ss) hv g hP hQ (λq h=>by have:=jL (cB.mp h).1;lia) Q.length 0 [] L0 .no (by lia) rfl (by rw[f2];exact aK 1) (f1.iff λk=>sk_zero.symm)
 rw[<-iE,kP]at l2
 have rg:=fF (n:=Q.length) (by lia)
 have ln:=gM (f:=Player.enc) (xs:=Q)
 have h1:D.ix (bkS P Q ss Y Z) (T.glob 1)=.ok (.tup (Q.map Player.enc)):=rfl
 have a:aA T dfs (n+6) 23 [bkS P Q ss Y Z,.tup [.tup h,.tup r]]=.ok (.lst (A++[.tdc L])):=by
  refine aT (k:=true) rfl rfl rfl ?_
  unfold eN at l2
  unfold bkS at h1⊢
  generalize D.tup [.tup (P.map Part.enc),.tup (Q.map Player.enc),.tup (ss.map Scene.enc),Y,Z]=B at *
  generalize ((jJ P.length).filter λp=>(aZ P ss p.1 p.2).isSome).map aF=pd at *
  generalize D.tup [.tup h,.tup r]=prd at *
  generalize A++[D.tdc L]=AL at *
  generalize (Q.map Player.enc)=qe at *
  generalize (aC Q.length).map aB=rq at *
  lk
 have e1:=Eg A (.tdc L)
 have e2:mU (.tdc L) (.tup [])=.ok ((cH L (bT [])).getD .non):=rfl
 refine⟨(cH L (bT [])).getD .non,aT (k:=false) rfl rfl rfl ?_,?_⟩
 ·generalize (cH L (bT [])).getD .non=o at *
  generalize bkS P Q ss Y Z=B at *
  generalize D.tup [.tup h,.tup r]=prd at *
  generalize A++[D.tdc L]=AL at *
  lk
 ·by_cases z:aM P Q ss=[]
  ·rw[decide_eq_true z]
   rcases wQ L (bT [])with⟨d,_,h2⟩|⟨h1,_⟩
   ·obtain⟨k,_,_,e,_,q⟩:=l1.1 _ h2
    rw[<-(rE (congrArg Prod.fst e):[]=k)]at q
    exact absurd z (sk_some.mp q)
   ·rw[h1];rfl
  ·rw[decide_eq_false z]
   obtain⟨c,cs,h1,_⟩:=l1.get (sk_some.mpr z)
   rw[h1];rfl
theorem Ei:∀{a b:List Int} (x y:List Int),a.length=b.length->ltL a b=true->ltL (a++x) (b++y)=true
 |[],[],_,_,_,h=>nomatch h
 |p::a,q::b,x,y,hl,h=>by
  rw[ltL]at h
  rw[mH,mH,ltL]
  by_cases e:p=q
  ·rw[if_pos e]at h⊢;exact Ei x y (FK.inj hl) h
  ·rw[if_neg e]at h⊢;exact h
theorem Ej:∀(c:List Int){x y:Int},x<y->ltL (c++[x]) (c++[y])=true
 |[],x,y,h=>by rw[kP,kP,ltL,if_neg (by lia)];exact decide_eq_true h
 |p::c,x,y,h=>by rw[mH,mH,ltL,if_pos rfl];exact Ej c h
theorem Ek(pls:Nat):∀m,(iA pls m).Pairwise λa b=>ltL (cK a) (cK b)=true
 |0=>OP _ _
 |m+1=>by
  rw[iA,List.pairwise_flatMap]
  refine⟨λc _=>List.pairwise_map.mpr (OQ.imp λ{x y} h=>?_),(Ek pls m).imp_of_mem λ{a b} ha hb h x hx y hy=>?_⟩
  ·unfold cK
   rw[cU,cU]
   exact Ej _ (Int.ofNat_lt.mpr h)
  ·obtain⟨p,_,rfl⟩:=cZ.mp hx
   obtain⟨q,_,rfl⟩:=cZ.mp hy
   unfold cK at h⊢
   rw[cU,cU]
   exact Ei _ _ (by rw[aI,aI,(mem_allC.mp ha).1,(mem_allC.mp hb).1]) h
theorem lt_lN(a b:List Nat):D.cmp .Lt (lN a) (lN b)=.ok (.bl (ltL (cK a) (cK b))):=by
 show(cO (a.map aB)>>=λx=>cO (b.map aB)>>=λy=>Res.ok (D.bl (ltL x y)))=_
 rw[<-rA,wJ,<-rA,wJ];rfl
theorem Mp{i:Nat}{v:List Nat}(h:i<j)(hi:(aM P Q ss)[i]?=some v)(hj:(aM P Q ss)[j]?=some w):D.cmp .Lt (lN v) (lN w)=.ok (.bl true):=by
 obtain⟨a,rfl⟩:=cT.mp hi
 obtain⟨b,rfl⟩:=cT.mp hj
 have pw:(aM P Q ss).Pairwise λa b=>ltL (cK a) (cK b)=true:=(Ek Q.length P.length).filter _
 rw[lt_lN,List.pairwise_iff_getElem.mp pw i j a b h]
theorem El{k:Nat}(h:(aM P Q ss)[k]?=some w):(w.length=P.length/\∀x∈w,x<Q.length)/\iS P Q (clL P ss P.length) w=true:=by
 obtain⟨h1,h2⟩:=cB.mp (iB h)
 exact⟨mem_allC.mp h1,h2⟩
theorem wR{α:Type}{f:α->D}{p:α->Prop}:∀{ds:List D},(∀d∈ds,∃x,p x/\d=f x)->∃xs:List α,ds=xs.map f/\∀x∈xs,p x
 |[],_=>⟨[],rfl,λx h=>nomatch h⟩
 |d::ds,h=>by
  obtain⟨v,hv,rfl⟩:=h d bF
  obtain⟨ns,rfl,hn⟩:=wR λx hx=>h x (bG _ hx)
  refine⟨v::ns,rfl,λx hx=>?_⟩
  rcases bU.mp hx with rfl|hx
  ·exact hv
  ·exact hn x hx
theorem rF(ss:List Scene)(z:Scene)(hz:z.who=[])(t:Nat):bD (ss++[z]) t=bD ss t:=by
 unfold bD
 by_cases h:t<ss.length
 ·rw[jP h]
 ·rw[gE (by lia),jR (l:=ss) (by lia)]
  cases t-ss.length with
  |zero=>exact hz
  |succ k=>rfl
theorem Mq(ss:List Scene)(z:Scene){s t:Nat}(hs:s<t)(ht:t<ss.length):dI (ss++[z]) s t=dI ss s t:=by
 unfold dI
 rw[jP (by lia),List.drop_append_of_le_length (by lia),List.take_append_of_le_length (by rw[oJ];lia)]
theorem Em{α β:Type}(f:α->Option β)(l:List α)(a:α)(h:f a=none):(l++[a]).findSome? f=l.findSome? f:=by
 rw[List.findSome?_append,mF,h,List.findSome?_nil,Option.or_none]
theorem wU{α β:Type}{f g:α->Option β}:∀{l:List α},(∀a∈l,f a=g a)->l.findSome? f=l.findSome? g
 |[],_=>rfl
 |a::l,h=>by rw[mF,mF,h a bF,wU λx hx=>h x (bG _ hx)]
theorem En(P:List Part)(ss:List Scene)(z:Scene)(hz:z.who=[])(s i j:Nat)(hs:s<ss.length):gB P (ss++[z]) s i j=gB P ss s i j:=by
 unfold gB
 rw[bB,gO,show ss.length+1-(s+1)=ss.length-(s+1)+1 by lia,List.range'_concat,Em]
 ·refine wU λt ht=>?_
  rw[mJ]at ht
  unfold jI
  rw[rF ss z hz,Mq ss z (by lia) (by lia)]
 ·unfold jI
  rw[rF ss z hz,show bD ss (s+1+1*(ss.length-(s+1)))=[] by unfold bD;rw[jR (by lia)];rfl,if_neg (λh=>nomatch h.1)]
theorem Mr(P:List Part)(ss:List Scene)(z:Scene)(hz:z.who=[])(i j:Nat):aZ P (ss++[z]) i j=aZ P ss i j:=by
 unfold aZ
 rw[bB,gO,ON,Em]
 ·refine wU λs hs=>?_
  have hs:=cF.mp hs
  unfold eW
  rw[rF ss z hz,En P ss z hz s i j hs,En P ss z hz s j i hs]
 ·unfold eW
  rw[rF ss z hz,show bD ss ss.length=[] by unfold bD;rw[jR (aK _)];rfl,if_neg (λh=>nomatch h.1),if_neg (λh=>nomatch h),if_neg (λh=>nomatch h)]
theorem Ms(P:List Part)(ss:List Scene)(z:Scene)(hz:z.who=[]):eA P (ss++[z])=eA P ss:=by
 unfold eA eN
 rw[show(λp:Nat×Nat=>(aZ P (ss++[z]) p.1 p.2).isSome)=λp=>(aZ P ss p.1 p.2).isSome from funext λp=>by rw[Mr P ss z hz]]
section
variable{P:List Part}{Q:List Player}{ss:List Scene}{Y Z:D}
noncomputable def Ahd(P:List Part)(Q:List Player)(ss:List Scene)(d:D):Prop:=d=.non\/∃(k:Nat)(w:List Nat),(aM P Q ss)[k]?=some w/\d=.tup [.int (k:Int),lN w]
theorem Eo(wl:w.length=P.length):∀p∈clL P ss P.length,p.1<w.length/\p.2<w.length:=λp hp=>by
 have:=mem_clL.mp hp
 lia
theorem Ep(n:Nat)(hv:∀p∈P,(bP p.voice).length=1)(hp:P.length<=5)(hq:Q.length<=3)(hs:ss.length<=24)(x0 x2 x5 x6 x8 x11 x12 x13:Sl):∀(ks:List Nat)(ah:D)(x9 x10:Sl),(∀k∈ks,k<(aM P Q ss).length)->Ahd P Q ss ah ->
 ∃ah' x9' x10',Ahd P Q ss ah'/\aO (aV T (aA T dfs (n+10)) (.one 9) Dk) (ks.map aB) [x0,.v (.int (P.length:Int)),x2,.v (bkS P Q ss Y Z),.v (.lst ((clL P ss P.length).map aF)),x5,x6,.v ah,x8,x9,x10,x11,x12,x13] =
  .ok (.nx [x0,.v (.int (P.length:Int)),x2,.v (bkS P Q ss Y Z),.v (.lst ((clL P ss P.length).map aF)),x5,x6,.v ah',x8,x9',x10',x11,x12,x13])
 |[],ah,x9,x10,_,h=>⟨ah,x9,x10,h,rfl⟩
 |k::ks,ah,x9,x10,hk,h=>by
  obtain⟨w,hw⟩:∃w,(aM P Q ss)[k]?=some w:=⟨_,aP (hk k bF)⟩
  obtain⟨⟨wl,wt⟩,pl⟩:=El hw
  have e1:=E8 (Y:=Y) (Z:=Z) n hv hp hq hs hw
  have e2:=E9 (Y:=Y) (Z:=Z) n hv hp hq hs hw
  have e3:aA T dfs (n+10) 38 [bkS P Q ss Y Z,.lst ((clL P ss P.length).map aF),.lst (w.map aB)]=_:=EX (n+9) P Q (.tup (ss.map Scene.enc)) Y Z (clL P ss P.length) hv w wl wt (Eo wl)
  rw[pl]at e3
  obtain⟨ah',x9',x10',i1,i2⟩:=Ep n hv hp hq hs x0 x2 x5 x6 x8 x11 x12 x13 ks (.tup [.int (k:Int),lN w]) (.v (.int (k:Int))) (.v (lN w)) (λq hq=>hk q (bG _ hq)) (.inr ⟨k,w,hw,rfl⟩)
  refine⟨ah',x9',x10',i1,?_⟩
  rw[aL,<-i2]
  refine cD ?_
  have ln:Bt.run .len [.lst (w.map aB)]=.ok (.int (P.length:Int)):=by rw[uP,aI,wl]
  have q1:(!((P.length:Int)==(P.length:Int)))=false:=by rw[beq_self_eq_true];rfl
  have q2:(!((k:Int)==(k:Int)))=false:=by rw[beq_self_eq_true];rfl
  rcases h with rfl|⟨k0,w0,h0,rfl⟩
  ·clear i2
   unfold lN aB at *
   generalize bkS P Q ss Y Z=B at *
   generalize (clL P ss P.length).map aF=cd at *
   generalize (w.map λt:Nat=>D.int (t:Int))=wd at *
   generalize ((P.length:Nat):Int)=pn at *
   lk
  ·have f1:D.ix (.tup [.int (k0:Int),lN w0]) (.int 0)=.ok (.int (k0:Int)):=rfl
   have f2:D.ix (.tup [.int (k0:Int),lN w0]) (.int 1)=.ok (lN w0):=rfl
   have f4:(D.tup [.int (k0:Int),lN w0]).isNon=false:=rfl
   have f5:D.cmp .IsNot (.tup [.int (k0:Int),lN w0]) .non=.ok (.bl true):=rfl
   clear i2
   generalize D.tup [.int (k0:Int),lN w0]=ad at *
   by_cases c:k0<k
   ·have f3:=Mp c h0 hw
    have c:decide ((k0:Int)<(k:Int))=true:=decide_eq_true (by lia)
    generalize lN w0=wd0 at *
    unfold lN aB at *
    generalize bkS P Q ss Y Z=B at *
    generalize (clL P ss P.length).map aF=cd at *
    generalize (w.map λt:Nat=>D.int (t:Int))=wd at *
    generalize ((P.length:Nat):Int)=pn at *
    lk
   ·have c:decide ((k0:Int)<(k:Int))=false:=decide_eq_false (by lia)
    unfold lN aB at *
    generalize bkS P Q ss Y Z=B at *
    generalize (clL P ss P.length).map aF=cd at *
    generalize (w.map λt:Nat=>D.int (t:Int))=wd at *
    generalize ((P.length:Nat):Int)=pn at *
    lk
theorem lN_eq(a:List Nat):D.cmp .Eq (lN a) (lN a)=.ok (.bl true):=by
 show aE (D.pl 30 (lN a)&&D.pl 30 (lN a)) (.ok (D.bl (D.eqs (a.map aB) (a.map aB))))=_
 rw[lN_pl 29,E_,decide_eq_true rfl];rfl
theorem Mt(n:Nat)(hv:∀p∈P,(bP p.voice).length=1)(hp:P.length<=5)(hq:Q.length<=3)(hs:ss.length<=24)(hw:w∈aM P Q ss) :
 aA T dfs (n+11) 39 [bkS P Q ss Y Z,lN w,.int ((aM P Q ss).length:Int)]=.ok (.bl true):=by
 obtain⟨k,hk⟩:=List.mem_iff_getElem?.mp hw
 have hl:=(cT.mp hk).1
 have e1:=E8 (Y:=Y) (Z:=Z) n hv hp hq hs hk
 have e2:=E9 (Y:=Y) (Z:=Z) n hv hp hq hs hk
 have e3:=lN_eq w
 have c1:decide ((0:Int)<=(k:Int))=true:=decide_eq_true (by lia)
 have c2:(!decide ((k:Int)<((aM P Q ss).length:Int)))=false:=by rw[decide_eq_true (by lia)];rfl
 have rl:Bt.run .list [lN w]=.ok (lN w):=rfl
 refine aT (k:=false) rfl rfl rfl ?_
 generalize bkS P Q ss Y Z=B at *
 generalize ((aM P Q ss).length:Int)=W at *
 generalize lN w=wd at *
 lk
theorem Mu(n:Nat)(hv:∀p∈P,(bP p.voice).length=1)(hp:P.length<=5)(hq:Q.length<=3)(hs:ss.length<=24)(x0 x1 x2 x6 x7 x8 x9 x10 x12 x13:Sl)(wl:w.length=P.length)(wt:∀x∈w,x<Q.length) :
 exS T (aA T dfs (n+11)) (.cons (.ite (.and (.call 38 (.acons (.var 3) (.acons (.var 4) (.acons (.var 11) .anil)))) (.not (.call 39 (.acons (.var 3) (.acons (.var 11) (.acons (.var 5) .anil)))))) (.cons (.ret (.con (.bl false))) .nil) .nil) .nil)
  [x0,x1,x2,.v (bkS P Q ss Y Z),.v (.lst ((clL P ss P.length).map aF)),.v (.int ((aM P Q ss).length:Int)),x6,x7,x8,x9,x10,.v (lN w),x12,x13]=.ok (.nx [x0,x1,x2,.v (bkS P Q ss Y Z),.v (.lst ((clL P ss P.length).map aF)),.v (.int ((aM P Q ss).length:Int)),x6,x7,x8,x9,x10,.v (lN w),x12,x13]):=by
 have e1:aA T dfs (n+11) 38 [bkS P Q ss Y Z,.lst ((clL P ss P.length).map aF),lN w]=_:=EX (n+10) P Q (.tup (ss.map Scene.enc)) Y Z (clL P ss P.length) hv w wl wt (Eo wl)
 cases c:iS P Q (clL P ss P.length) w with
 |true=>
  have e2:=Mt (Y:=Y) (Z:=Z) n hv hp hq hs (cB.mpr ⟨mem_allC.mpr ⟨wl,wt⟩,c⟩)
  rw[c]at e1
  generalize bkS P Q ss Y Z=B at *
  generalize (clL P ss P.length).map aF=cd at *
  generalize ((aM P Q ss).length:Int)=W at *
  generalize lN w=wd at *
  lk
 |false=>
  rw[c]at e1
  generalize bkS P Q ss Y Z=B at *
  generalize (clL P ss P.length).map aF=cd at *
  generalize ((aM P Q ss).length:Int)=W at *
  generalize lN w=wd at *
  lk
end
theorem draw_w(n:Nat)(c:Int)(k m pls:Nat)(hk:k<8)(hm:m<=5)(hp:0<pls):∃w:List Nat,w.length=m/\(∀x∈w,x<pls)/\bR (bS T (aA T dfs (n+1)) (.one 0) wC (.con (.bl true)) [.no,.v (.int (pls:Int)),.v (.int c),.v (.int (k:Int))]) ((aC m).map aB)=.ok (w.map aB):=by
 obtain⟨ds,h1,h2,h3⟩:=kL (f:=bS T (aA T dfs (n+1)) (.one 0) wC (.con (.bl true)) [.no,.v (.int (pls:Int)),.v (.int c),.v (.int (k:Int))]) aB (R:=λd=>∃x:Nat,x<pls/\d=aB x) (xs:=aC m) (by
  intro j hj
  have hj:=cF.mp hj
  have e:=oB n c (7*(k:Int)+(j:Int)) (by lia)
  have md:=lP (i:=eJ c (7*(k:Int)+(j:Int))/3) (j:=(pls:Int)) (by lia)
  have b1:=Int.emod_nonneg (eJ c (7*(k:Int)+(j:Int))/3) (show(pls:Int)≠0 by lia)
  have b2:=Int.emod_lt_of_pos (eJ c (7*(k:Int)+(j:Int))/3) (show(0:Int)<pls by lia)
  refine⟨.int (eJ c (7*(k:Int)+(j:Int))/3%pls),?_,(eJ c (7*(k:Int)+(j:Int))/3%pls).toNat,by lia,by unfold aB;rw[OS b1]⟩
  generalize eJ c (7*(k:Int)+(j:Int))=v at *
  unfold aB
  generalize (pls:Int)=p at *
  lk)
 obtain⟨w,rfl,hw⟩:=wR h3
 exact⟨w,by rw[aI,dR]at h2;exact h2,hw,h1⟩
section
variable{P:List Part}{Q:List Player}{ss:List Scene}{Y Z:D}
theorem Er(n:Nat)(hv:∀p∈P,(bP p.voice).length=1)(hp:P.length<=5)(hq:Q.length<=3)(hs:ss.length<=24)(h0:0<Q.length)(c:Int){ah:D}(ha:Ahd P Q ss ah)(x0 x8 x10 x13:Sl):∀(m k:Nat)(x9 x11 x12:Sl),k+m=8 ->
 ∃x9' x11' x12',aO (aV T (aA T dfs (n+11)) (.one 9) qU) ((dA k m).map aB) [x0,.v (.int (P.length:Int)),.v (.int (Q.length:Int)),.v (bkS P Q ss Y Z),.v (.lst ((clL P ss P.length).map aF)),.v (.int ((aM P Q ss).length:Int)),.v (.int c),.v ah,x8,x9,x10,x11,x12,x13] =
  .ok (.nx [x0,.v (.int (P.length:Int)),.v (.int (Q.length:Int)),.v (bkS P Q ss Y Z),.v (.lst ((clL P ss P.length).map aF)),.v (.int ((aM P Q ss).length:Int)),.v (.int c),.v ah,x8,x9',x10,x11',x12',x13])
 |0,k,x9,x11,x12,_=>⟨x9,x11,x12,rfl⟩
 |m+1,k,x9,x11,x12,hk=>by
  have hb:=bZ
  obtain⟨w,wl,wt,hc⟩:=draw_w (n+10) c k P.length Q.length (by lia) hp h0
  have rg:=fF (n:=P.length) (by lia)
  have lb:((aC P.length).map aB).length<=big:=by rw[aI,dR];lia
  have step:∀(w2:List Nat)(y:Sl),w2.length=P.length->(∀x∈w2,x<Q.length)->exS T (aA T dfs (n+11)) (.ite (.and (.cmp .Gt (.bin .Mod (.var 9) (.con (.int 3))) (.con (.int 0))) (.cmp .IsNot (.var 7) (.con .non))) (.cons (.asg (.one 12) (.bin .Mod (.var 9) (.bt .max (.acons (.con (.int 1)) (.acons (.var 1) .anil))))) (.cons (.asg (.one 11) (.bin .Add (.sl (.ix (.var 7) (.con (.int 1))) .omit (.var 12)) (.sl (.var 11) (.var 12) .omit))) .nil)) .nil) [x0,.v (.int (P.length:Int)),.v (.int (Q.length:Int)),.v (bkS P Q ss Y Z),.v (.lst ((clL P ss P.length).map aF)),.v (.int ((aM P Q ss).length:Int)),.v (.int c),.v ah,x8,.v (.int (k:Int)),x10,.v (lN w),x12,x13]=.ok (.nx [x0,.v (.int (P.length:Int)),.v (.int (Q.length:Int)),.v (bkS P Q ss Y Z),.v (.lst ((clL P ss P.length).map aF)),.v (.int ((aM P Q ss).length:Int)),.v (.int c),.v ah,x8,.v (.int (k:Int)),x10,.v (lN w2),y,x13]) ->
   ∃x9' x11' x12',aO (aV T (aA T dfs (n+11)) (.one 9) qU) ((dA k (m+1)).map aB) [x0,.v (.int (P.length:Int)),.v (.int (Q.length:Int)),.v (bkS P Q ss Y Z),.v (.lst ((clL P ss P.length).map aF)),.v (.int ((aM P Q ss).length:Int)),.v (.int c),.v ah,x8,x9,x10,x11,x12,x13] =
    .ok (.nx [x0,.v (.int (P.length:Int)),.v (.int (Q.length:Int)),.v (bkS P Q ss Y Z),.v (.lst ((clL P ss P.length).map aF)),.v (.int ((aM P Q ss).length:Int)),.v (.int c),.v ah,x8,x9',x10,x11',x12',x13]):=λw2 y l2 t2 e=>by
   obtain⟨y9,y11,y12,ih⟩:=Er n hv hp hq hs h0 c ha x0 x8 x10 x13 m (k+1) (.v (.int (k:Int))) (.v (lN w2)) y (by lia)
   refine⟨y9,y11,y12,?_⟩
   rw[iX,aL,<-ih]
   refine cD (Bq (e1:=[x0,.v (.int (P.length:Int)),.v (.int (Q.length:Int)),.v (bkS P Q ss Y Z),.v (.lst ((clL P ss P.length).map aF)),.v (.int ((aM P Q ss).length:Int)),.v (.int c),.v ah,x8,.v (.int (k:Int)),x10,x11,x12,x13]) rfl (fD (o1:=.nx [x0,.v (.int (P.length:Int)),.v (.int (Q.length:Int)),.v (bkS P Q ss Y Z),.v (.lst ((clL P ss P.length).map aF)),.v (.int ((aM P Q ss).length:Int)),.v (.int c),.v ah,x8,.v (.int (k:Int)),x10,.v (lN w),x12,x13]) ?_ (fE (fD e (fE (Mu n hv hp hq hs x0 _ _ _ _ x8 _ x10 y x13 l2 t2))))))
   clear ih e ha
   unfold lN
   generalize bkS P Q ss Y Z=B at *
   generalize (clL P ss P.length).map aF=cd at *
   generalize ((aM P Q ss).length:Int)=W at *
   generalize (aC P.length).map aB=rp at *
   generalize w.map aB=wd at *
   lk
  by_cases c3:0<k%3
  ·have d3:decide ((0:Int)<(k:Int)%3)=true:=decide_eq_true (by lia)
   rcases ha with rfl|⟨k0,w0,hw0,rfl⟩
   ·refine step w x12 wl wt ?_
    clear step
    generalize bkS P Q ss Y Z=B at *
    generalize (clL P ss P.length).map aF=cd at *
    generalize ((aM P Q ss).length:Int)=W at *
    generalize lN w=wd at *
    lk
   ·obtain⟨⟨l0,t0⟩,_⟩:=El hw0
    have mx:Bt.run .max [.int 1,.int (P.length:Int)]=.ok (.int ((max 1 P.length:Nat):Int)):=by
     show Res.ok (D.int (if(P.length:Int)>1 then(P.length:Int)else 1))=_
     refine congrArg (λz=>Res.ok (D.int z)) ?_
     split<;>lia
    have md:D.bin .Mod (.int (k:Int)) (.int ((max 1 P.length:Nat):Int))=.ok (.int ((k%max 1 P.length:Nat):Int)):=by rw[lP (by lia)];rfl
    have la:k%max 1 P.length<=P.length:=by have:=Nat.mod_lt k (show 0<max 1 P.length by lia);lia
    generalize k%max 1 P.length=a at *
    have s1:D.sl (lN w0) none (some (a:Int))=.ok (lN (w0.take a)):=by
     show Res.ok (D.lst (cut (w0.map aB) none (some (a:Int))))=_
     rw[cut_to (by rw[aI];lia),<-FQ];rfl
    have s2:D.sl (lN w) (some (a:Int)) none=.ok (lN (w.drop a)):=by
     show Res.ok (D.lst (cut (w.map aB) (some (a:Int)) none))=_
     rw[Lm (by rw[aI];lia),<-List.map_drop];rfl
    have ad:D.bin .Add (lN (w0.take a)) (lN (w.drop a))=.ok (lN (w0.take a++w.drop a)):=by
     unfold lN
     rw[CM (by rw[aI,aI,rJ,oJ];lia),cU]
    refine step (w0.take a++w.drop a) (.v (.int (a:Int))) (by rw[bB,rJ,oJ];lia) (λx hx=>?_) ?_
    ·rcases eO.mp hx with hx|hx
     ·exact t0 x (xF hx)
     ·exact wt x (OH hx)
    ·clear step
     have f2:D.ix (.tup [.int (k0:Int),lN w0]) (.int 1)=.ok (lN w0):=rfl
     have f5:D.cmp .IsNot (.tup [.int (k0:Int),lN w0]) .non=.ok (.bl true):=rfl
     generalize D.tup [.int (k0:Int),lN w0]=ad at *
     generalize bkS P Q ss Y Z=B at *
     generalize (clL P ss P.length).map aF=cd at *
     generalize ((aM P Q ss).length:Int)=W at *
     generalize lN (w0.take a++w.drop a)=wd3 at *
     generalize lN (w0.take a)=wd1 at *
     generalize lN (w.drop a)=wd2 at *
     generalize lN w=wd at *
     generalize lN w0=wd0 at *
     generalize ((max 1 P.length:Nat):Int)=mm at *
     lk
  ·have d3:decide ((0:Int)<(k:Int)%3)=false:=decide_eq_false (by lia)
   refine step w x12 wl wt ?_
   clear step
   generalize bkS P Q ss Y Z=B at *
   generalize (clL P ss P.length).map aF=cd at *
   generalize ((aM P Q ss).length:Int)=W at *
   generalize lN w=wd at *
   lk
end
noncomputable def zzS:Scene:=⟨"zz", 5,5,[]⟩
theorem Mv(n:Nat)(W a b c d:Int):∃ks:List Nat,(∀k∈ks,(k:Int)<W)/\bR (bS T (aA T dfs n) (.one 0) wB wA [.no,.v (.int W)]) [.int a,.int b,.int c,.int d]=.ok (ks.map aB):=by
 have h:bR (bS T (aA T dfs n) (.one 0) wB wA [.no,.v (.int W)]) ([a,b,c,d].map D.int)=.ok (([a,b,c,d].filter λx=>decide (0<=x/\x<W)).map D.int):=CD D.int (λx=>decide (0<=x/\x<W)) (by
  intro x _
  by_cases h1:0<=x
  ·have d1:decide (0<=x)=true:=decide_eq_true h1
   by_cases h2:x<W
   ·have d2:decide (x<W)=true:=decide_eq_true h2
    rw[if_pos (decide_eq_true ⟨h1,h2⟩)];lk
   ·have d2:decide (x<W)=false:=decide_eq_false h2
    rw[if_neg (by simp[h2])];lk
  ·have d1:decide (0<=x)=false:=decide_eq_false h1
   rw[if_neg (by simp[h1])];lk)
 obtain⟨ks,e,hk⟩:=wR (f:=aB) (p:=λk:Nat=>(k:Int)<W) (ds:=([a,b,c,d].filter λx=>decide (0<=x/\x<W)).map D.int) (by
  intro x hx
  obtain⟨y,hy,rfl⟩:=cZ.mp hx
  have:=of_decide_eq_true (cB.mp hy).2
  exact⟨y.toNat,by lia,by unfold aB;rw[OS this.1]⟩)
 exact⟨ks,hk,by rw[<-e];exact h⟩
theorem Mw(ns:List Int)(hn:ns.length<=63):aA T dfs 30 40 [.lst (ns.map D.int)]=.ok (.bl true):=by
 have hb:=bZ
 have e1:=oA 28 ns 0
 rw[show((0:Nat):Int)=0 from rfl]at e1
 have e4:=oA 28 ns 4
 rw[show((4:Nat):Int)=4 from rfl]at e4
 obtain⟨many,hm⟩:∃many:Nat,bO ns 0%6=many:=⟨(bO ns 0%6).toNat,by lia⟩
 obtain⟨pls,hp⟩:∃pls:Nat,bO ns 0/6%4=pls:=⟨(bO ns 0/6%4).toNat,by lia⟩
 have hm5:many<=5:=by lia
 have hp3:pls<=3:=by lia
 obtain⟨P,Q,ss,ls,hP,hv,hQ,hss,good,gl,e2⟩:=M4 26 ns many pls (by lia) (by lia)
 have g:∀s∈ss,0<=s.len/\0<=s.pause:=λs hs=>⟨(good s hs).len,(good s hs).pause⟩
 subst hP
 subst hQ
 obtain⟨hs,rs,gp,ep⟩:=Mb 26 (.tup (ss.map Scene.enc)) P Q ls (by lia) (by lia)
 rw[show dO (.tup (ss.map Scene.enc)) P Q ls=bkS P Q ss (.tup (ls.map cI)) (.tup [])from rfl]at e2 ep
 generalize D.tup (ls.map cI)=Y at e2 ep
 generalize D.tup ([]:List D)=Z at e2 ep
 obtain⟨ld,el,hl⟩:=Mo 22 P Q Y Z ss (by lia) hv gp hm5 hp3
 have e3:aA T dfs 29 37 [bkS P Q ss Y Z]=_:=M3 27 P (.tup (Q.map Player.enc)) Y Z ss (by lia) g (by lia)
 have e5:=EM 20 P Q ss Y Z hv hm5 hp3 (by lia)
 have e6:=EM 20 P Q (ss++[zzS]) Y Z hv hm5 hp3 (by rw[bB,gO];lia)
 rw[Ms P ss zzS rfl]at e6
 rw[M6]at e5 e6
 have w0:decide (((aM P Q ss).length:Int)<0)=false:=decide_eq_false (by lia)
 have wn:D.cmp .NotEq (.bl (((aM P Q ss).length:Int)==0)) (.bl ld.isNon)=.ok (.bl false):=by
  rw[hl]
  cases aM P Q ss with
  |nil=>rfl
  |cons w r=>rw[decide_eq_false (λz=>nomatch z),show(((w::r).length:Int)==0)=false by rw[aN];simp;lia];rfl
 have wq:D.cmp .Eq (.int ((aM P Q ss).length:Int)) (.int ((aM P Q ss).length:Int))=.ok (.bl true):=by rw[Bh,beq_self_eq_true]
 obtain⟨M,hM,mx⟩:∃M:Int,0<M/\Bt.run .max [.int 1,.int ((aM P Q ss).length:Int)]=.ok (.int M):=⟨_,by split<;>lia,show Bt.run .max [.int 1,.int ((aM P Q ss).length:Int)]=.ok (.int (if((aM P Q ss).length:Int)>1 then((aM P Q ss).length:Int)else 1))from rfl⟩
 have md:=lP (i:=bO ns 4) hM
 obtain⟨ks,hk,cc⟩:=Mv 29 ((aM P Q ss).length:Int) 0 (bO ns 4%M) (bO ns 4%M+1) (((aM P Q ss).length:Int)-1)
 obtain⟨ah,y9,y10,ha,l3⟩:=Ep (P:=P) (Q:=Q) (ss:=ss) (Y:=Y) (Z:=Z) 19 hv hm5 hp3 (by lia) (.v (.lst (ns.map D.int))) (.v (.int (Q.length:Int))) (.v (.int ((aM P Q ss).length:Int))) (.v (.int (bO ns 4))) (.v (.int (bO ns 4%M))) .no .no .no ks .non .no .no (λk h=>by have:=hk k h;lia) (.inl rfl)
 obtain⟨R,y9',y11,y12,hi,l5⟩:∃(R:List D)(y9' y11 y12:Sl),(evI T (aA T dfs 29) (.rng (.bin .Mult (.con (.int 8)) (.bt .int (.acons (.cmp .Gt (.var 2) (.con (.int 0))) .anil)))) [.v (.lst (ns.map D.int)),.v (.int (P.length:Int)),.v (.int (Q.length:Int)),.v (bkS P Q ss Y Z),.v (.lst ((clL P ss P.length).map aF)),.v (.int ((aM P Q ss).length:Int)),.v (.int (bO ns 4)),.v ah,.v (.int (bO ns 4%M)),y9,y10,.no,.no,.no]=.ok R)/\aO (aV T (aA T dfs 29) (.one 9) qU) R [.v (.lst (ns.map D.int)),.v (.int (P.length:Int)),.v (.int (Q.length:Int)),.v (bkS P Q ss Y Z),.v (.lst ((clL P ss P.length).map aF)),.v (.int ((aM P Q ss).length:Int)),.v (.int (bO ns 4)),.v ah,.v (.int (bO ns 4%M)),y9,y10,.no,.no,.no]=.ok (.nx [.v (.lst (ns.map D.int)),.v (.int (P.length:Int)),.v (.int (Q.length:Int)),.v (bkS P Q ss Y Z),.v (.lst ((clL P ss P.length).map aF)),.v (.int ((aM P Q ss).length:Int)),.v (.int (bO ns 4)),.v ah,.v (.int (bO ns 4%M)),y9',y10,y11,y12,.no]):=by
  by_cases h0:0<Q.length
  ·obtain⟨x9,x11,x12,l5⟩:=Er (P:=P) (Q:=Q) (ss:=ss) (Y:=Y) (Z:=Z) 18 hv hm5 hp3 (by lia) h0 (bO ns 4) ha (.v (.lst (ns.map D.int))) (.v (.int (bO ns 4%M))) y10 .no 8 0 y9 .no .no (by lia)
   refine⟨_,x9,x11,x12,?_,l5⟩
   have b1:Bt.run .int [.bl (decide ((0:Int)<(Q.length:Int)))]=.ok (.int 1):=by rw[decide_eq_true (by lia)];rfl
   have b2:D.bin .Mult (.int 8) (.int 1)=.ok (.int 8):=hU (by decide)
   have b3:kF (.int 8)=.ok ((dA 0 8).map aB):=by rw[<-iE];exact fF (n:=8) (by lia)
   clear l5 l3 cc
   generalize bkS P Q ss Y Z=B at *
   generalize (clL P ss P.length).map aF=cd at *
   generalize (dA 0 8).map aB=r8 at *
   lk
  ·refine⟨[],y9,.no,.no,?_,rfl⟩
   have b1:Bt.run .int [.bl (decide ((0:Int)<(Q.length:Int)))]=.ok (.int 0):=by rw[decide_eq_false (by lia)];rfl
   have b2:D.bin .Mult (.int 8) (.int 0)=.ok (.int 0):=hU (by decide)
   have b3:kF (.int 0)=.ok []:=rfl
   clear l3 cc
   generalize bkS P Q ss Y Z=B at *
   generalize (clL P ss P.length).map aF=cd at *
   lk
 have i0:D.ix (bkS P Q ss Y Z) (.int 0)=.ok (.tup (P.map Part.enc)):=rfl
 have i1:D.ix (bkS P Q ss Y Z) (.int 1)=.ok (.tup (Q.map Player.enc)):=rfl
 have i2:D.ix (bkS P Q ss Y Z) (.int 2)=.ok (.tup (ss.map Scene.enc)):=rfl
 have i3:D.ix (bkS P Q ss Y Z) (.int 3)=.ok Y:=rfl
 have i4:D.ix (bkS P Q ss Y Z) (.int 4)=.ok Z:=rfl
 have ad:D.bin .Add (.tup (ss.map Scene.enc)) (.tup [.tup [.str "zz", .int 5,.int 5,.tup []]])=.ok (.tup ((ss++[zzS]).map Scene.enc)):=by
  show aE (decide ((ss.map Scene.enc).length+1<=big)) _=_
  rw[bV (decide_eq_true (by rw[aI];lia)),cU];rfl
 have l4:[D.int 0,.int (bO ns 4%M),.int (bO ns 4%M+1),.int (((aM P Q ss).length:Int)-1)].length<=big:=by show 4<=big;lia
 refine aT (k:=false) rfl rfl rfl ?_
 show exS T (aA T dfs 29) wD [.v (.lst (ns.map D.int)),.no,.no,.no,.no,.no,.no,.no,.no,.no,.no,.no,.no,.no]=_
 have hm':D.bin .Mod (.int (bO ns 0)) (.int 6)=.ok (.int (P.length:Nat)):=by rw[lP (by decide),hm]
 have hp0:D.bin .FloorDiv (.int (bO ns 0)) (.int 6)=.ok (.int (bO ns 0/6)):=uN (by decide)
 have hp':D.bin .Mod (.int (bO ns 0/6)) (.int 4)=.ok (.int (Q.length:Nat)):=by rw[lP (by decide),hp]
 unfold bkS at e6
 generalize (ss++[zzS]).map Scene.enc=se' at *
 generalize ss.map Scene.enc=se at *
 generalize ((aM P Q ss).length:Int)=W at *
 generalize (clL P ss P.length).map aF=cd at *
 generalize bkS P Q ss Y Z=B at *
 generalize ns.map D.int=nd at *
 generalize bO ns 4%M=dr at *
 generalize bO ns 4=c4 at *
 generalize bO ns 0/6=c5 at *
 generalize bO ns 0=c0 at *
 generalize ks.map aB=kd at *
 generalize P.map Part.enc=pe at *
 generalize Q.map Player.enc=qe at *
 generalize D.tup [.tup hs,.tup rs]=prd at *
 refine fD (by lk) (fE ?_)
 refine fD (by lk) (fE ?_)
 refine fD (by lk) (fE ?_)
 refine fD (by lk) (fE ?_)
 refine fD (by lk) (fE ?_)
 refine fD (by lk) (fE ?_)
 refine fD (by lk) (fE ?_)
 refine fD (by lk) (fE ?_)
 refine fD (by lk) (fE ?_)
 refine fD (by lk) (fE ?_)
 refine fD (Bp hi l5 rfl) (fE ?_)
 lk
end
end K78
namespace K78
open PySem L2 Tr
noncomputable def top(i:Nat):Stmt:=PySem.Challenge.pw_troupe_k78_whole_castings_by_numbers.main.body.getD i (.Pass ⟨0,0,0,0⟩)
noncomputable abbrev Mx:DefT:=⟨"time_between", top 8,["book", "s", "t", "scenes"],["book", "s", "t"],CY,none, "time_between", false⟩
noncomputable abbrev My:DefT:=⟨"change_time", top 9,["book", "one", "other"],["book", "one", "other"],CZ,none, "change_time", false⟩
noncomputable abbrev Mz:DefT:=⟨"short_change_from", top 10,["book", "s", "one", "other", "need", "t", "have"],["book", "s", "one", "other"],C1,none, "short_change_from", false⟩
noncomputable abbrev NA:DefT:=⟨"reason_from", top 11,["book", "s", "i", "j", "numbers"],["book", "s", "i", "j"],C2,none, "reason_from", false⟩
noncomputable abbrev NB:DefT:=⟨"reason_of", top 12,["book", "i", "j", "s", "reason"],["book", "i", "j"],C4,none, "reason_of", false⟩
noncomputable abbrev NC:DefT:=⟨"clashes_of", top 13,["book", "pairs", "many", "i"],["book"],C8,none, "clashes_of", false⟩
noncomputable abbrev ND:DefT:=⟨"fault_of_part", top 15,["book", "i", "player"],["book", "i", "player"],C9,none, "fault_of_part", false⟩
noncomputable abbrev NF:DefT:=⟨"have_one_player", top 16,["casting", "i", "j"],["casting", "i", "j"],C_,none, "have_one_player", false⟩
noncomputable abbrev NG:DefT:=⟨"faults_of", top 17,["book", "casting", "faults"],["book", "casting"],Cf,none, "faults_of", false⟩
noncomputable abbrev NH:DefT:=⟨"ask_that_it_plays", top 18,["book", "casting"],["book", "casting"],Cg,none, "ask_that_it_plays", false⟩
noncomputable abbrev NI:DefT:=⟨"all_choices", top 20,["book", "players", "choices", "part"],["book"],Cm,none, "all_choices", false⟩
noncomputable abbrev NJ:DefT:=⟨"without", top 21,["players", "player"],["players", "player"],Cp,none, "without", false⟩
noncomputable abbrev NK:DefT:=⟨"many_castings", top 23,["book"],["book"],Cq,none, "many_castings", false⟩
noncomputable abbrev NL:DefT:=⟨"player_at", top 24,["count", "choices", "number", "ahead", "player", "many"],["count", "choices", "number"],Cs,none, "player_at", false⟩
noncomputable abbrev NM:DefT:=⟨"casting_at", top 25,["book", "number", "count", "choices", "casting", "player", "ahead"],["book", "number"],Ct,none, "casting_at", false⟩
noncomputable abbrev NN:DefT:=⟨"number_of_casting", top 26,["book", "casting", "count", "choices", "number", "player", "less"],["book", "casting"],Cy,none, "number_of_casting", false⟩
noncomputable abbrev NO:DefT:=⟨"may_join", top 28,["clashes", "taken", "part"],["clashes", "taken", "part"],DA,none, "may_join", false⟩
noncomputable abbrev NP:DefT:=⟨"takings_of", top 29,["book", "clashes", "player", "left", "takings", "part"],["book", "clashes", "player", "left"],DE,none, "takings_of", false⟩
noncomputable abbrev NQ:DefT:=⟨"price_of_taking", top 30,["prices", "player", "taken", "hires", "likes"],["prices", "player", "taken"],DG,none, "price_of_taking", false⟩
noncomputable abbrev NR:DefT:=⟨"left_behind", top 31,["left", "taken"],["left", "taken"],DJ,none, "left_behind", false⟩
noncomputable abbrev NS:DefT:=⟨"with_parts", top 32,["casting", "taken", "player"],["casting", "taken", "player"],DL,none, "with_parts", false⟩
noncomputable abbrev NT:DefT:=⟨"first_ways", top 33,["book", "many"],["book"],DM,none, "first_ways", false⟩
noncomputable abbrev NU:DefT:=⟨"next_ways", top 34,["book", "clashes", "prices", "player", "ways", "found", "left", "price", "casting", "taken", "behind", "cost"],["book", "clashes", "prices", "player", "ways"],DO,none, "next_ways", false⟩
noncomputable abbrev NW:DefT:=⟨"all_ways", top 35,["book", "prices", "clashes", "layers", "player"],["book", "prices"],DQ,none, "all_ways", false⟩
noncomputable abbrev NX:DefT:=⟨"least_of", top 36,["book", "prices"],["book", "prices"],DR,none, "least_of", false⟩
noncomputable abbrev NY:DefT:=⟨"like_of", top 38,["book", "player", "part", "like"],["book", "player", "part"],DS,none, "like_of", false⟩
noncomputable abbrev NZ:DefT:=⟨"likes_of", top 39,["book", "player"],["book", "player"],DU,none, "likes_of", false⟩
noncomputable abbrev N0:DefT:=⟨"prices_of", top 40,["book", "hires", "likes"],["book"],DX,none, "prices_of", false⟩
noncomputable abbrev N1:DefT:=⟨"_law_cell_at", top 42,["_law_script", "_law_k"],["_law_script", "_law_k"],DY,none, "_law_cell_at", false⟩
noncomputable abbrev N2:DefT:=⟨"_law_mixed", top 43,["_law_cell", "_law_k"],["_law_cell", "_law_k"],DZ,none, "_law_mixed", false⟩
noncomputable abbrev N3:DefT:=⟨"_law_minutes", top 44,["_law_n"],["_law_n"],D0,none, "_law_minutes", false⟩
noncomputable abbrev N4:DefT:=⟨"_law_parts", top 45,["_law_n", "_law_many", "_law_found", "_law_k", "_law_m", "_law_off", "_law_put_on"],["_law_n", "_law_many"],D2,none, "_law_parts", false⟩
noncomputable abbrev N5:DefT:=⟨"_law_scenes", top 46,["_law_cells", "_law_many", "_law_found", "_law_k", "_law_cell", "_law_m", "_law_numbers", "_law_name"],["_law_cells", "_law_many"],D5,none, "_law_scenes", false⟩
noncomputable abbrev N6:DefT:=⟨"_law_players", top 47,["_law_n", "_law_many", "_law_found", "_law_k", "_law_m", "_law_voices", "_law_hire"],["_law_n", "_law_many"],D6,none, "_law_players", false⟩
noncomputable abbrev N7:DefT:=⟨"_law_likes", top 48,["_law_n", "_law_players_here", "_law_many", "_law_found", "_law_player", "_law_part", "_law_m"],["_law_n", "_law_players_here", "_law_many"],D7,none, "_law_likes", false⟩
noncomputable abbrev N8:DefT:=⟨"_law_book", top 49,["_law_script", "_law_parts_here", "_law_players_here", "_law_scenes_here", "_law_told", "_law_cells", "_law_team"],["_law_script", "_law_parts_here", "_law_players_here", "_law_scenes_here"],D8,none, "_law_book", false⟩
noncomputable abbrev N9:DefT:=⟨"_law_clash", top 50,["_law_parts_here", "_law_scenes_here", "_law_i", "_law_j", "_law_now", "_law_last", "_law_scene", "_law_one", "_law_other"],["_law_parts_here", "_law_scenes_here", "_law_i", "_law_j"],Dc,none, "_law_clash", false⟩
noncomputable abbrev N_:DefT:=⟨"_law_clashes", top 51,["_law_book_here", "_law_found", "_law_j"],["_law_book_here"],Dh,none, "_law_clashes", false⟩
noncomputable abbrev Na:DefT:=⟨"_law_plays", top 52,["_law_book_here", "_law_clashes_here", "_law_casting", "_law_part", "_law_player", "_law_i", "_law_j"],["_law_book_here", "_law_clashes_here", "_law_casting"],Di,none, "_law_plays", false⟩
noncomputable abbrev Nb:DefT:=⟨"_law_has_number", top 53,["_law_book_here", "_law_casting", "_law_many", "_law_number"],["_law_book_here", "_law_casting", "_law_many"],Dj,none, "_law_has_number", false⟩
noncomputable abbrev d_law:DefT:=⟨"law", top 54,["_law_script", "_law_parts_here", "_law_players_here", "_law_book_here", "_law_clashes_here", "_law_many", "_law_n", "_law_ahead", "_law_drawn", "_law_k", "_law_found", "_law_casting", "_law_at", "_law_calm"],["_law_script"],wD,none, "law", false⟩
noncomputable def Nd:Stmt:=match top 22 with | .ClassDef _ _ _ b _ _ _ _ _ _ _=>b.getD 0 (.Pass ⟨0,0,0,0⟩)|x=>x
noncomputable abbrev d_init:DefT:=⟨"__init__", Nd,["self", "book"],["self", "book"],Dl,(some Dm), "Count.__init__", true⟩
noncomputable def Nf:Stmt:=match top 22 with | .ClassDef _ _ _ b _ _ _ _ _ _ _=>b.getD 1 (.Pass ⟨0,0,0,0⟩)|x=>x
noncomputable abbrev Es:DefT:=⟨"behind", Nf,["self", "choices", "player", "first", "found", "part", "players"],["self", "choices", "player"],Do,none, "Count.behind", true⟩
noncomputable def Ng:Stmt:=match top 22 with | .ClassDef _ _ _ b _ _ _ _ _ _ _=>b.getD 2 (.Pass ⟨0,0,0,0⟩)|x=>x
noncomputable abbrev d_many:DefT:=⟨"many", Ng,["self", "choices"],["self", "choices"],Dp,(some Dq), "Count.many", true⟩
noncomputable def defs:List DefT:=[Mx,My,Mz,NA,NB,NC,ND,NF,NG,NH,NI,NJ,NK,NL,NM,NN,NO,NP,NQ,NR,NS,NT,NU,NW,NX,NY,NZ,N0,N1,N2,N3,N4,N5,N6,N7,N8,N9,N_,Na,Nb,d_law,d_init,Es,d_many]
noncomputable def Tx:Txt:=⟨["PARTS", "PLAYERS", "SCENES", "LIKES"],[("time_between":Str),("change_time":Str),("short_change_from":Str),("reason_from":Str),("reason_of":Str),("clashes_of":Str),("fault_of_part":Str),("have_one_player":Str),("faults_of":Str),("ask_that_it_plays":Str),("all_choices":Str),("without":Str),("many_castings":Str),("player_at":Str),("casting_at":Str),("number_of_casting":Str),("may_join":Str),("takings_of":Str),("price_of_taking":Str),("left_behind":Str),("with_parts":Str),("first_ways":Str),("next_ways":Str),("all_ways":Str),("least_of":Str),("like_of":Str),("likes_of":Str),("prices_of":Str),("_law_cell_at":Str),("_law_mixed":Str),("_law_minutes":Str),("_law_parts":Str),("_law_scenes":Str),("_law_players":Str),("_law_likes":Str),("_law_book":Str),("_law_clash":Str),("_law_clashes":Str),("_law_plays":Str),("_law_has_number":Str),("law":Str)],[],[],[],[],[],none,[(42, "behind"),(43, "many")],[(41, "Count")]⟩
theorem okB:defs.all (·.okB Tx)=true:=by decide +kernel
theorem sBi:kE d_init.N d_init.ps (bC d_init.st)=true:=by decide +kernel
theorem sBm:kE d_many.N d_many.ps (bC d_many.st)=true:=by decide +kernel
end K78
open PySem PySem.W PyProof.Rows
set_option maxRecDepth 100000 in
set_option maxHeartbeats 0 in
theorem PySem.Challenge.cw_troupe_k78_whole_castings_by_numbers_holds : PySem.Challenge.rw_troupe_k78_whole_castings_by_numbers.Holds := by
 refine K78.hd ?_
 k_fill
 refine Tr.walkT (l:=PySem.Challenge.rw_troupe_k78_whole_castings_by_numbers) (T:=K78.T) (Tx:=K78.Tx) (defs:=K78.defs) (i:=40) (n:=30) rfl rfl rfl rfl rfl ⟨rfl,by decide,by decide⟩ K78.Mw (λw h Y=>PySem.W.kIn_of Y) ?X (λp=>by kernel_rfl) (λ_ _ _ _ _ _ _=>rfl)
 case X=>
  intro w mg h KX G
  refine' Tr.KJ ?X0 ?told
  case X0=>
   refine' ⟨Tr.dn_of rfl rfl rfl,K78.okB,(Tr.all_cons (Tr.aY KX G ?a0 ?l0 ?c0 ?k0 ?b0) (Tr.all_cons (Tr.aY KX G ?a1 ?l1 ?c1 ?k1 ?b1) (Tr.all_cons (Tr.aY KX G ?a2 ?l2 ?c2 ?k2 ?b2) (Tr.all_cons (Tr.aY KX G ?a3 ?l3 ?c3 ?k3 ?b3) (Tr.all_cons (Tr.aY KX G ?a4 ?l4 ?c4 ?k4 ?b4) (Tr.all_cons (Tr.aY KX G ?a5 ?l5 ?c5 ?k5 ?b5) (Tr.all_cons (Tr.aY KX G ?a6 ?l6 ?c6 ?k6 ?b6) (Tr.all_cons (Tr.aY KX G ?a7 ?l7 ?c7 ?k7 ?b7) (Tr.all_cons (Tr.aY KX G ?a8 ?l8 ?c8 ?k8 ?b8) (Tr.all_cons (Tr.aY KX G ?a9 ?l9 ?c9 ?k9 ?b9) (Tr.all_cons (Tr.aY KX G ?a10 ?l10 ?c10 ?k10 ?b10) (Tr.all_cons (Tr.aY KX G ?a11 ?l11 ?c11 ?k11 ?b11) (Tr.all_cons (Tr.aY KX G ?a12 ?l12 ?c12 ?k12 ?b12) (Tr.all_cons (Tr.aY KX G ?a13 ?l13 ?c13 ?k13 ?b13) (Tr.all_cons (Tr.aY KX G ?a14 ?l14 ?c14 ?k14 ?b14) (Tr.all_cons (Tr.aY KX G ?a15 ?l15 ?c15 ?k15 ?b15) (Tr.all_cons (Tr.aY KX G ?a16 ?l16 ?c16 ?k16 ?b16) (Tr.all_cons (Tr.aY KX G ?a17 ?l17 ?c17 ?k17 ?b17) (Tr.all_cons (Tr.aY KX G ?a18 ?l18 ?c18 ?k18 ?b18) (Tr.all_cons (Tr.aY KX G ?a19 ?l19 ?c19 ?k19 ?b19) (Tr.all_cons (Tr.aY KX G ?a20 ?l20 ?c20 ?k20 ?b20) (Tr.all_cons (Tr.aY KX G ?a21 ?l21 ?c21 ?k21 ?b21) (Tr.all_cons (Tr.aY KX G ?a22 ?l22 ?c22 ?k22 ?b22) (Tr.all_cons (Tr.aY KX G ?a23 ?l23 ?c23 ?k23 ?b23) (Tr.all_cons (Tr.aY KX G ?a24 ?l24 ?c24 ?k24 ?b24) (Tr.all_cons (Tr.aY KX G ?a25 ?l25 ?c25 ?k25 ?b25) (Tr.all_cons (Tr.aY KX G ?a26 ?l26 ?c26 ?k26 ?b26) (Tr.all_cons (Tr.aY KX G ?a27 ?l27 ?c27 ?k27 ?b27) (Tr.all_cons (Tr.aY KX G ?a28 ?l28 ?c28 ?k28 ?b28) (Tr.all_cons (Tr.aY KX G ?a29 ?l29 ?c29 ?k29 ?b29) (Tr.all_cons (Tr.aY KX G ?a30 ?l30 ?c30 ?k30 ?b30) (Tr.all_cons (Tr.aY KX G ?a31 ?l31 ?c31 ?k31 ?b31) (Tr.all_cons (Tr.aY KX G ?a32 ?l32 ?c32 ?k32 ?b32) (Tr.all_cons (Tr.aY KX G ?a33 ?l33 ?c33 ?k33 ?b33) (Tr.all_cons (Tr.aY KX G ?a34 ?l34 ?c34 ?k34 ?b34) (Tr.all_cons (Tr.aY KX G ?a35 ?l35 ?c35 ?k35 ?b35) (Tr.all_cons (Tr.aY KX G ?a36 ?l36 ?c36 ?k36 ?b36) (Tr.all_cons (Tr.aY KX G ?a37 ?l37 ?c37 ?k37 ?b37) (Tr.all_cons (Tr.aY KX G ?a38 ?l38 ?c38 ?k38 ?b38) (Tr.all_cons (Tr.aY KX G ?a39 ?l39 ?c39 ?k39 ?b39) (Tr.all_cons (Tr.aY KX G ?a40 ?l40 ?c40 ?k40 ?b40) (Tr.all_cons (Tr.uI ?ma41 ?mb41 ?mn41 ?l41 ?c41 ?k41 ?b41) (Tr.all_cons (Tr.uI ?ma42 ?mb42 ?mn42 ?l42 ?c42 ?k42 ?b42) (Tr.all_cons (Tr.uI ?ma43 ?mb43 ?mn43 ?l43 ?c43 ?k43 ?b43) Tr.gL)))))))))))))))))))))))))))))))))))))))))))),(Tr.qJ (Tr.qI KX G ?gg0) (Tr.qJ (Tr.qI KX G ?gg1) (Tr.qJ (Tr.qI KX G ?gg2) (Tr.qJ (Tr.qI KX G ?gg3) Tr.gl_nil)))),(Tr.all_cons (Tr.dH KX G ?z0) (Tr.all_cons (Tr.dH KX G ?z1) (Tr.all_cons (Tr.dH KX G ?z2) (Tr.all_cons (Tr.dH KX G ?z3) (Tr.all_cons (Tr.dH KX G ?z4) (Tr.all_cons (Tr.dH KX G ?z5) (Tr.all_cons (Tr.dH KX G ?z6) (Tr.all_cons (Tr.dH KX G ?z7) (Tr.all_cons (Tr.dH KX G ?z8) (Tr.all_cons (Tr.dH KX G ?z9) (Tr.all_cons (Tr.dH KX G ?z10) (Tr.all_cons (Tr.dH KX G ?z11) (Tr.all_cons (Tr.dH KX G ?z12) (Tr.all_cons (Tr.dH KX G ?z13) (Tr.all_cons (Tr.dH KX G ?z14) (Tr.all_cons (Tr.dH KX G ?z15) (Tr.all_cons (Tr.dH KX G ?z16) (Tr.all_cons (Tr.dH KX G ?z17) (Tr.all_cons (Tr.dH KX G ?z18) Tr.gL))))))))))))))))))),Tr.gL,Tr.gL,Tr.gL,Tr.gL,Tr.gL,Tr.gL,?lam,rfl,Tr.cnt_ok ?e0 ⟨⟨?e1,?e2,?e3,?e4⟩,?e5,?e6,?e7⟩,(Tr.all_cons (Tr.Ba (t:=K78.Es) ?na42 ?nb42 ?nn42 rfl rfl rfl ⟨?nx42,?ny42,?nz42⟩ ?nl42 ?nc42 ?nd42) (Tr.all_cons (Tr.Ba (t:=K78.d_many) ?na43 ?nb43 ?nn43 rfl rfl rfl ⟨?nx43,?ny43,?nz43⟩ ?nl43 ?nc43 ?nd43) Tr.gL)),(Tr.all_cons (Tr.mc_in KX G (t:=K78.d_init) ?oa ?ob ?on rfl rfl ⟨?o1,?o2,?o3,?o4⟩ ⟨⟨?f1,?f2,?f3,?f4⟩,?f5,?f6,?f7⟩ ?ol ?oc ?ok ?od) Tr.gL)⟩
   (case lam=>kernel_rfl)
   (case a0=>k_is)
   (case l0=>k_is);(case c0=>k_is);(case k0=>k_is);(case b0=>exact λ_ _ _ _ _ _=>Tr.eU (λ_ _ _=>rfl))
   (case a1=>k_is)
   (case l1=>k_is);(case c1=>k_is);(case k1=>k_is);(case b1=>exact λ_ _ _ _ _ _=>Tr.eU (λ_ _ _=>rfl))
   (case a2=>k_is)
   (case l2=>k_is);(case c2=>k_is);(case k2=>k_is);(case b2=>exact λ_ _ _ _ _ _=>Tr.nV (λ_ _ _ _=>rfl))
   (case a3=>k_is)
   (case l3=>k_is);(case c3=>k_is);(case k3=>k_is);(case b3=>exact λ_ _ _ _ _ _=>Tr.nV (λ_ _ _ _=>rfl))
   (case a4=>k_is)
   (case l4=>k_is);(case c4=>k_is);(case k4=>k_is);(case b4=>exact λ_ _ _ _ _ _=>Tr.eU (λ_ _ _=>rfl))
   (case a5=>k_is)
   (case l5=>k_is);(case c5=>k_is);(case k5=>k_is);(case b5=>exact λ_ _ _ _ _ _=>Tr.jH (λ_=>rfl))
   (case a6=>k_is)
   (case l6=>k_is);(case c6=>k_is);(case k6=>k_is);(case b6=>exact λ_ _ _ _ _ _=>Tr.eU (λ_ _ _=>rfl))
   (case a7=>k_is)
   (case l7=>k_is);(case c7=>k_is);(case k7=>k_is);(case b7=>exact λ_ _ _ _ _ _=>Tr.eU (λ_ _ _=>rfl))
   (case a8=>k_is)
   (case l8=>k_is);(case c8=>k_is);(case k8=>k_is);(case b8=>exact λ_ _ _ _ _ _=>Tr.dN (λ_ _=>rfl))
   (case a9=>k_is)
   (case l9=>k_is);(case c9=>k_is);(case k9=>k_is);(case b9=>exact λ_ _ _ _ _ _=>Tr.dN (λ_ _=>rfl))
   (case a10=>k_is)
   (case l10=>k_is);(case c10=>k_is);(case k10=>k_is);(case b10=>exact λ_ _ _ _ _ _=>Tr.jH (λ_=>rfl))
   (case a11=>k_is)
   (case l11=>k_is);(case c11=>k_is);(case k11=>k_is);(case b11=>exact λ_ _ _ _ _ _=>Tr.dN (λ_ _=>rfl))
   (case a12=>k_is)
   (case l12=>k_is);(case c12=>k_is);(case k12=>k_is);(case b12=>exact λ_ _ _ _ _ _=>Tr.jH (λ_=>rfl))
   (case a13=>k_is)
   (case l13=>k_is);(case c13=>k_is);(case k13=>k_is);(case b13=>exact λ_ _ _ _ _ _=>Tr.eU (λ_ _ _=>rfl))
   (case a14=>k_is)
   (case l14=>k_is);(case c14=>k_is);(case k14=>k_is);(case b14=>exact λ_ _ _ _ _ _=>Tr.dN (λ_ _=>rfl))
   (case a15=>k_is)
   (case l15=>k_is);(case c15=>k_is);(case k15=>k_is);(case b15=>exact λ_ _ _ _ _ _=>Tr.dN (λ_ _=>rfl))
   (case a16=>k_is)
   (case l16=>k_is);(case c16=>k_is);(case k16=>k_is);(case b16=>exact λ_ _ _ _ _ _=>Tr.eU (λ_ _ _=>rfl))
   (case a17=>k_is)
   (case l17=>k_is);(case c17=>k_is);(case k17=>k_is);(case b17=>exact λ_ _ _ _ _ _=>Tr.nV (λ_ _ _ _=>rfl))
   (case a18=>k_is)
   (case l18=>k_is);(case c18=>k_is);(case k18=>k_is);(case b18=>exact λ_ _ _ _ _ _=>Tr.eU (λ_ _ _=>rfl))
   (case a19=>k_is)
   (case l19=>k_is);(case c19=>k_is);(case k19=>k_is);(case b19=>exact λ_ _ _ _ _ _=>Tr.dN (λ_ _=>rfl))
   (case a20=>k_is)
   (case l20=>k_is);(case c20=>k_is);(case k20=>k_is);(case b20=>exact λ_ _ _ _ _ _=>Tr.eU (λ_ _ _=>rfl))
   (case a21=>k_is)
   (case l21=>k_is);(case c21=>k_is);(case k21=>k_is);(case b21=>exact λ_ _ _ _ _ _=>Tr.jH (λ_=>rfl))
   (case a22=>k_is)
   (case l22=>k_is);(case c22=>k_is);(case k22=>k_is);(case b22=>exact λ_ _ _ _ _ _=>Tr.len5 (λ_ _ _ _ _=>rfl))
   (case a23=>k_is)
   (case l23=>k_is);(case c23=>k_is);(case k23=>k_is);(case b23=>exact λ_ _ _ _ _ _=>Tr.dN (λ_ _=>rfl))
   (case a24=>k_is)
   (case l24=>k_is);(case c24=>k_is);(case k24=>k_is);(case b24=>exact λ_ _ _ _ _ _=>Tr.dN (λ_ _=>rfl))
   (case a25=>k_is)
   (case l25=>k_is);(case c25=>k_is);(case k25=>k_is);(case b25=>exact λ_ _ _ _ _ _=>Tr.eU (λ_ _ _=>rfl))
   (case a26=>k_is)
   (case l26=>k_is);(case c26=>k_is);(case k26=>k_is);(case b26=>exact λ_ _ _ _ _ _=>Tr.dN (λ_ _=>rfl))
   (case a27=>k_is)
   (case l27=>k_is);(case c27=>k_is);(case k27=>k_is);(case b27=>exact λ_ _ _ _ _ _=>Tr.jH (λ_=>rfl))
   (case a28=>k_is)
   (case l28=>k_is);(case c28=>k_is);(case k28=>k_is);(case b28=>exact λ_ _ _ _ _ _=>Tr.dN (λ_ _=>rfl))
   (case a29=>k_is)
   (case l29=>k_is);(case c29=>k_is);(case k29=>k_is);(case b29=>exact λ_ _ _ _ _ _=>Tr.dN (λ_ _=>rfl))
   (case a30=>k_is)
   (case l30=>k_is);(case c30=>k_is);(case k30=>k_is);(case b30=>exact λ_ _ _ _ _ _=>Tr.jH (λ_=>rfl))
   (case a31=>k_is)
   (case l31=>k_is);(case c31=>k_is);(case k31=>k_is);(case b31=>exact λ_ _ _ _ _ _=>Tr.dN (λ_ _=>rfl))
   (case a32=>k_is)
   (case l32=>k_is);(case c32=>k_is);(case k32=>k_is);(case b32=>exact λ_ _ _ _ _ _=>Tr.dN (λ_ _=>rfl))
   (case a33=>k_is)
   (case l33=>k_is);(case c33=>k_is);(case k33=>k_is);(case b33=>exact λ_ _ _ _ _ _=>Tr.dN (λ_ _=>rfl))
   (case a34=>k_is)
   (case l34=>k_is);(case c34=>k_is);(case k34=>k_is);(case b34=>exact λ_ _ _ _ _ _=>Tr.eU (λ_ _ _=>rfl))
   (case a35=>k_is)
   (case l35=>k_is);(case c35=>k_is);(case k35=>k_is);(case b35=>exact λ_ _ _ _ _ _=>Tr.nV (λ_ _ _ _=>rfl))
   (case a36=>k_is)
   (case l36=>k_is);(case c36=>k_is);(case k36=>k_is);(case b36=>exact λ_ _ _ _ _ _=>Tr.nV (λ_ _ _ _=>rfl))
   (case a37=>k_is)
   (case l37=>k_is);(case c37=>k_is);(case k37=>k_is);(case b37=>exact λ_ _ _ _ _ _=>Tr.jH (λ_=>rfl))
   (case a38=>k_is)
   (case l38=>k_is);(case c38=>k_is);(case k38=>k_is);(case b38=>exact λ_ _ _ _ _ _=>Tr.eU (λ_ _ _=>rfl))
   (case a39=>k_is)
   (case l39=>k_is);(case c39=>k_is);(case k39=>k_is);(case b39=>exact λ_ _ _ _ _ _=>Tr.eU (λ_ _ _=>rfl))
   (case a40=>k_is)
   (case l40=>k_is);(case c40=>k_is);(case k40=>k_is);(case b40=>exact λ_ _ _ _ _ _=>Tr.jH (λ_=>rfl))
   (case ma41=>k_is);(case mb41=>k_is);(case mn41=>k_is)
   (case l41=>k_is);(case c41=>k_is);(case k41=>k_is);(case b41=>exact λ_ _ _ _ _ _=>Tr.dN (λ_ _=>rfl))
   (case ma42=>k_is);(case mb42=>k_is);(case mn42=>k_is)
   (case l42=>k_is);(case c42=>k_is);(case k42=>k_is);(case b42=>exact λ_ _ _ _ _ _=>Tr.eU (λ_ _ _=>rfl))
   (case ma43=>k_is);(case mb43=>k_is);(case mn43=>k_is)
   (case l43=>k_is);(case c43=>k_is);(case k43=>k_is);(case b43=>exact λ_ _ _ _ _ _=>Tr.dN (λ_ _=>rfl))
   (case gg0=>k_is)
   (case gg1=>k_is)
   (case gg2=>k_is)
   (case gg3=>k_is)
   (case z0=>k_is)
   (case z1=>k_is)
   (case z2=>k_is)
   (case z3=>k_is)
   (case z4=>k_is)
   (case z5=>k_is)
   (case z6=>k_is)
   (case z7=>k_is)
   (case z8=>k_is)
   (case z9=>k_is)
   (case z10=>k_is)
   (case z11=>k_is)
   (case z12=>k_is)
   (case z13=>k_is)
   (case z14=>k_is)
   (case z15=>k_is)
   (case z16=>k_is)
   (case z17=>k_is)
   (case z18=>k_is)
   (case e0=>k_is);(case e1=>kernel_rfl);(case e2=>kernel_rfl);(case e3=>kernel_rfl);(case e4=>kernel_rfl);(case e5=>unfold L2.NoAttr;kernel_rfl);(case e6=>unfold L2.NoAttr;kernel_rfl);(case e7=>unfold L2.NoAttr;kernel_rfl)
   (case na42=>k_is);(case nb42=>k_is);(case nn42=>k_is);(case nx42=>kernel_rfl);(case ny42=>kernel_rfl);(case nz42=>k_is);(case nl42=>k_is);(case nc42=>k_is);(case nd42=>exact λ_ _ _ _ _ _=>Tr.eU (λ_ _ _=>rfl))
   (case na43=>k_is);(case nb43=>k_is);(case nn43=>k_is);(case nx43=>kernel_rfl);(case ny43=>kernel_rfl);(case nz43=>k_is);(case nl43=>k_is);(case nc43=>k_is);(case nd43=>exact λ_ _ _ _ _ _=>Tr.dN (λ_ _=>rfl))
   (case oa=>k_is);(case ob=>k_is);(case on=>k_is);(case o1=>kernel_rfl);(case o2=>kernel_rfl);(case o3=>kernel_rfl);(case o4=>kernel_rfl);(case f1=>kernel_rfl);(case f2=>kernel_rfl);(case f3=>kernel_rfl);(case f4=>kernel_rfl);(case f5=>unfold L2.NoAttr;kernel_rfl);(case f6=>unfold L2.NoAttr;kernel_rfl);(case f7=>unfold L2.NoAttr;kernel_rfl)
   (case ol=>k_is);(case oc=>k_is);(case ok=>k_is);(case od=>exact λ_ _ _ _ _ _=>Tr.dN (λ_ _=>rfl))
  intro X0
  refine' (Tr.all_cons (λ_ z=>nomatch z) (Tr.all_cons (λ_ z=>nomatch z) (Tr.all_cons (λ_ z=>nomatch z) (Tr.all_cons (λ_ z=>nomatch z) (Tr.all_cons (λ_ z=>nomatch z) (Tr.all_cons (λ_ z=>nomatch z) (Tr.all_cons (λ_ z=>nomatch z) (Tr.all_cons (λ_ z=>nomatch z) (Tr.all_cons (λ_ z=>nomatch z) (Tr.all_cons (λ_ z=>nomatch z) (Tr.all_cons (λ_ z=>nomatch z) (Tr.all_cons (λ_ z=>nomatch z) (Tr.all_cons (λ_ z=>nomatch z) (Tr.all_cons (λ_ z=>nomatch z) (Tr.all_cons (λ_ z=>nomatch z) (Tr.all_cons (λ_ z=>nomatch z) (Tr.all_cons (λ_ z=>nomatch z) (Tr.all_cons (λ_ z=>nomatch z) (Tr.all_cons (λ_ z=>nomatch z) (Tr.all_cons (λ_ z=>nomatch z) (Tr.all_cons (λ_ z=>nomatch z) (Tr.all_cons (λ_ z=>nomatch z) (Tr.all_cons (λ_ z=>nomatch z) (Tr.all_cons (λ_ z=>nomatch z) (Tr.all_cons (λ_ z=>nomatch z) (Tr.all_cons (λ_ z=>nomatch z) (Tr.all_cons (λ_ z=>nomatch z) (Tr.all_cons (λ_ z=>nomatch z) (Tr.all_cons (λ_ z=>nomatch z) (Tr.all_cons (λ_ z=>nomatch z) (Tr.all_cons (λ_ z=>nomatch z) (Tr.all_cons (λ_ z=>nomatch z) (Tr.all_cons (λ_ z=>nomatch z) (Tr.all_cons (λ_ z=>nomatch z) (Tr.all_cons (λ_ z=>nomatch z) (Tr.all_cons (λ_ z=>nomatch z) (Tr.all_cons (λ_ z=>nomatch z) (Tr.all_cons (λ_ z=>nomatch z) (Tr.all_cons (λ_ z=>nomatch z) (Tr.all_cons (λ_ z=>nomatch z) (Tr.all_cons (λ_ z=>nomatch z) (Tr.all_cons (λ_ _=>?ti) (Tr.all_cons (λ_ z=>nomatch z) (Tr.all_cons (λ_ _=>?tm) Tr.gL))))))))))))))))))))))))))))))))))))))))))))
  case ti=>
   refine Tr.mk_ok X0 (ve:=K78.qV) (we:=K78.qW) rfl rfl rfl (Tr.mvC_of rfl) K78.sBi rfl (x := "self") (by decide +kernel) ⟨_,_,_,_,_,_,_,_,_,_,?_,?_,rfl,rfl,?_,?_,rfl⟩<;>decide +kernel
  case tm=>
   refine Tr.mem_ok X0 (ve:=K78.nZ) rfl rfl (Tr.mvN_of rfl) K78.sBm rfl (x := "self") (y := "choices") (by decide +kernel) (by decide +kernel) ⟨_,_,_,_,_,_,_,_,_,_,_,_,_,_,_,_,?_,?_,rfl,?_,rfl⟩<;>decide +kernel
