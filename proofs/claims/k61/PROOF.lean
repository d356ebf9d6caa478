import PyProof.Rows.All
import Wide.All
import OpenK.AllK
import Wide.FinOn
import Lean
import PyProof.EqAt
import PyProof.EqKinds
import PyProof.TupleCall
import PySem.Challenge.RW_troupe_k61_nights
set_option Elab.async false
set_option genSizeOf false
set_option bootstrap.genMatcherCode false
set_option compiler.extract_closed false
set_option genSizeOfSpec false
set_option linter.all false
set_option maxRecDepth 100000
open Array renaming length_toList->oR,toList_inj->Eb,getElem?_toList->LH,toList_append->LN
open Bool renaming and_eq_true->aF,false_ne_true->aO,not_eq_true'->bU,or_eq_true->fL,false_eq_true->mF,false_or->oV,or_true->Ej,and_eq_true_iff->Kx,and_false->LF,not_false->LM
open Int renaming toNat_natCast->kY,emod_nonneg->pB,emod_lt_of_pos->zW,natCast_nonneg->Eh,toNat_of_nonneg->LZ
open List renaming range->aD,length_map->aE,map_cons->aK,mem_cons_of_mem->aR,replicate->aU,mem_cons->aV,length_cons->aW,mem_cons_self->bC,getElem?_eq_getElem->bD,size_toArray->bG,getElem?_map->bT,mem_map->bV,map_map->cB,length_range->cC,length_append->cD,find?_cons->cH,mem_singleton->cI,mem_append_right->cR,mem_range->cV,range'->cW,nodup_cons->dD,length_replicate->dX,length_set->dY,mem_filter->eN,toArray->eO,mem_append->fK,map_append->fM,filterMap_eq_map'->fN,getElem?_eq_some_iff->gC,getElem?_append_right->gD,all_eq_true->gE,filterMap_cons->gT,lookup_cons->gU,nodup_nil->gW,filter_cons->gX,mem_of_getElem?->iJ,map_congr_left->iK,length_filter_le->iL,length_take->jG,getD_eq_getElem?_getD->jH,any_cons->kA,getElem_mem->kC,getElem?_append_left->kU,length_singleton->kW,getElem?_replicate->lY,map_nil->lZ,replicate_succ->mC,take_of_length_le->mD,not_mem_nil->mH,append_nil->oS,flatten_cons->oT,append_assoc->oU,length_nil->oW,drop_zero->oX,getElem?_eq_none->oZ,all_cons->pA,mem_append_left->sX,getElem?_set_self->sY,getElem?_set_ne->sZ,length_drop->tB,drop_eq_getElem_cons->tD,pairwise_cons->tJ,mem_range'_1->tK,any_eq_true->tL,nodup_append->tM,of_mem_zip->zM,range_succ_eq_map->zN,nil_append->zO,drop_length->zQ,lookup->zS,findSome?_cons->zT,length_range'->zU,mem_of_mem_take->zV,map_take->zX,mem_filterMap->E9,Pairwise->E_,eq_nil_of_length_eq_zero->Ec,range_eq_range'->Ef,range'_succ->Eg,map_drop->Ei,getElem_inj->Ky,getElem?_take_of_lt->LA,filterMap_map->LB,foldl_cons->LD,getElem?_cons_succ->LJ,contains_iff_mem->LO,sum_append->LQ,cons_append->LR,mem_of_mem_drop->LS,take_append_drop->LU,find?_eq_none->LV,filter_append->LW,filter_cons_of_pos->LX,filter_cons_of_neg->LY,drop_of_length_le->L1,exists_mem_of_length_pos->L4,getLast?_append->L5,getElem?_range->L6
open Nat renaming le_refl->aS,ne_of_lt->bI,le_trans->bX,lt_of_lt_of_le->cU,zero_le->eW,le_of_lt->jF,zero_add->kB,lt_irrefl->kR,ne_of_gt->kT,lt_trans->kX,min_eq_left->mJ,le_succ->oY,sub_zero->tF,lt_succ_of_lt->tH,mul_le_mul->tO,not_lt_zero->zP,le_add_right->zR,not_lt->Ed,le_of_eq->Ee,lt_of_succ_lt_succ->LI,lt_succ_self->LK,succ_ne_self->LL,min_eq_right->L0
open Option renaming some->fJ,isSome_map->Ea,isSome_iff_exists->Kz,getD_none->LC,map_eq_some_iff->LG,isNone_iff_eq_none->LP,map_map->L3
namespace K61
theorem both1{a b:Bool}(h:(a&&b)=true):a=true:=(Kx.mp h).1
theorem both2{a b:Bool}(h:(a&&b)=true):b=true:=(Kx.mp h).2
noncomputable def vw:PySem.Program:=PySem.W.view PySem.Challenge.pw_troupe_k61_nights [1,2,3,4,5,6,8,9,10,11,12,13,15,16,17,18,20,21,22,23,24,25,26,27,28,29,30,32,33,34,35,36,37,38,39,40,41,42,43,44,45]
end K61
section
open PySem PySem.W PyProof.Rows
set_option maxHeartbeats 0
local macro_rules
  | `(tactic| o_head $H)=>`(tactic| (
    apply holds_open (N:=4100) (q:=K61.vw) (loose:=[])
      (Yf:=($H).obs) (Ya:=($H).val) (YP:=($H).says)
      (XP:=XL K61.vw []) (Xt:=fun s=>xlAt K61.vw [] s&&recOk (PySem.Challenge.rw_troupe_k61_nights.row.toRowW).records s)
      (by intro w;kernel_rfl) ($H).of ($H).keeps
      (fun s e=>xl_of s (K61.both1 e)) XL.keeps
      rfl rfl rfl
      (fun s e=>recFacts_of (K61.both2 e))
      rfl (by assumption) (by decide +kernel)
      (by refine⟨rfl,rfl,rfl,rfl,rfl,?_⟩;decide +kernel)))
open_top K61.hd for PySem.Challenge.rw_troupe_k61_nights
end
set_option Elab.async false
set_option linter.all false
set_option maxRecDepth 100000
namespace L2
open PySem PySem.Spec PyProof.Rows
noncomputable abbrev Key:=Sum Int Str
noncomputable def gY:Key->Value->Bool
 |.inl k,v=>Value.isInt k v
 |.inr x,v=>Value.isStrOf x v
noncomputable def keyH(w:World):Key->Int
 |.inl k=>hashInt k
 |.inr x=>hashStr w x
theorem gZ:∀{k:Key} {v:Value},gY k v=true->(∃i t,k=Sum.inl i/\v=Value.int i t)\/(∃x t,k=Sum.inr x/\v=Value.str x t)
 |.inl i,v,h=>by
  obtain⟨t,e⟩:=Value.isInt_shape (k:=i) (v:=v) h
  exact .inl ⟨i,t,rfl,e⟩
 |.inr x,v,h=>by
  obtain⟨t,e⟩:=Value.isStrOf_shape (x:=x) (v:=v) h
  exact .inr ⟨x,t,rfl,e⟩
theorem zY(i:Int)(t:Tok):gY (.inl i) (.int i t)=true:=by simp[gY,Value.isInt]
theorem zZ(x:Str)(t:Tok):gY (.inr x) (.str x t)=true:=by simp[gY,Value.isStrOf]
theorem key_ll(a b:Int):decide ((Sum.inl a:Key)=Sum.inl b)=(a==b):=by
 by_cases e:a=b
 ·subst e;simp
 ·have h:¬(Sum.inl a:Key)=Sum.inl b:=λq=>e (Sum.inl.inj q)
  rw[decide_eq_false h]
  exact(beq_eq_false_iff_ne.mpr e).symm
theorem key_rr(a b:Str):decide ((Sum.inr a:Key)=Sum.inr b)=decide (a=b):=by
 by_cases e:a=b
 ·subst e;simp
 ·have h:¬(Sum.inr a:Key)=Sum.inr b:=λq=>e (Sum.inr.inj q)
  rw[decide_eq_false h,decide_eq_false e]
theorem key_lr(a:Int)(b:Str):decide ((Sum.inl a:Key)=Sum.inr b)=false:=decide_eq_false (λq=>nomatch q)
theorem key_rl(a:Str)(b:Int):decide ((Sum.inr a:Key)=Sum.inl b)=false:=decide_eq_false (λq=>nomatch q)
noncomputable def bW(prog:Program)(w:World):PySem.KeyKind prog w Key where
 is:=gY
 hash:=keyH w
 inj:=λv a b ha hb=>by
  rcases gZ ha with⟨i,t,rfl,rfl⟩|⟨x,t,rfl,rfl⟩
  ·rcases gZ hb with⟨j,u,rfl,e⟩|⟨y,u,rfl,e⟩
   ·injection e with e1 _;rw[e1]
   ·exact nomatch e
  ·rcases gZ hb with⟨j,u,rfl,e⟩|⟨y,u,rfl,e⟩
   ·exact nomatch e
   ·injection e with e1 _;rw[e1]
 byValue:=λk v h=>by
  rcases gZ h with⟨i,t,rfl,rfl⟩|⟨x,t,rfl,rfl⟩<;>rfl
 pyHash:=λhv h=>by
  rcases gZ hv with⟨i,t,rfl,rfl⟩|⟨x,t,rfl,rfl⟩
  ·exact wpAny_pyHash_int h
  ·exact wpAny_pyHash_str h
 eqBool:=λhu hv h=>by
  rcases gZ hu with⟨i,t,rfl,rfl⟩|⟨x,t,rfl,rfl⟩
  ·rcases gZ hv with⟨j,u,rfl,rfl⟩|⟨y,u,rfl,rfl⟩
   ·rw[key_ll]at h;exact wpAny_eqBool_int h
   ·rw[key_lr]at h;exact SeqAt.EqAt.int_str i t y u _ _ _ _ h
  ·rcases gZ hv with⟨j,u,rfl,rfl⟩|⟨y,u,rfl,rfl⟩
   ·rw[key_rl]at h;exact SeqAt.EqAt.str_int x t j u _ _ _ _ h
   ·rw[key_rr]at h;exact wpAny_eqBool_str h
 «strs»:=λk x t v h=>by
  rcases gZ h with⟨i,u,rfl,e⟩|⟨y,u,rfl,e⟩
  ·exact nomatch e
  ·injection e with e1 _
   subst e1
   cases v<;>rfl
theorem Ek(prog:Program)(w:World)(i:Int)(t:Tok):(bW prog w).is (.inl i) (.int i t)=true:=zY i t
theorem El(prog:Program)(w:World)(x:Str)(t:Tok):(bW prog w).is (.inr x) (.str x t)=true:=zZ x t
inductive V where
 |non|bl (b:Bool)|int (i:Int)|str (x:Str)|byt (b:Array UInt8)|flt (b:UInt64)|ref (a:Addr)|ty (n:String)
 deriving DecidableEq
noncomputable def RelV:V->Value->Prop
 |.non,u=>u=Value.none
 |.bl b,u=>u=Value.bool b
 |.int i,u=>∃t,u=Value.int i t
 |.str x,u=>∃t,u=Value.str x t
 |.byt b,u=>∃t,u=Value.bytes b t
 |.flt b,u=>∃t,u=Value.float b t
 |.ref a,u=>u=Value.ref a
 |.ty n,u=>u=Value.type n
noncomputable abbrev Vals:List V->List Value->Prop:=Paired RelV
theorem Vals.length{xs:List V}{us:List Value}(r:Vals xs us):xs.length=us.length:=Paired.length r
theorem Vals.get:∀{xs:List V} {us:List Value} {i:Nat} {x:V},Vals xs us->xs[i]?=some x->∃u,us[i]?=some u/\RelV x u
 |_,_,_,_,.nil,e=>by simp at e
 |_,_,0,_,.cons r _,e=>by simp at e;subst e;exact⟨_,rfl,r⟩
 |_,_,i+1,x,.cons _ t,e=>by
  obtain⟨u,h1,h2⟩:=Vals.get (i:=i) (x:=x) t (by simpa using e)
  exact⟨u,by simpa using h1,h2⟩
theorem Vals.append:∀{xs ys:List V} {us ws:List Value},Vals xs us->Vals ys ws->Vals (xs++ys) (us++ws)
 |_,_,_,_,.nil,s=>s
 |_,_,_,_,.cons r t,s=>.cons r (Vals.append t s)
theorem Vals.take:∀{xs:List V} {us:List Value} (n:Nat),Vals xs us->Vals (xs.take n) (us.take n)
 |_,_,0,_=>.nil
 |_,_,_+1,.nil=>.nil
 |_,_,n+1,.cons r t=>.cons r (Vals.take n t)
theorem Vals.drop:∀{xs:List V} {us:List Value} (n:Nat),Vals xs us->Vals (xs.drop n) (us.drop n)
 |_,_,0,r=>r
 |_,_,_+1,.nil=>.nil
 |_,_,n+1,.cons _ t=>Vals.drop n t
noncomputable def RelO:Option V->Option Value->Prop
 |some v,some u=>RelV v u
 |none,none=>True
 |_,_=>False
noncomputable def KV{κ:Type}:List (κ×V)->List (κ×Value)->Prop:=Paired λ(p:κ×V) (q:κ×Value)=>p.1=q.1/\RelV p.2 q.2
noncomputable def kV:Key->V
 |.inl i=>.int i
 |.inr x=>.str x
inductive HO where
 |lst (xs:List V)
 |tup (xs:List V)
 |dK (kvs:List (Key×V))|dT (kvs:List (List Key×V))
 |set (S:Int->Bool) (n:Nat)
 |ins (C dx:Addr) (fs:List (Str×V))
 |own (x:Addr)
 |xd (fs:List (Str×V))
 |met (f x:Addr)
 |rng (lo hi:Int)
 |frz (o:Obj) (u:HO)
 |tbl (ps:Array Value)
 |ctab (pos:Pos) (qual:Str)
 |ext (φ:Heap->Prop)
noncomputable abbrev Hp:=Addr->Option HO
noncomputable def upd(H:Hp)(a:Addr)(o:HO):Hp:=λb=>if b=a then some o else H b
theorem bM{H:Hp}{a:Addr}{o:HO}:upd H a o a=some o:=by unfold upd;rw[if_pos rfl]
theorem aH{H:Hp}{a b:Addr}{o:HO}(h:b≠a):upd H a o b=H b:=by unfold upd;rw[if_neg h]
theorem Em{H:Hp}{a:Addr}{o u:HO}:upd (upd H a o) a u=upd H a u:=by
 funext b;unfold upd;split<;>rfl
theorem pC{H:Hp}{a b:Addr}{o u:HO}(h:H a=some o)(h':H b=some u)(d:o≠u):a≠b:=by
 intro e;subst e;rw[h]at h';exact d (fJ.inj h')
theorem gF{H:Hp}{a b:Addr}{o:HO}(h:H a=some o)(h':H b=none):a≠b:=by
 intro e;subst e;rw[h]at h';cases h'
section
variable(P:Program)(w:World)
noncomputable def ObjOk(H:Hp)(h:Heap)(a:Addr):HO->Prop
 |.lst xs=>xs.length<=sizeLine/\∃(its:List Value) (n:Nat),Vals xs its/\h.get? a=some {cls:=.type "list", data:=.seq its.toArray n}
 |.tup xs=>xs.length<=sizeLine/\∃its:List Value,Vals xs its/\IsTup h a its.toArray
 |.dK kvs=>kvs.length<=sizeLine/\(a==sysModules)=false/\∃vs,KV kvs vs/\h.DictOf (bW P w) a vs
 |.dT kvs=>kvs.length<=sizeLine/\(a==sysModules)=false/\∃xs:List (List Key×Addr×Value),
  Paired (λ(p:List Key×V) (q:List Key×Addr×Value)=>p.1=q.1/\H q.2.1=some (.tup (p.1.map kV))/\RelV p.2 q.2.2) kvs xs /\
  ∃o es ep,h.get? a=some o/\o.ExactDict/\o.data=.dict es ep/\es.toList=xs.map (entryOfKey (tupleKind (bW P w)))/\(xs.map (·.1)).Nodup
 |.set S n=>h.SetOf (intKind P w) a S n
 |.ins C dx fs=>H dx=some (.own a)/\fs.length<=1000/\dx≠a/\h.get? a=some (PySem.W.instObj C dx) /\
  ∃mA,h.Ns1 dx mA/\(∀f,RelO (fs.lookup f) (mA f))/\PySem.Within mA (fs.map (·.1))
 |.own _=>∃o,h.get? a=some o
 |.xd fs=>∃mA,h.Ns1 a mA/\∀f,RelO (fs.lookup f) (mA f)
 |.rng lo hi=>∃t u v,h.get? a=some {cls:=.type "range", data:=.fields #[.int lo t,.int hi u,.int 1 v] }
 |.frz o u=>h.get? a=some o/\ObjOk H h a u
 |.tbl ps=>h.get? a=some {cls:=.none,data:=.fields ps}
 |.ctab pos qual=>∃ps:Array Value,h.get? a=some {cls:=.none,data:=.fields ps}/\TriplesOk ps.toList/\∀cv,codeAmong pos ps.toList=some cv->∃(c:Addr)(oc:Obj)(vs:Array Value)(t:Tok),cv=.ref c/\H c=some (.frz oc (.own a))/\oc.data=.fields vs/\vs[1]?=some (.str qual t)
 |.met f x=>h.get? a=some (PySem.W.methodObj (.ref f) (.ref x))
 |.ext φ=>φ h/\(∃o,h.get? a=some o)/\∀h1 h2:Heap,φ h1->(∀o,h1.get? a=some o->h2.get? a=some o)->φ h2
noncomputable def HOk(H:Hp)(h:Heap):Prop:=∀a o,H a=some o->ObjOk P w H h a o
end
section
variable{P:Program}{w:World}{H H':Hp}{h h':Heap}{a:Addr}{o:HO}
theorem ObjOk.lt(x:ObjOk P w H h a o):a<h.objs.size:=by
 cases o with
 |lst xs=>obtain⟨_,_,_,_,e⟩:=x;exact Heap.lt_size e
 |tup xs=>obtain⟨_,_,_,p⟩:=x;exact p.lt
 |dK kvs=>obtain⟨_,_,_,_,o,_,_,e,_⟩:=x;exact Heap.lt_size e
 |dT kvs=>obtain⟨_,_,_,_,o,_,_,e,_⟩:=x;exact Heap.lt_size e
 |set S n=>obtain⟨o,_,_,_,e,_⟩:=x;exact Heap.lt_size e
 |ins C dx fs=>obtain⟨_,_,_,e,_⟩:=x;exact Heap.lt_size e
 |own y=>obtain⟨_,e⟩:=x;exact Heap.lt_size e
 |xd fs=>obtain⟨_,⟨_,_,_,e,_⟩,_⟩:=x;exact Heap.lt_size e
 |rng lo hi=>obtain⟨_,_,_,e⟩:=x;exact Heap.lt_size e
 |frz ob u=>obtain⟨e,_⟩:=x;exact Heap.lt_size e
 |tbl ps=>exact Heap.lt_size (show h.get? a=some _ from x)
 |ctab ps q=>obtain⟨_,e,_⟩:=x;exact Heap.lt_size e
 |met f y=>exact Heap.lt_size (show h.get? a=some _ from x)
 |ext φ=>obtain⟨_,⟨_,e⟩,_⟩:=x;exact Heap.lt_size e
theorem Paired.mapP{α β:Type}{F G:α->β->Prop}:∀{l₁:List α} {l₂:List β},Paired F l₁ l₂->(∀a b,F a b->G a b)->Paired G l₁ l₂
 |_,_,.nil,_=>.nil
 |_,_,.cons r t,f=>.cons (f _ _ r) (Paired.mapP t f)
theorem ObjOk.stay(x:ObjOk P w H h a o)(k:∀b u,(b=a\/H b=some (.own a))->h.get? b=some u->h'.get? b=some u)
 (ho:∀b,H b=some (.own a)->H' b=some (.own a)) (ht:∀b xs,H b=some (.tup xs)->H' b=some (.tup xs)) (hz:∀b ob u,H b=some (.frz ob u)->H' b=some (.frz ob u)):ObjOk P w H' h' a o:=by
 induction o with
 |lst xs=>obtain⟨z,its,n,r,e⟩:=x;exact⟨z,its,n,r,k _ _ (.inl rfl) e⟩
 |tup xs=>obtain⟨z,its,r,ob,e,c⟩:=x;exact⟨z,its,r,ob,k _ _ (.inl rfl) e,c⟩
 |dK kvs=>obtain⟨z,y,vs,r,ob,es,ep,e,c⟩:=x;exact⟨z,y,vs,r,ob,es,ep,k _ _ (.inl rfl) e,c⟩
 |dT kvs=>
  obtain⟨z,y,xs,r,ob,es,ep,e,c⟩:=x
  exact⟨z,y,xs,Paired.mapP r λp q z=>⟨z.1,ht _ _ z.2.1,z.2.2⟩,ob,es,ep,k _ _ (.inl rfl) e,c⟩
 |set S n=>obtain⟨ob,es,ep,t,e,c⟩:=x;exact⟨ob,es,ep,t,k _ _ (.inl rfl) e,c⟩
 |ins C dx fs=>
  obtain⟨d,z,ne,e,mA,⟨od,es,ep,e2,c⟩,r⟩:=x
  exact⟨ho _ d,z,ne,k _ _ (.inl rfl) e,mA,⟨od,es,ep,k _ _ (.inr d) e2,c⟩,r⟩
 |own y=>obtain⟨ob,e⟩:=x;exact⟨ob,k _ _ (.inl rfl) e⟩
 |xd fs=>obtain⟨mA,⟨od,es,ep,e,c⟩,r⟩:=x;exact⟨mA,⟨od,es,ep,k _ _ (.inl rfl) e,c⟩,r⟩
 |rng lo hi=>obtain⟨t,u,v,e⟩:=x;exact⟨t,u,v,k _ _ (.inl rfl) e⟩
 |frz ob u ih=>obtain⟨e,q⟩:=x;exact⟨k _ _ (.inl rfl) e,ih q⟩
 |tbl ps=>
  have e:h.get? a=some {cls:=.none,data:=.fields ps}:=x
  show h'.get? a=some {cls:=.none,data:=.fields ps}
  exact k a _ (.inl rfl) e
 |ctab pos qual=>
  obtain⟨ps,e,tr,hc⟩:=x
  exact⟨ps,k a _ (.inl rfl) e,tr,λcv q=>let ⟨c,oc,vs,t,e1,e2,e3⟩:=hc cv q;⟨c,oc,vs,t,e1,hz _ _ _ e2,e3⟩⟩
 |met f y=>
  have e:h.get? a=some (PySem.W.methodObj (.ref f) (.ref y)):=x
  show h'.get? a=some (PySem.W.methodObj (.ref f) (.ref y))
  exact k a _ (.inl rfl) e
 |ext φ=>obtain⟨p,⟨o,e⟩,st⟩:=x;exact⟨st _ _ p λo q=>k _ _ (.inl rfl) q,⟨o,k _ _ (.inl rfl) e⟩,st⟩
theorem HOk.lt(x:HOk P w H h)(e:H a=some o):a<h.objs.size:=(x a o e).lt
theorem HOk.fresh(x:HOk P w H h)(e:h.objs.size<=a):H a=none:=by
 cases q:H a with
 |none=>rfl
 |some u=>exact absurd (cU (x.lt q) e) (kR _)
theorem HOk.kept(x:HOk P w H h)(k:∀b u,h.get? b=some u->h'.get? b=some u):HOk P w H h':=λa o e=>
 (x a o e).stay (λb u _ q=>k b u q) (λ_ q=>q) (λ_ _ q=>q) λ_ _ _ q=>q
theorem HOk.laid(x:HOk P w H h)(k:∀b u,h.get? b=some u->h'.get? b=some u)(hp:h.objs.size<=a)(new:ObjOk P w (upd H a o) h' a o):HOk P w (upd H a o) h':=λb u e=>by
 have hn:=x.fresh hp
 by_cases hb:b=a
 ·subst hb;rw[bM]at e;cases e;exact new
 ·rw[aH hb]at e
  exact(x b u e).stay (λc v _ q=>k c v q) (λc q=>by rw[aH (gF q hn)];exact q) (λc xs q=>by rw[aH (gF q hn)];exact q) λc o u q=>by rw[aH (gF q hn)];exact q
end
noncomputable def Rd(H:Hp)(a:Addr)(u:HO):Prop:=H a=some u\/∃o,H a=some (.frz o u)
theorem Rd.ok{P:Program}{w:World}{H:Hp}{h:Heap}{a:Addr}{u:HO}(r:Rd H a u)(x:HOk P w H h):ObjOk P w H h a u:=by
 rcases r with r|⟨o,r⟩
 ·exact x a u r
 ·obtain⟨_,q⟩:=x a _ r
  exact q
noncomputable def Mut:Option HO->Prop
 |some (.lst _)=>True
 |some (.dK _)=>True
 |some (.dT _)=>True
 |some (.set _ _)=>True
 |some (.ins _ _ _)=>True
 |some (.ext _)=>True
 |_=>False
section
variable{P:Program}{w:World}{H:Hp}{h h':Heap}{x e:Addr}{o':HO}
theorem HOk.write(ok:HOk P w H h)(mu:Mut (H x))(he:e=x\/H e=some (.own x))(k:∀b u,b≠e->h.get? b=some u->h'.get? b=some u)(heo:∃u,h'.get? e=some u)
 (new:ObjOk P w (upd H x o') h' x o'):HOk P w (upd H x o') h':=λb u q=>by
 have nown:∀c y,H c=some (.own y)->c≠x:=λc y r z=>by subst z;rw[r]at mu;exact mu
 have ntup:∀c xs,H c=some (.tup xs)->c≠x:=λc xs r z=>by subst z;rw[r]at mu;exact mu
 by_cases hb:b=x
 ·subst hb;rw[bM]at q;cases q;exact new
 ·rw[aH hb]at q
  by_cases hbe:b=e
  ·have q':H b=some (.own x):=by
    rcases he with z|z
    ·exact absurd (hbe.trans z) hb
    ·rw[hbe];exact z
   rw[q]at q';cases q'
   obtain⟨v,hv⟩:=heo
   exact⟨v,by rw[hbe];exact hv⟩
  ·refine(ok b u q).stay (λc v hc r=>k c v ?_ r) (λc r=>by rw[aH (nown c b r)];exact r) (λc xs r=>by rw[aH (ntup c xs r)];exact r) λc ob u r=>by rw[aH (λz=>by subst z;rw[r]at mu;exact mu)];exact r
   rcases hc with rfl|hc
   ·exact hbe
   ·rintro rfl
    rcases he with z|z
    ·exact nown c b hc z
    ·rw[hc]at z;cases z;exact hb rfl
end
set_option genInjectivity false in
structure Un(fs ex:List Addr)(H H':Hp)(h h':Heap):Prop where
 keep:∀b o,h.get? b=some o->H b=none->b∉fs->b∉ex->h'.get? b=some o
 slot:∀b o,h.get? b=some o->H b=none->b∈fs->b∉ex->∃sl,h'.get? b=some {o with slots:=sl}
 free:∀b o,h.get? b=some o->H b=none->b∉ex->H' b=none
 there:∀b o,h.get? b=some o->b∉ex->∃o',h'.get? b=some o'
 tups:∀b xs,H b=some (.tup xs)->H' b=some (.tup xs)
 frzs:∀b o u,H b=some (.frz o u)->H' b=some (.frz o u)
 tbls:∀b ps,H b=some (.tbl ps)->∃more,H' b=some (.tbl (ps++more))
section
variable{fs fs' ex ex':List Addr}{H H1 H2:Hp}{h h1 h2 h':Heap}{a x e:Addr}{o:HO}
theorem Un.any(u:Un fs ex H H1 h h1){b:Addr}{ob:Obj}(q:h.get? b=some ob)(n:H b=none)(hx:b∉ex):∃sl,h1.get? b=some {ob with slots:=sl}:=by
 by_cases hb:b∈fs
 ·exact u.slot b ob q n hb hx
 ·exact⟨ob.slots,u.keep b ob q n hb hx⟩
theorem Un.kept(k:∀b u,h.get? b=some u->h'.get? b=some u):Un fs ex H H h h':=
 ⟨λb ob q _ _ _=>k b ob q,λb ob q _ _ _=>⟨ob.slots,k b ob q⟩,λ_ _ _ n _=>n,λb ob q _=>⟨ob,k b ob q⟩,λ_ _ q=>q,λ_ _ _ q=>q,λ_ ps q=>⟨#[],by rw[q];simp⟩⟩
theorem Un.refl:Un fs ex H H h h:=Un.kept λ_ _ q=>q
theorem Un.laid(k:∀b u,h.get? b=some u->h'.get? b=some u)(hp:h.objs.size<=a)(hn:H a=none):Un fs ex H (upd H a o) h h' where
 keep:=λb u q _ _ _=>k b u q
 slot:=λb u q _ _ _=>⟨u.slots,k b u q⟩
 free:=λb u q n _=>by rw[aH (bI (cU (Heap.lt_size q) hp))];exact n
 there:=λb u q _=>⟨u,k b u q⟩
 tups:=λb xs q=>by rw[aH (gF q hn)];exact q
 frzs:=λb u xs q=>by rw[aH (gF q hn)];exact q
 tbls:=λb ps q=>⟨#[],by rw[aH (gF q hn),q];simp⟩
theorem Un.write(mu:Mut (H x))(he:e=x\/H e=some (.own x))(k:∀b u,b≠e->h.get? b=some u->h'.get? b=some u)(heo:∃u,h'.get? e=some u):Un fs ex H (upd H x o) h h':=by
 have hx:∀b,H b=none->b≠x:=λb n z=>by subst z;rw[n]at mu;exact mu
 have hb:∀b,H b=none->b≠e:=λb n z=>by
  subst z
  rcases he with r|r
  ·exact hx b n r
  ·rw[n]at r;cases r
 have hm:∀b u,H b=some u->¬Mut (some u)->b≠x:=λb u q nm z=>by subst z;rw[q]at mu;exact nm mu
 refine⟨λb u q n _ _=>k b u (hb b n) q,λb u q n _ _=>⟨u.slots,k b u (hb b n) q⟩,λb u q n _=>by rw[aH (hx b n)];exact n,λb u q _=>?_,
  λb xs q=>by rw[aH (hm b _ q λz=>z)];exact q,λb u xs q=>by rw[aH (hm b _ q λz=>z)];exact q,λb ps q=>⟨#[],by rw[aH (hm b _ q λz=>z),q];simp⟩⟩
 by_cases hbe:b=e
 ·subst hbe;exact heo
 ·exact⟨u,k b u hbe q⟩
end
noncomputable def trk(h:Heap)(H:Hp):List Addr:=(aD h.objs.size).filter λa=>(H a).isSome
noncomputable def iM(h:Heap)(H:Hp):Heap:=PySem.W.hideAll h (trk h H)
theorem En(h:Heap)(H:Hp):(iM h H).objs.size=h.objs.size:=PySem.W.hideAll_size _ _
theorem Eo{h:Heap}{H:Hp}{b:Addr}{o:Obj}(e:h.get? b=some o)(n:H b=none):(iM h H).get? b=some o:=
 PySem.W.hideAll_get _ e λhm=>by
  have q:(H b).isSome=true:=(eN.mp hm).2
  rw[n]at q;simp at q
theorem Ep{h:Heap}{H:Hp}{b:Addr}{o:Obj}(e:(iM h H).get? b=some o):h.get? b=some o/\H b=none:=by
 have e':h.get? b=some o:=PySem.W.of_hideAll (trk h H) e
 refine⟨e',?_⟩
 cases q:H b with
 |none=>rfl
 |some x=>
  have hm:b∈trk h H:=eN.mpr ⟨cV.mpr (Heap.lt_size e'),by simp[q]⟩
  have z:(iM h H).get? b=none:=PySem.W.hideAll_none (trk h H) hm
  rw[z]at e;cases e
set_option genInjectivity false in
structure Mod(K:PySem.W.Frag)(mg:Str->Option Value)(base:Heap):Prop where
 kin:K.In base
 glob:base.Ns mainGlobals mg
 blt:∃mb,base.Ns builtinsNs mb/\∀x:Str,x ≠ "__name__" -> mb x=bootBuiltins x
 nolimit:base.NoLimit
set_option genInjectivity false in
structure Cx where
 prog:Program
 w:World
 K:PySem.W.Frag
 mg:Str->Option Value
 base:Heap
 A:Around
 N:List Str
 s₀:Shared
 H₀:Hp
 env:Env
 outer:List Env
 stack:List Env
 ex:List Addr
 fn:Str->Bool
 calm:Bool
 pn:List (Addr×Obj)
 xe:Value->Shared->Prop
noncomputable def frs(l:List Env):List Addr:=l.filterMap (·.frame)
noncomputable abbrev Cx.fs(X:Cx):List Addr:=frs X.outer
noncomputable def Vis(sc:Scope)(x:Str):Prop:=sc.names.lookup x=some .local\/sc.names.lookup x=some .cell\/sc.names.lookup x=some .free
noncomputable def Loc(sc:Scope)(x:Str):Prop:=sc.names.lookup x=some .local\/sc.names.lookup x=some .cell
noncomputable def Look(env:Env)(h:Heap)(m:Str->Option Value)(x:Str)(u:Value):Prop:=
 (env.kindOf x=some .local/\m x=some u)\/((env.kindOf x=some .cell\/env.kindOf x=some .free)/\∃c,env.cells.lookup x=some c/\h.IsCell c (some u))
set_option genInjectivity false in
structure Cx.Ok(X:Cx):Prop where
 mod:Mod X.K X.mg X.base
 kind:X.env.scope.kind=.function
 glob:X.env.globals=mainGlobals
 blt:X.env.builtins=builtinsNs
 above:X.s₀.heap.objs.size<=X.env.locals
 inj:∀x y c,X.env.cells.lookup x=some c->X.env.cells.lookup y=some c->x=y
 has:∀x,(X.env.kindOf x=some .cell\/X.env.kindOf x=some .free)->∃c,X.env.cells.lookup x=some c
 cab:∀x c,X.fn x=true->X.env.cells.lookup x=some c->X.s₀.heap.objs.size<=c
 hd:X.calm=true->X.A.handled=none
 frames:X.A.frames=some X.stack
 stk:X.stack=X.outer\/(X.stack=X.env::X.outer/\X.env.frame=some X.env.locals)
 exf:∀b∈X.ex,b≠X.env.locals/\∀x c,X.env.cells.lookup x=some c->c≠b
 bs:∀b o,X.base.get? b=some o->X.s₀.heap.get? b=some o/\X.H₀ b=none
 bsz:X.base.objs.size<=X.s₀.heap.objs.size
 noex:∀b o,X.base.get? b=some o->b∉X.ex
 exfs:∀b∈X.ex,b∉X.fs
 funs:X.s₀.heap.FunFrames X.base X.outer
 frf:∀b∈X.fs,X.H₀ b=none
set_option genInjectivity false in
structure Inv(X:Cx)(pins:List (Addr×Obj))(σ:List (Option V))(H:Hp)(s:Shared):Prop where
 ok:X.Ok
 os:s.os=X.s₀.os
 bare:AllBare s.gens
 base:Un X.fs X.ex X.H₀ H X.s₀.heap s.heap
 loc:∃m,s.heap.Ns X.env.locals m/\∀(i:Nat)(x:Str)(v:V),X.N[i]?=some x->σ[i]?=some (some v)->Vis X.env.scope x->∃u,RelV v u/\Look X.env s.heap m x u
 cell:∀x c,X.env.cells.lookup x=some c->∃v,s.heap.IsCell c v
 free:H X.env.locals=none
 freeC:∀x c,X.env.cells.lookup x=some c->H c=none
 pin:∀p∈X.pn++pins,s.heap.get? p.1=some p.2/\H p.1=none/\p.1≠X.env.locals/\p.1∉X.fs/\∀v,p.2.data≠.cell v
 hok:HOk X.prog X.w H s.heap
 len:σ.length=X.N.length
section
variable{X:Cx}{pins:List (Addr×Obj)}{σ:List (Option V)}{H H':Hp}{s:Shared}{h':Heap}
theorem Cx.Ok.nofr(ok:X.Ok){b:Addr}{o:Obj}(e:X.base.get? b=some o):b∉X.fs:=λhb=>by
 have:=(ok.funs.mem hb).1
 rw[e]at this;cases this
theorem Inv.bs(I:Inv X pins σ H s):∀b o,X.base.get? b=some o->s.heap.get? b=some o/\H b=none:=λb o e=>
 ⟨I.base.keep b o (I.ok.bs b o e).1 (I.ok.bs b o e).2 (I.ok.nofr e) (I.ok.noex b o e),I.base.free b o (I.ok.bs b o e).1 (I.ok.bs b o e).2 (I.ok.noex b o e)⟩
theorem Inv.bk(I:Inv X pins σ H s):∀b o,X.base.get? b=some o->s.heap.get? b=some o:=λb o e=>(I.bs b o e).1
theorem Inv.mod(I:Inv X pins σ H s):Mod X.K X.mg X.base:=I.ok.mod
theorem Inv.kIn(I:Inv X pins σ H s):X.K.In s.heap:=I.ok.mod.kin.keeps I.bk
theorem Inv.lt(I:Inv X pins σ H s):X.env.locals<s.heap.objs.size:=let ⟨_,hn,_⟩:=I.loc;hn.lt
theorem Inv.sz(I:Inv X pins σ H s):X.s₀.heap.objs.size<=s.heap.objs.size:=bX I.ok.above (jF I.lt)
theorem Inv.nofs(I:Inv X pins σ H s){a:Addr}(h:s.heap.objs.size<=a):a∉X.fs:=λhb=>by
 obtain⟨_,o,ho,_⟩:=I.ok.funs.mem hb
 exact absurd (cU (Heap.lt_size ho) (bX I.sz h)) (kR _)
theorem Inv.cne(I:Inv X pins σ H s):∀x c,X.env.cells.lookup x=some c->c≠X.env.locals:=λx c e z=>by
 obtain⟨v,o,ho,hd⟩:=I.cell x c e
 obtain⟨m,⟨o',es,ep,ho',hd',_⟩,_⟩:=I.loc
 rw[z,ho']at ho;cases ho;rw[hd']at hd;cases hd
theorem Inv.funs(I:Inv X pins σ H s):s.heap.FunFrames X.base X.outer:=by
 have all:∀(l:List Env),(∀b∈frs l,b∈X.fs)->X.s₀.heap.FunFrames X.base l->s.heap.FunFrames X.base l:=by
  intro l
  induction l with
  |nil=>intro _ _;trivial
  |cons env r ih=>
   intro hs hl
   obtain⟨hk,⟨L,o,hf,hn,ho,hd⟩,hr⟩:=hl
   have hL:L∈X.fs:=hs L (by unfold frs;rw[gT,hf];exact bC)
   obtain⟨sl,e⟩:=I.base.slot L o ho (I.ok.frf L hL) hL λz=>I.ok.exfs L z hL
   exact⟨hk,⟨L,_,hf,hn,e,hd⟩,ih (λb hb=>hs b (by unfold frs;rw[gT,hf];exact aR _ hb)) hr⟩
 exact all X.outer (λ_ hb=>hb) I.ok.funs
theorem Inv.stack(I:Inv X pins σ H s):s.heap.FunFrames X.base X.stack:=by
 rcases I.ok.stk with e|⟨e,hf⟩
 ·rw[e];exact I.funs
 ·rw[e]
  obtain⟨m,hn,_⟩:=I.loc
  refine .cons (by rw[I.ok.kind];decide) hf hn ?_ I.funs
  exact Heap.get?_none_of_le (bX I.ok.bsz I.ok.above)
theorem Inv.stkSub(I:Inv X pins σ H s):∀b∈frs X.stack,b∈X.env.locals::X.fs:=λb hb=>by
 rcases I.ok.stk with e|⟨e,hf⟩
 ·rw[e]at hb;exact aR _ hb
 ·rw[e]at hb
  unfold frs at hb
  rw[gT,hf]at hb
  exact hb
theorem Inv.stkFree(I:Inv X pins σ H s):∀b∈frs X.stack,H b=none:=λb hb=>by
 rcases aV.mp (I.stkSub b hb)with e|hb
 ·rw[e];exact I.free
 ·obtain⟨_,o,ho,_⟩:=I.ok.funs.mem hb
  exact I.base.free b o ho (I.ok.frf b hb) λz=>I.ok.exfs b z hb
theorem Inv.step{g':Array GenState}{t':Nat}{d':Drawn}{ch:List Addr}(I:Inv X pins σ H s)
 (hch:∀b∈ch,(b∈X.ex\/X.s₀.heap.objs.size<=b)/\b≠X.env.locals/\(∀x c,X.env.cells.lookup x=some c->c≠b)/\∀p∈X.pn++pins,p.1≠b)
 (keep:∀b o,b≠X.env.locals->b∉X.fs->b∉ch->s.heap.get? b=some o->H b=none->h'.get? b=some o)
 (slot:∀b o,b≠X.env.locals->b∈X.fs->b∉ch->s.heap.get? b=some o->H b=none->∃sl,h'.get? b=some {o with slots:=sl}) (free:∀b o,b∉ch->s.heap.get? b=some o->H b=none->H' b=none)
 (there:∀b o,b∉ch->s.heap.get? b=some o->∃o',h'.get? b=some o')
 (tups:∀b xs,H b=some (.tup xs)->H' b=some (.tup xs)) (frzs:∀b o u,H b=some (.frz o u)->H' b=some (.frz o u)) (tbls:∀b ps,H b=some (.tbl ps)->∃more,H' b=some (.tbl (ps++more)))
 (ns:∀m,s.heap.Ns X.env.locals m->h'.Ns X.env.locals m) (hok:HOk X.prog X.w H' h') (hg:AllBare g') :
 Inv X pins σ H' {s with heap:=h',gens:=g',drawn:=d',toks:=t' }:=by
 have neL:∀b o,X.s₀.heap.get? b=some o->b≠X.env.locals:=λb o e=>bI (cU (Heap.lt_size e) I.ok.above)
 have neC:∀b o,X.s₀.heap.get? b=some o->b∉X.ex->b∉ch:=λb o e hx hb=>by
  rcases(hch b hb).1 with z|z
  ·exact hx z
  ·exact absurd (cU (Heap.lt_size e) z) (kR _)
 have cellK:∀x c,X.env.cells.lookup x=some c->∀v,s.heap.IsCell c v->h'.IsCell c v:=λx c e v ⟨o,ho,hd⟩=>by
  have nch:c∉ch:=λz=>(hch c z).2.2.1 x c e rfl
  by_cases hc:c∈X.fs
  ·obtain⟨sl,q⟩:=slot c o (I.cne x c e) hc nch ho (I.freeC x c e)
   exact⟨_,q,hd⟩
  ·exact⟨o,keep c o (I.cne x c e) hc nch ho (I.freeC x c e),hd⟩
 refine⟨I.ok,I.os,hg,⟨λb o e n hb hx=>?_,λb o e n hb hx=>?_,λb o e n hx=>?_,λb o e hx=>?_,λb xs e=>tups b xs (I.base.tups b xs e),λb o xs e=>frzs b o xs (I.base.frzs b o xs e),λb ps e=>?_⟩,?_,λx c e=>?_,?_,λx c e=>?_,λp hp=>?_,hok,I.len⟩
 ·exact keep b o (neL b o e) hb (neC b o e hx) (I.base.keep b o e n hb hx) (I.base.free b o e n hx)
 ·obtain⟨sl,e1⟩:=I.base.slot b o e n hb hx
  obtain⟨sl',e2⟩:=slot b _ (neL b o e) hb (neC b o e hx) e1 (I.base.free b o e n hx)
  exact⟨sl',e2⟩
 ·obtain⟨o',e1⟩:=I.base.there b o e hx
  exact free b o' (neC b o e hx) e1 (I.base.free b o e n hx)
 ·obtain⟨o',e1⟩:=I.base.there b o e hx
  exact there b o' (neC b o e hx) e1
 ·obtain⟨m1,e1⟩:=I.base.tbls b ps e
  obtain⟨m2,e2⟩:=tbls b _ e1
  exact⟨m1++m2,by rw[e2,Array.append_assoc]⟩
 ·obtain⟨m,hn,hl⟩:=I.loc
  refine⟨m,ns m hn,λi x v e1 e2 e3=>?_⟩
  obtain⟨u,r,l⟩:=hl i x v e1 e2 e3
  refine⟨u,r,?_⟩
  rcases l with l|⟨k,c,e,z⟩
  ·exact .inl l
  ·exact .inr ⟨k,c,e,cellK x c e _ z⟩
 ·obtain⟨v,z⟩:=I.cell x c e
  exact⟨v,cellK x c e v z⟩
 ·obtain⟨m,⟨o,_,_,ho,_⟩,_⟩:=I.loc
  exact free _ o (λz=>(hch _ z).2.1 rfl) ho I.free
 ·obtain⟨v,o,ho,hd⟩:=I.cell x c e
  exact free c o (λz=>(hch c z).2.2.1 x c e rfl) ho (I.freeC x c e)
 ·obtain⟨e,n,ne,nf,d⟩:=I.pin p hp
  have nch:p.1∉ch:=λz=>(hch p.1 z).2.2.2 p hp rfl
  exact⟨keep p.1 p.2 ne nf nch e n,free p.1 p.2 nch e n,ne,nf,d⟩
theorem Inv.un{t':Nat}(I:Inv X pins σ H s)(u:Un X.fs [] H H' s.heap h')(hok:HOk X.prog X.w H' h'):Inv X pins σ H' {s with heap:=h',toks:=t' }:=by
 obtain⟨m,⟨o,es,ep,ho,r⟩,_⟩:=id I.loc
 obtain⟨sl,hL⟩:=u.any ho I.free (by simp)
 exact I.step (g':=s.gens) (d':=s.drawn) (ch:=[]) (λ_ z=>nomatch z) (λb o _ hb _ e n=>u.keep b o e n hb (by simp)) (λb o _ hb _ e n=>u.slot b o e n hb (by simp)) (λb o _ e n=>u.free b o e n (by simp)) (λb o _ e=>u.there b o e (by simp)) u.tups u.frzs u.tbls (λm' hm=>by
  obtain⟨o',es',ep',ho',r'⟩:=hm
  rw[ho]at ho';cases ho'
  exact⟨_,es',ep',hL,r'⟩) hok I.bare
theorem Inv.call{g':Array GenState}{t':Nat}{d':Drawn}{ch:List Addr}(I:Inv X pins σ H s)(u:Un (frs X.stack) ch H H' s.heap h')(hok:HOk X.prog X.w H' h')(hg:AllBare g')
 (hch:∀b∈ch,(b∈X.ex\/X.s₀.heap.objs.size<=b)/\b≠X.env.locals/\(∀x c,X.env.cells.lookup x=some c->c≠b)/\∀p∈X.pn++pins,p.1≠b) :
 Inv X pins σ H' {s with heap:=h',gens:=g',drawn:=d',toks:=t' }:=by
 obtain⟨m,⟨o,es,ep,ho,r⟩,_⟩:=id I.loc
 obtain⟨sl,hL⟩:=u.any ho I.free λz=>(hch _ z).2.1 rfl
 exact I.step (ch:=ch) hch (λb o hL hb hc e n=>u.keep b o e n (λz=>(aV.mp (I.stkSub b z)).elim hL hb) hc) (λb o _ _ hc e n=>u.any e n hc) (λb o hc e n=>u.free b o e n hc) (λb o hc e=>u.there b o e hc) u.tups u.frzs u.tbls (λm' hm=>by
  obtain⟨o',es',ep',ho',r'⟩:=hm
  rw[ho]at ho';cases ho'
  exact⟨_,es',ep',hL,r'⟩) hok hg
theorem Inv.turned{t':Nat}{it:Addr}(I:Inv X pins σ H s)(k:∀b o,b≠it->s.heap.get? b=some o->h'.get? b=some o)(hn:H it=none)(hL:it≠X.env.locals)
 (h1:it∈X.ex\/X.s₀.heap.objs.size<=it) (h2:∀x c,X.env.cells.lookup x=some c->c≠it) (h3:∀p∈X.pn++pins,p.1≠it):Inv X pins σ H {s with heap:=h',toks:=t' }:=by
 have nit:∀b u,H b=some u->b≠it:=λb u e z=>by rw[z,hn]at e;cases e
 refine I.step (g':=s.gens) (d':=s.drawn) (ch:=[it]) (λb hb=>?_) (λb o _ _ hc e _=>k b o (λz=>hc (by simp[z])) e) (λb o _ _ hc e _=>⟨o.slots,k b o (λz=>hc (by simp[z])) e⟩) (λ_ _ _ _ n=>n)
  (λb o hc e=>⟨o,k b o (λz=>hc (by simp[z])) e⟩) (λ_ _ e=>e) (λ_ _ _ e=>e) (λb ps e=>⟨#[],by rw[e];simp⟩) (λm hm=>?_) (λb u e=>?_) I.bare
 ·have e:b=it:=by simpa using hb
  subst e
  exact⟨h1,hL,h2,h3⟩
 ·obtain⟨o,es,ep,ho,r⟩:=hm
  exact⟨o,es,ep,k _ o (Ne.symm hL) ho,r⟩
 ·refine(I.hok b u e).stay (λc v hc q=>k c v ?_ q) (λ_ q=>q) (λ_ _ q=>q) λ_ _ _ q=>q
  rcases hc with z|z
  ·rw[z];exact nit b u e
  ·exact nit c _ z
theorem Inv.tok(I:Inv X pins σ H s)(t:Nat):Inv X pins σ H {s with toks:=t}:=I.un (h':=s.heap) (t':=t) Un.refl I.hok
theorem Inv.kept{t':Nat}(I:Inv X pins σ H s)(k:∀b u,s.heap.get? b=some u->h'.get? b=some u):Inv X pins σ H {s with heap:=h',toks:=t' }:=I.un (Un.kept k) (I.hok.kept k)
theorem Inv.laid{a:Addr}{o:HO}{t':Nat}(I:Inv X pins σ H s)(k:∀b u,s.heap.get? b=some u->h'.get? b=some u)(hp:s.heap.objs.size<=a)(new:ObjOk X.prog X.w (upd H a o) h' a o) :
 Inv X pins σ (upd H a o) {s with heap:=h',toks:=t' }:=I.un (Un.laid k hp (I.hok.fresh hp)) (I.hok.laid k hp new)
theorem Inv.write{x e:Addr}{o:HO}{t':Nat}(I:Inv X pins σ H s)(mu:Mut (H x))(he:e=x\/H e=some (.own x))(k:∀b u,b≠e->s.heap.get? b=some u->h'.get? b=some u)(heo:∃u,h'.get? e=some u)
 (new:ObjOk X.prog X.w (upd H x o) h' x o):Inv X pins σ (upd H x o) {s with heap:=h',toks:=t' }:=I.un (Un.write mu he k heo) (I.hok.write mu he k heo new)
theorem Inv.pins_of{pins':List (Addr×Obj)}(I:Inv X pins σ H s)(h:∀p∈pins',s.heap.get? p.1=some p.2/\H p.1=none/\p.1≠X.env.locals/\p.1∉X.fs/\∀v,p.2.data≠.cell v):Inv X pins' σ H s:=
 ⟨I.ok,I.os,I.bare,I.base,I.loc,I.cell,I.free,I.freeC,λp hp=>(fK.mp hp).elim (λz=>I.pin p (sX _ z)) (h p),I.hok,I.len⟩
theorem AA{N:List Str}(hN:N.Nodup){i j:Nat}{x:Str}(a:N[i]?=some x)(b:N[j]?=some x):i=j:=by
 obtain⟨h1,e1⟩:=gC.mp a
 obtain⟨h2,e2⟩:=gC.mp b
 exact(Ky hN).mp (e1.trans e2.symm)
theorem AB{M:Model}{A:Around}{E:Value->Shared->Prop}{i:Nat}{x:Str}{v:V}{u:Value}{Q:Unit->Shared->Prop}(I:Inv X pins σ H s)(hN:X.N.Nodup)(hi:X.N[i]?=some x)(hx:Loc X.env.scope x)(r:RelV v u)
 (h:∀s',Inv X pins (σ.set i (some v)) H s'->(∃a,Heap.SameBut a s.heap s'.heap/\(a=X.env.locals\/X.env.cells.lookup x=some a))->Q () s') (hf:X.fn x=true\/X.env.scope.names.lookup x=some .local:=by first|exact .inl rfl|exact .inr rfl|assumption):wpAny M A (storeName X.env x u) Q E s:=by
 obtain⟨m,hn,hl⟩:=id I.loc
 have hcls:(X.env.scope.kind==.class||(X.env.scope.kind==.module&&X.env.locals != X.env.globals))=false:=by rw[I.ok.kind];rfl
 have hiσ:i<σ.length:=by rw[I.len];exact(gC.mp hi).1
 have cne:=I.cne
 have tracked:∀{a:Addr} {h':Heap},(∃o,s.heap.get? a=some o/\H a=none)->Heap.SameBut a s.heap h'->HOk X.prog X.w H h':=λ{a h'} ha hs b ob e=>by
  obtain⟨_,_,hfree⟩:=ha
  refine(I.hok b ob e).stay (λc w' hc q=>(hs.2 c ?_).trans q) (λ_ q=>q) (λ_ _ q=>q) λ_ _ _ q=>q
  rintro rfl
  rcases hc with rfl|hc
  ·rw[hfree]at e;cases e
  ·rw[hfree]at hc;cases hc
 rcases hx with hk|hk
 ·refine wpAny_storeName_local hk hn (λh' hn' hs=>?_) hcls
  obtain⟨oL,_,_,hoL,_⟩:=id hn
  refine h _ ⟨I.ok,I.os,I.bare,⟨λb o e n hb hx=>?_,λb o e n hb hx=>?_,I.base.free,λb o e hx=>?_,I.base.tups,I.base.frzs,I.base.tbls⟩,⟨_,hn',λj y v' e1 e2 e3=>?_⟩,λy c e=>?_,I.free,I.freeC,λp hp=>?_,tracked ⟨oL,hoL,I.free⟩ hs,by simpa using I.len⟩ ⟨_,hs,.inl rfl⟩
  ·exact(hs.2 b (bI (cU (Heap.lt_size e) I.ok.above))).trans (I.base.keep b o e n hb hx)
  ·obtain⟨sl,e1⟩:=I.base.slot b o e n hb hx
   exact⟨sl,(hs.2 b (bI (cU (Heap.lt_size e) I.ok.above))).trans e1⟩
  ·obtain⟨o',e1⟩:=I.base.there b o e hx
   exact⟨o',(hs.2 b (bI (cU (Heap.lt_size e) I.ok.above))).trans e1⟩
  ·by_cases hj:j=i
   ·subst hj
    rw[hi]at e1;cases e1
    rw[sY hiσ]at e2
    cases e2
    exact⟨u,r,.inl ⟨hk,by simp⟩⟩
   ·rw[sZ (Ne.symm hj)]at e2
    obtain⟨u',r',q⟩:=hl j y v' e1 e2 e3
    refine⟨u',r',?_⟩
    rcases q with⟨k,e⟩|⟨k,c,e,z⟩
    ·refine .inl ⟨k,?_⟩
     have:y≠x:=λe=>hj (AA hN e1 (e▸hi))
     simp[this,e]
    ·exact .inr ⟨k,c,e,z.sameBut hs (cne y c e)⟩
  ·obtain⟨w',z⟩:=I.cell y c e
   exact⟨w',z.sameBut hs (cne y c e)⟩
  ·obtain⟨e,n,ne,nf,d⟩:=I.pin p hp
   exact⟨(hs.2 p.1 ne).trans e,n,ne,nf,d⟩
 ·have hfn:X.fn x=true:=by
   rcases hf with z|z
   ·exact z
   ·rw[z]at hk;cases hk
  obtain⟨c,hc⟩:=I.ok.has x (.inl hk)
  obtain⟨w',z⟩:=I.cell x c hc
  refine wpAny_storeName_cell I.ok.kind hk hc z (λh' hc' hs=>?_)
  obtain⟨oc,hoc,hocd⟩:=id z
  refine h {s with heap:=h' } ⟨I.ok,I.os,I.bare,⟨λb o e n hb hx=>?_,λb o e n hb hx=>?_,I.base.free,λb o e hx=>?_,I.base.tups,I.base.frzs,I.base.tbls⟩,⟨m,hn.sameBut hs (Ne.symm (cne x c hc)),λj y v' e1 e2 e3=>?_⟩,λy c' e=>?_,I.free,I.freeC,λp hp=>?_,tracked ⟨oc,hoc,I.freeC x c hc⟩ hs,by simpa using I.len⟩ ⟨c,hs,.inr hc⟩
  ·exact(hs.2 b (bI (cU (Heap.lt_size e) (I.ok.cab x c hfn hc)))).trans (I.base.keep b o e n hb hx)
  ·obtain⟨sl,e1⟩:=I.base.slot b o e n hb hx
   exact⟨sl,(hs.2 b (bI (cU (Heap.lt_size e) (I.ok.cab x c hfn hc)))).trans e1⟩
  ·obtain⟨o',e1⟩:=I.base.there b o e hx
   exact⟨o',(hs.2 b (bI (cU (Heap.lt_size e) (I.ok.cab x c hfn hc)))).trans e1⟩
  ·by_cases hj:j=i
   ·subst hj
    rw[hi]at e1;cases e1
    rw[sY hiσ]at e2
    cases e2
    exact⟨u,r,.inr ⟨.inl hk,c,hc,hc'⟩⟩
   ·rw[sZ (Ne.symm hj)]at e2
    obtain⟨u',r',q⟩:=hl j y v' e1 e2 e3
    refine⟨u',r',?_⟩
    rcases q with q|⟨k,c',e,z'⟩
    ·exact .inl q
    ·refine .inr ⟨k,c',e,z'.sameBut hs ?_⟩
     rintro rfl
     exact hj (AA hN e1 (I.ok.inj _ _ _ e hc▸hi))
  ·by_cases hcc:c'=c
   ·subst hcc;exact⟨_,hc'⟩
   ·obtain⟨w2,z2⟩:=I.cell y c' e
    exact⟨w2,z2.sameBut hs hcc⟩
  ·obtain⟨e,n,ne,nf,d⟩:=I.pin p hp
   refine⟨(hs.2 p.1 ?_).trans e,n,ne,nf,d⟩
   intro q
   rw[q,hoc]at e
   have q':oc=p.2:=fJ.inj e
   exact d w' (by rw[<-q'];exact hocd)
theorem AC{M:Model}{A:Around}{E:Value->Shared->Prop}{i:Nat}{x:Str}{v:V}{u:Value}{Q:Unit->Shared->Prop}(I:Inv X pins σ H s)(hN:X.N.Nodup)(hi:X.N[i]?=some x)(hx:Loc X.env.scope x)(r:RelV v u)
 (h:∀s',Inv X pins (σ.set i (some v)) H s'->Q () s') (hf:X.fn x=true\/X.env.scope.names.lookup x=some .local:=by first|exact .inl rfl|exact .inr rfl|assumption):wpAny M A (storeName X.env x u) Q E s:=
 AB I hN hi hx r (λs' I' _=>h s' I') hf
theorem Inv.call'{s':Shared}{ch:List Addr}(I:Inv X pins σ H s)(ho:s'.os=s.os)(u:Un (frs X.stack) ch H H' s.heap s'.heap)(hok:HOk X.prog X.w H' s'.heap)(hg:AllBare s'.gens)
 (hch:∀b∈ch,(b∈X.ex\/X.s₀.heap.objs.size<=b)/\b≠X.env.locals/\(∀x c,X.env.cells.lookup x=some c->c≠b)/\∀p∈X.pn++pins,p.1≠b):Inv X pins σ H' s':=by
 obtain⟨h',g',d',t',o'⟩:=s'
 have e:o'=s.os:=ho
 subst e
 exact I.call (g':=g') (t':=t') (d':=d') u hok hg hch
end
noncomputable abbrev XK:=Value->Option Addr->Hp->Prop
noncomputable abbrev St:=List (Option V)
noncomputable abbrev VK:=V->Hp->Prop
noncomputable abbrev TE:=St->Hp->VK->Prop
noncomputable abbrev TT:=St->Hp->(Bool->Hp->Prop)->Prop
noncomputable abbrev TA:=St->Hp->(List V->Hp->Prop)->Prop
set_option genInjectivity false in
structure Ends where
 nx:St->Hp->Prop
 rt:VK
 bk:St->Hp->Prop:=λ_ _=>False
 ct:St->Hp->Prop:=λ_ _=>False
noncomputable abbrev TS:=Ends->St->Hp->Prop
noncomputable def EP(X:Cx)(pins:List (Addr×Obj))(σ:St)(Q:VK)(u:Value)(s':Shared):Prop:=∃v H',Inv X pins σ H' s'/\RelV v u/\Q v H'
noncomputable def TP(X:Cx)(pins:List (Addr×Obj))(σ:St)(Q:Bool->Hp->Prop)(b:Bool)(s':Shared):Prop:=∃H',Inv X pins σ H' s'/\Q b H'
noncomputable def AP(X:Cx)(pins:List (Addr×Obj))(σ:St)(Q:List V->Hp->Prop)(us:List Value)(s':Shared):Prop:=∃vs H',Inv X pins σ H' s'/\Vals vs us/\Q vs H'
noncomputable def SP(X:Cx)(pins:List (Addr×Obj))(D:Ends)(f:Flow)(s':Shared):Prop:=
 match f with
 |.next=>∃σ' H',Inv X pins σ' H' s'/\D.nx σ' H'
 |.brk=>∃σ' H',Inv X pins σ' H' s'/\D.bk σ' H'
 |.cont=>∃σ' H',Inv X pins σ' H' s'/\D.ct σ' H'
 |.ret u=>∃v σ' H',Inv X pins σ' H' s'/\RelV v u/\D.rt v H'
noncomputable def PE(X:Cx)(e:Expr)(t:TE):Prop:=
 ∀(pins:List (Addr×Obj))(s:Shared)(σ:St)(H:Hp)(Q:VK),Inv X pins σ H s->t σ H Q->wpAny (model X.prog X.w) X.A (eval e X.env) (EP X pins σ Q) X.xe s
noncomputable def PT(X:Cx)(e:Expr)(t:TT):Prop:=
 ∀(pins:List (Addr×Obj))(s:Shared)(σ:St)(H:Hp)(Q:Bool->Hp->Prop),Inv X pins σ H s->t σ H Q->wpAny (model X.prog X.w) X.A (isTrue e X.env (eval e X.env)) (TP X pins σ Q) X.xe s
noncomputable def PW(X:Cx)(e:Expr)(t:TT):Prop:=
 ∀(whole:Sem Value)(pins:List (Addr×Obj))(s:Shared)(σ:St)(H:Hp)(Q:Bool->Hp->Prop),Inv X pins σ H s->t σ H Q->wpAny (model X.prog X.w) X.A (isTrue e X.env whole) (TP X pins σ Q) X.xe s
theorem PW.pt{X:Cx}{e:Expr}{t:TT}(h:PW X e t):PT X e t:=h _
noncomputable def PA(X:Cx)(es:List Expr)(t:TA):Prop:=
 ∀(pos:Pos)(pins:List (Addr×Obj))(s:Shared)(σ:St)(H:Hp)(Q:List V->Hp->Prop),Inv X pins σ H s->t σ H Q->wpAny (model X.prog X.w) X.A (spliced (backTo pos (starEach es X.env))) (AP X pins σ Q) X.xe s
noncomputable def PS(X:Cx)(st:Stmt)(t:TS):Prop:=
 ∀(pins:List (Addr×Obj))(s:Shared)(σ:St)(H:Hp)(D:Ends),Inv X pins σ H s->t D σ H->wpAny (model X.prog X.w) X.A (exec st X.env) (SP X pins D) X.xe s
noncomputable def PSs(X:Cx)(st:List Stmt)(t:TS):Prop:=
 ∀(pins:List (Addr×Obj))(s:Shared)(σ:St)(H:Hp)(D:Ends),Inv X pins σ H s->t D σ H->wpAny (model X.prog X.w) X.A (execs st X.env) (SP X pins D) X.xe s
theorem thn{α:Type}{t:Sem α}{Q Q':α->Shared->Prop}{M:Model}{A:Around}{E:Value->Shared->Prop}{s:Shared}(h:wpAny M A t Q E s)(hQ:∀a s,Q a s->Q' a s):wpAny M A t Q' E s:=wpAny_mono h hQ λ_ _ x=>x
section
variable{X:Cx}
theorem bin{a b:Expr}{ta tb:TE}(ha:PE X a ta)(hb:PE X b tb){pins:List (Addr×Obj)}{s:Shared}{σ:St}{H:Hp}{R:V->V->Hp->Prop}(I:Inv X pins σ H s)(h:ta σ H λx H1=>tb σ H1 λy H2=>R x y H2)
 {α:Type} {Q:α->Shared->Prop} {f:Value->Value->Sem α}
 (hf:∀v u s2 x y H2,Inv X pins σ H2 s2->RelV x v->RelV y u->R x y H2->wpAny (model X.prog X.w) X.A (f v u) Q X.xe s2) :
 wpAny (model X.prog X.w) X.A (eval a X.env) (λv s₁=>wpAny (model X.prog X.w) X.A (eval b X.env) (λu s₂=>wpAny (model X.prog X.w) X.A (f v u) Q X.xe s₂) X.xe s₁) X.xe s:=by
 refine thn (ha pins s σ H _ I h) λv s1 ⟨x,H1,I1,r1,q1⟩=>?_
 refine thn (hb pins s1 σ H1 _ I1 q1) λu s2 ⟨y,H2,I2,r2,q2⟩=>?_
 exact hf v u s2 x y H2 I2 r1 r2 q2
noncomputable def tVar(i:Nat):TE:=λσ H Q=>∃v,σ[i]?=some (some v)/\Q v H
noncomputable def tC(v:V):TE:=λ_ H Q=>Q v H
theorem eP {i:Nat} {x:Str} {pos:Pos} (hN:X.N[i]?=some x) (hv:Vis X.env.scope x) (hd:(x==("__debug__" : Str))=false:=by decide) (hcd:(x==("__classdict__" : Str))=false:=by decide):PE X (.Name x pos) (tVar i):=by
 intro pins s σ H Q I h
 obtain⟨v,e,h⟩:=h
 obtain⟨m,hn,hl⟩:=I.loc
 obtain⟨u,r,l⟩:=hl i x v hN e hv
 have fin:EP X pins σ Q u s:=⟨v,H,I,r,h⟩
 rcases l with⟨hk,hm⟩|⟨hk,c,hc,hcell⟩
 ·exact wpAny_Name (wpAny_loadName_local I.ok.kind hk hn hm fin) hd
 ·rcases hk with hk|hk
  ·exact wpAny_Name (wpAny_loadName_cell I.ok.kind hk hc hcell fin) hd
  ·exact wpAny_Name (wpAny_loadName_free I.ok.kind hk hc hcell fin hcd) hd
theorem pe_int{i j pos}:PE X (.Constant (.int i) j pos) (tC (.int i)):=λ_ _ _ H _ I h=>wpAny_Constant_int ⟨.int i,H,I.tok _,⟨_,rfl⟩,h⟩
theorem pe_bl{b j pos}:PE X (.Constant (.bool b) j pos) (tC (.bl b)):=λ_ _ _ H _ I h=>Constant_bool ⟨.bl b,H,I,rfl,h⟩
theorem pe_non{j pos}:PE X (.Constant .none j pos) (tC .non):=λ_ _ _ H _ I h=>Constant_none ⟨.non,H,I,rfl,h⟩
theorem pe_str{x j pos}:PE X (.Constant (.str x) j pos) (tC (.str x)):=λ_ _ _ H _ I h=>Calls.Constant_str ⟨.str x,H,I.tok _,⟨_,rfl⟩,h⟩
noncomputable def Gl(X:Cx)(x:Str):Prop:=X.env.kindOf x=some .globalImplicit
theorem tP{E:Value->Shared->Prop}{pins:List (Addr×Obj)}{s:Shared}{σ:St}{H:Hp}{x:Str}{u:Value}{pos:Pos}{Q:Value->Shared->Prop}(I:Inv X pins σ H s)(hg:Gl X x)(hm:X.mg x=some u)(h:Q u s)
 (hd:(x==("__debug__" : Str))=false:=by decide):wpAny (model X.prog X.w) X.A (eval (.Name x pos) X.env) Q E s:=
 Calls.Name_function_global I.ok.kind hg (Calls.loadGlobal_global (by rw[I.ok.glob];exact I.mod.glob.keeps I.bk) hm h) hd
theorem jI{E:Value->Shared->Prop}{pins:List (Addr×Obj)}{s:Shared}{σ:St}{H:Hp}{x:Str}{u:Value}{pos:Pos}{Q:Value->Shared->Prop}(I:Inv X pins σ H s)(hg:Gl X x)(hm:X.mg x=none)(hv:bootBuiltins x=some u)(h:Q u s)
 (hn:x ≠ "__name__" := by decide) (hd:(x==("__debug__" : Str))=false:=by decide):wpAny (model X.prog X.w) X.A (eval (.Name x pos) X.env) Q E s:=by
 obtain⟨mb,h1,h2⟩:=I.mod.blt
 exact Calls.Name_function_global I.ok.kind hg (Calls.loadGlobal_builtin (by rw[I.ok.glob];exact I.mod.glob.keeps I.bk) hm (by rw[I.ok.blt];exact h1.keeps I.bk) ((h2 x hn).trans hv) h) hd
theorem Er {x:Str} {v:V} {u:Value} {pos:Pos} (hg:Gl X x) (hm:X.mg x=some u) (r:RelV v u) (hd:(x==("__debug__" : Str))=false:=by decide):PE X (.Name x pos) (tC v):=
 λ_ _ _ H _ I h=>tP I hg hm ⟨v,H,I,r,h⟩ hd
theorem Es {x:Str} {v:V} {u:Value} {pos:Pos} (hg:Gl X x) (hm:X.mg x=none) (hv:bootBuiltins x=some u) (r:RelV v u) (hn:x ≠ "__name__" := by decide) (hd:(x==("__debug__" : Str))=false:=by decide):PE X (.Name x pos) (tC v):=
 λ_ _ _ H _ I h=>jI I hg hm hv ⟨v,H,I,r,h⟩ hn hd
variable{a b:Expr}{ta tb:TE}{pos:Pos}
variable{tA tB':TT}{rest:List Expr}
noncomputable def tAnd(t u:TT):TT:=λσ H Q=>t σ H λc H1=>if c=true then u σ H1 Q else Q false H1
noncomputable def tOr(t u:TT):TT:=λσ H Q=>t σ H λc H1=>if c=true then Q true H1 else u σ H1 Q
noncomputable def tNot(t:TT):TT:=λσ H Q=>t σ H λc H1=>Q (!c) H1
theorem Et(ha:PT X a tA):PW X (.BoolOp .And [a] pos) tA:=by
 intro wh pins s σ H Q I h
 refine isTrue_and (thn (ha pins s σ H Q I h) λc s1 e=>?_)
 cases c with
 |true=>exact isTrue_and_nil e
 |false=>exact e
theorem AD(ha:PT X a tA):PW X (.BoolOp .Or [a] pos) tA:=by
 intro wh pins s σ H Q I h
 refine isTrue_or (thn (ha pins s σ H Q I h) λc s1 e=>?_)
 cases c with
 |false=>exact isTrue_or_nil e
 |true=>exact e
theorem pw_and(ha:PT X a tA)(hb:PW X (.BoolOp .And (b::rest) pos) tB'):PW X (.BoolOp .And (a::b::rest) pos) (tAnd tA tB'):=by
 intro wh pins s σ H Q I h
 refine isTrue_and (thn (ha pins s σ H _ I h) λc s1 ⟨H1,I1,q1⟩=>?_)
 cases c with
 |true=>exact hb wh pins s1 σ H1 Q I1 q1
 |false=>exact⟨H1,I1,q1⟩
theorem AE(ha:PT X a tA)(hb:PW X (.BoolOp .Or (b::rest) pos) tB'):PW X (.BoolOp .Or (a::b::rest) pos) (tOr tA tB'):=by
 intro wh pins s σ H Q I h
 refine isTrue_or (thn (ha pins s σ H _ I h) λc s1 ⟨H1,I1,q1⟩=>?_)
 cases c with
 |true=>exact⟨H1,I1,q1⟩
 |false=>exact hb wh pins s1 σ H1 Q I1 q1
theorem AF(ha:PT X a tA):PT X (.UnaryOp .Not a pos) (tNot tA):=by
 intro pins s σ H Q I h
 exact isTrue_not (ha pins s σ H (λc H1=>Q (!c) H1) I h)
theorem pe_one{op}{t:TE}(h:PE X a t):PE X (.BoolOp op [a] pos) t:=λpins s σ H Q I hw=>BoolOp_one (h pins s σ H Q I hw)
noncomputable def tIf(t:TT)(ta tb:TE):TE:=λσ H Q=>t σ H λc H1=>if c=true then ta σ H1 Q else tb σ H1 Q
theorem Eu{c:Expr}(hc:PT X c tA)(ha:PE X a ta)(hb:PE X b tb):PE X (.IfExp c a b pos) (tIf tA ta tb):=by
 intro pins s σ H Q I h
 refine wpAny_IfExp (thn (hc pins s σ H _ I h) λd s1 ⟨H1,I1,q1⟩=>?_)
 cases d with
 |true=>exact ha pins s1 σ H1 Q I1 q1
 |false=>exact hb pins s1 σ H1 Q I1 q1
end
noncomputable def SqL(K:PySem.W.Frag)(H:Hp)(a:Addr)(xs:List V):Prop:=
 Rd H a (.lst xs) \/
  ∃(o:Obj) (its:Array Value) (n:Nat),K.lookup a=some o/\o.cls=.type "list" /\ o.dict=none/\o.data=.seq its n/\its.size<=sizeLine/\Vals xs its.toList
noncomputable def SqT(K:PySem.W.Frag)(H:Hp)(a:Addr)(xs:List V):Prop:=
 Rd H a (.tup xs) \/
  ∃(o:Obj) (its:Array Value) (n:Nat),K.lookup a=some o/\o.cls=.type "tuple" /\ o.data=.seq its n/\its.size<=sizeLine/\Vals xs its.toList
noncomputable def absV:Value->Option V
 |.none=>some .non
 |.bool b=>some (.bl b)
 |.int i _=>some (.int i)
 |.str x _=>some (.str x)
 |.bytes b _=>some (.byt b)
 |.float b _=>some (.flt b)
 |.ref a=>some (.ref a)
 |.type n=>some (.ty n)
 |_=>none
theorem RelV.abs{x:V}{u:Value}(r:RelV x u):absV u=some x:=by
 cases x with
 |non=>cases r;rfl
 |bl _=>cases r;rfl
 |int _=>obtain⟨t,rfl⟩:=r;rfl
 |str _=>obtain⟨t,rfl⟩:=r;rfl
 |byt _=>obtain⟨t,rfl⟩:=r;rfl
 |flt _=>obtain⟨t,rfl⟩:=r;rfl
 |ref _=>cases r;rfl
 |ty _=>cases r;rfl
theorem RelV.inj{x y:V}{u:Value}(r:RelV x u)(q:RelV y u):x=y:=fJ.inj (r.abs.symm.trans q.abs)
theorem Vals.inj:∀{xs ys:List V} {us:List Value},Vals xs us->Vals ys us->xs=ys
 |_,_,_,.nil,.nil=>rfl
 |_,_,_,.cons r t,.cons r' t'=>by rw[r.inj r',Vals.inj t t']
section
variable{X:Cx}{pins:List (Addr×Obj)}{σ:St}{H:Hp}{s:Shared}{a:Addr}{xs ys:List V}
theorem SqL.of{K:PySem.W.Frag}(h:H a=some (.lst xs)):SqL K H a xs:=.inl (.inl h)
theorem Inv.list(I:Inv X pins σ H s)(h:SqL X.K H a xs):∃its:List Value,Vals xs its/\PlainL s.heap a its.toArray/\xs.length<=sizeLine:=by
 rcases h with h|⟨o,its,n,hk,hc,hd,hs,hz,r⟩
 ·obtain⟨z,its,n,r,e⟩:=h.ok I.hok
  exact⟨its,r,⟨_,n,e,rfl,rfl,rfl⟩,z⟩
 ·refine⟨its.toList,r,⟨o,n,I.kIn a o hk,hc,hd,by simpa using hs⟩,?_⟩
  have e:=r.length
  simp only[oR]at e
  lia
theorem Inv.tuple(I:Inv X pins σ H s)(h:SqT X.K H a xs):∃its:List Value,Vals xs its/\IsTup s.heap a its.toArray/\xs.length<=sizeLine:=by
 rcases h with h|⟨o,its,n,hk,hc,hs,hz,r⟩
 ·obtain⟨z,its,r,p⟩:=h.ok I.hok
  exact⟨its,r,p,z⟩
 ·refine⟨its.toList,r,⟨o,I.kIn a o hk,hc,n,by simpa using hs⟩,?_⟩
  have e:=r.length
  simp only[oR]at e
  lia
theorem Inv.list_inj(I:Inv X pins σ H s)(h:SqL X.K H a xs)(h':SqL X.K H a ys):xs=ys:=by
 obtain⟨its,r,⟨o,n,e,_,_,d⟩,_⟩:=I.list h
 obtain⟨its',r',⟨o',n',e',_,_,d'⟩,_⟩:=I.list h'
 rw[e]at e';cases e'
 rw[d]at d'
 injection d' with d1 _
 have:its=its':=by simpa using congrArg Array.toList d1
 subst this
 exact r.inj r'
theorem Inv.tuple_inj(I:Inv X pins σ H s)(h:SqT X.K H a xs)(h':SqT X.K H a ys):xs=ys:=by
 obtain⟨its,r,⟨o,e,_,n,d⟩,_⟩:=I.tuple h
 obtain⟨its',r',⟨o',e',_,n',d'⟩,_⟩:=I.tuple h'
 rw[e]at e';cases e'
 rw[d]at d'
 injection d' with d1 _
 have:its=its':=by simpa using congrArg Array.toList d1
 subst this
 exact r.inj r'
end
noncomputable abbrev Cx.wish(X:Cx)(E:Value->Shared->Prop):Cx:={X with xe:=E}
noncomputable abbrev Cx.nox(X:Cx):Cx:=X.wish λ_ _=>False
theorem Cx.Ok.wish{X:Cx}(ok:X.Ok)(E:Value->Shared->Prop):(X.wish E).Ok:=
 ⟨ok.mod,ok.kind,ok.glob,ok.blt,ok.above,ok.inj,ok.has,ok.cab,ok.hd,ok.frames,ok.stk,ok.exf,ok.bs,ok.bsz,ok.noex,ok.exfs,ok.funs,ok.frf⟩
theorem Cx.Ok.unwish{X:Cx}{E:Value->Shared->Prop}(ok:(X.wish E).Ok):X.Ok:=
 ⟨ok.mod,ok.kind,ok.glob,ok.blt,ok.above,ok.inj,ok.has,ok.cab,ok.hd,ok.frames,ok.stk,ok.exf,ok.bs,ok.bsz,ok.noex,ok.exfs,ok.funs,ok.frf⟩
section
variable{X:Cx}{pins:List (Addr×Obj)}{σ:St}{H:Hp}{s:Shared}{E:Value->Shared->Prop}
theorem Inv.wish(I:Inv X pins σ H s)(E:Value->Shared->Prop):Inv (X.wish E) pins σ H s:=⟨I.ok.wish E,I.os,I.bare,I.base,I.loc,I.cell,I.free,I.freeC,I.pin,I.hok,I.len⟩
theorem Inv.unwish(I:Inv (X.wish E) pins σ H s):Inv X pins σ H s:=⟨I.ok.unwish,I.os,I.bare,I.base,I.loc,I.cell,I.free,I.freeC,I.pin,I.hok,I.len⟩
theorem SP.unwish{D:Ends}{f:Flow}{s':Shared}(h:SP (X.wish E) pins D f s'):SP X pins D f s':=by
 cases f with
 |next=>obtain⟨σ',H',I,q⟩:=h;exact⟨σ',H',I.unwish,q⟩
 |brk=>obtain⟨σ',H',I,q⟩:=h;exact⟨σ',H',I.unwish,q⟩
 |cont=>obtain⟨σ',H',I,q⟩:=h;exact⟨σ',H',I.unwish,q⟩
 |ret u=>obtain⟨v,σ',H',I,r,q⟩:=h;exact⟨v,σ',H',I.unwish,r,q⟩
theorem PSs.nox{st:List Stmt}{t:TS}(h:PSs X.nox st t):PSs X st t:=λpins s σ H D I hw=>
 wpAny_mono (h pins s σ H D (I.wish _) hw) (λ_ _ q=>q.unwish) λ_ _ z=>False.elim z
end
section
variable{X:Cx}{st:Stmt}{rest:List Stmt}{t u:TS}{e:Expr}{te:TE}{pos:Pos}
noncomputable def tNext:TS:=λD σ H=>D.nx σ H
noncomputable def tSeq(t u:TS):TS:=λD σ H=>t {D with nx:=u D} σ H
theorem mK:PSs X [] tNext:=λ_ _ σ H _ I h=>wpAny_execs_nil ⟨σ,H,I,h⟩
theorem pD(h1:PS X st t)(h2:PSs X rest u):PSs X (st::rest) (tSeq t u):=by
 intro pins s σ H D I h
 refine wpAny_execs_cons (thn (h1 pins s σ H {D with nx:=u D} I h) λf s1 q=>?_)
 cases f with
 |next=>
  obtain⟨σ',H',I',q⟩:=q
  exact h2 pins s1 σ' H' D I' q
 |ret v=>exact q
 |brk=>exact q
 |cont=>exact q
theorem Inv.quiet{pins:List (Addr×Obj)}{σ:St}{H:Hp}{s:Shared}(I:Inv X pins σ H s):interactive X.env=false:=by simp[interactive,I.ok.kind]
noncomputable def tDrop(te:TE):TS:=λD σ H=>te σ H λ_ H1=>D.nx σ H1
theorem mL(he:PE X e te)(hs:swapsWith e none pos.line X.env=pure false:=by rfl):PS X (.Expr e pos) (tDrop te):=by
 intro pins s σ H D I h
 exact wpAny_Expr_any (thn (he pins s σ H _ I h) λv s1 ⟨x,H1,I1,r1,q1⟩=>⟨σ,H1,I1,q1⟩) I.quiet hs
noncomputable def tRet(te:TE):TS:=λD σ H=>te σ H D.rt
theorem kD(he:PE X e te):PS X (.Return (some e) pos) (tRet te):=by
 intro pins s σ H D I h
 exact wpAny_Return_some (thn (he pins s σ H _ I h) λv s1 ⟨x,H1,I1,r1,q1⟩=>⟨x,σ,H1,I1,r1,q1⟩)
noncomputable def tIfS(c:TT)(t u:TS):TS:=λD σ H=>c σ H λb H1=>if b=true then t D σ H1 else u D σ H1
theorem mM{c:Expr}{a b:List Stmt}{tc:TT}(hc:PT X c tc)(ha:PSs X a t)(hb:PSs X b u):PS X (.If c a b pos) (tIfS tc t u):=by
 intro pins s σ H D I h
 refine wpAny_If (thn (hc pins s σ H _ I h) λd s1 ⟨H1,I1,q1⟩=>?_)
 cases d with
 |true=>exact ha pins s1 σ H1 D I1 q1
 |false=>exact hb pins s1 σ H1 D I1 q1
noncomputable def tNever:TS:=λ_ _ _=>False
theorem tU:PS X st tNever:=λ_ _ _ _ _ _ h=>h.elim
end
noncomputable abbrev TG:=V->St->Hp->(St->Hp->Prop)->Prop
noncomputable abbrev TGs:=List V->St->Hp->(St->Hp->Prop)->Prop
noncomputable def PG(X:Cx)(target:Expr)(t:TG):Prop:=
 ∀(pins:List (Addr×Obj))(s:Shared)(σ:St)(H:Hp)(v:V)(u:Value)(Q:St->Hp->Prop),Inv X pins σ H s->RelV v u->t v σ H Q ->
  wpAny (model X.prog X.w) X.A (assign target X.env u) (λ_ s'=>∃σ' H',Inv X pins σ' H' s'/\Q σ' H') X.xe s
noncomputable def PGs(X:Cx)(ts:List Expr)(t:TGs):Prop:=
 ∀(pins:List (Addr×Obj))(s:Shared)(σ:St)(H:Hp)(vs:List V)(us:List Value)(Q:St->Hp->Prop),Inv X pins σ H s->Vals vs us->t vs σ H Q ->
  wpAny (model X.prog X.w) X.A (assignInOrder ((assignEach ts X.env).map (·.2)) us) (λ_ s'=>∃σ' H',Inv X pins σ' H' s'/\Q σ' H') X.xe s
section
variable{X:Cx}{pos:Pos}
noncomputable def AG(i:Nat):TG:=λv σ H Q=>Q (σ.set i (some v)) H
theorem AH{i:Nat}{x:Str}(hN:X.N.Nodup)(hi:X.N[i]?=some x)(hx:Loc X.env.scope x)(hf:X.fn x=true\/X.env.scope.names.lookup x=some .local:=by first|exact .inl rfl|exact .inr rfl|assumption):PG X (.Name x pos) (AG i):=by
 intro pins s σ H v u Q I r h
 exact wpAny_assign_Name (AC I hN hi hx r (λs' I'=>⟨_,H,I',h⟩) hf)
noncomputable def gNil:TGs:=λvs σ H Q=>vs=[]/\Q σ H
noncomputable def gCons(t:TG)(u:TGs):TGs:=λvs σ H Q=>∃v r,vs=v::r/\t v σ H λσ' H'=>u r σ' H' Q
theorem Ew:PGs X [] gNil:=by
 intro pins s σ H vs us Q I r h
 obtain⟨e,h⟩:=h
 subst e
 cases r
 exact assignInOrder_nil ⟨σ,H,I,h⟩
theorem Ex{e:Expr}{es:List Expr}{t:TG}{u:TGs}(h1:PG X e t)(h2:PGs X es u)
 (hs:(assignEach (e::es) X.env).map (·.2)=assign e X.env::(assignEach es X.env).map (·.2):=by rfl):PGs X (e::es) (gCons t u):=by
 intro pins s σ H vs us Q I r h
 obtain⟨v,vr,e1,h⟩:=h
 subst e1
 cases r with
 |cons r rr=>
  rw[hs]
  refine assignInOrder_cons (thn (h1 pins s σ H _ _ _ I r h) λ_ s1 ⟨σ1,H1,I1,q1⟩=>?_)
  exact h2 pins s1 σ1 H1 _ _ Q I1 rr q1
noncomputable def gTup(K:PySem.W.Frag)(n:Nat)(t:TGs):TG:=λv σ H Q=>∃a xs,v=.ref a/\SqT K H a xs/\xs.length=n/\t xs σ H Q
theorem pg_tup{es:List Expr}{k:Nat}{t:TGs}{n:Nat}(hc:X.calm=true)(h:PGs X es t)
 (hn:(assignEach es X.env).length=n:=by rfl) (hst:(assignEach es X.env).findIdx? (·.1)=none:=by rfl):PG X (.Tuple es k pos) (gTup X.K n t):=by
 intro pins s σ H v u Q I r hw
 obtain⟨a,xs,e1,hq,hl,hw⟩:=hw
 subst e1
 cases r
 obtain⟨its,rv,ht,hz⟩:=I.tuple hq
 refine assign_Tuple_tuple (I.ok.hd hc) ht (by simp[hn,<-hl,rv.length]) hst λh' hx=>?_
 have I1:Inv X pins σ H {s with heap:=h' }:=I.kept (t':=s.toks) λb o e=>hx b o (bI (Heap.lt_size e)) e
 exact h pins _ σ H xs _ Q I1 (by simpa using rv) hw
noncomputable def tAsg(te:TE)(g:TG):TS:=λD σ H=>te σ H λx H1=>g x σ H1 D.nx
theorem AI{tg e:Expr}{te:TE}{g:TG}(he:PE X e te)(hg:PG X tg g)(hs:swapsWithSole [tg] e pos.line X.env=pure false:=by rfl)(hw:swappedStores [tg] e X.env=pure none:=by rfl)
 (h1:(assignEach [tg] X.env).map (·.2)=[assign tg X.env]:=by rfl):PS X (.Assign [tg] e pos) (tAsg te g):=by
 intro pins s σ H D I h
 refine wpAny_Assign_stores (thn (he pins s σ H _ I h) λv s1 ⟨x,H1,I1,r1,q1⟩=>?_) hs hw
 rw[h1]
 exact thn (hg pins s1 σ H1 x v _ I1 r1 q1) λ_ s2 q=>q
theorem kZ{i:Nat}{x:Str}{e:Expr}{te:TE}{pos':Pos}(hN:X.N.Nodup)(hi:X.N[i]?=some x)(hx:Loc X.env.scope x)(he:PE X e te)(hs:swapsWith e (some (.Name x pos')) pos.line X.env=pure false:=by rfl)(hf:X.fn x=true\/X.env.scope.names.lookup x=some .local:=by first|exact .inl rfl|exact .inr rfl|assumption) :
 PS X (.Assign [.Name x pos'] e pos) (tAsg te (AG i)):=by
 intro pins s σ H D I h
 refine wpAny_Assign_Name (thn (he pins s σ H _ I h) λv s1 ⟨y,H1,I1,r1,q1⟩=>?_) hs
 exact AC I1 hN hi hx r1 (λs2 I2=>⟨_,H1,I2,q1⟩) hf
end
section
variable{X:Cx}{pos:Pos}
end
set_option genInjectivity false in
structure It where
 go:Nat->Hp->Prop
 yld:Nat->Hp->V->Hp->Prop
 stop:Nat->Hp->Prop
noncomputable def gG(X:Cx)(pins:List (Addr×Obj))(H:Hp)(b:Addr):Prop:=
 H b=none/\b≠X.env.locals/\b∉X.fs/\(b∈X.ex\/X.s₀.heap.objs.size<=b)/\(∀x c,X.env.cells.lookup x=some c->c≠b)/\∀p∈X.pn++pins,p.1≠b
theorem Inv.fpOk{X:Cx}{pins:List (Addr×Obj)}{σ:St}{H H':Hp}{s:Shared}{b:Addr}(I:Inv X pins σ H s)(hb:s.heap.objs.size<=b)(hn:H' b=none):gG X pins H' b:=by
 refine⟨hn,kT (cU I.lt hb),I.nofs hb,.inr (bX I.sz hb),λx c e z=>?_,λp hp z=>?_⟩
 ·obtain⟨v,q⟩:=I.cell x c e
  exact absurd (cU q.lt (by rw[z];exact hb)) (kR _)
 ·exact absurd (cU (Heap.lt_size (I.pin p hp).1) (by rw[z];exact hb)) (kR _)
set_option genInjectivity false in
structure Turn(P:Program)(w:World)(K:PySem.W.Frag)(tg:Expr)(J:It)(fp:List Addr)(it:Addr)(tn:Nat->Heap->Prop):Prop where
 mem:it∈fp
 obj:∀i h,tn i h->∀b∈fp,∃o,h.get? b=some o/\∀v,o.data≠.cell v
 keep:∀i h h',tn i h->(∀b∈fp,∀o,h.get? b=some o->h'.get? b=some o)->tn i h'
 item:∀(X:Cx),X.prog=P->X.w=w->X.K=K->X.calm=true->∀(i:Nat)(pins:List (Addr×Obj))(s:Shared)(σ:St)(H:Hp)(E:Value->Shared->Prop),Inv X pins σ H s->(∀b∈fp,gG X pins H b)->tn i s.heap->J.go i H ->
  wpAny (model P w) X.A (pyNext (.ref it)) (λr s1=>∃u,r=some u /\
   wpAny (model P w) X.A (letOwnedTupleGo tg (.ref it) u) (λ_ s2=>∃x H',Inv X pins σ H' s2/\RelV x u/\J.yld i H x H'/\tn (i+1) s2.heap/\∀b∈fp,H' b=none) E s1) E s
 done:∀(X:Cx),X.prog=P->X.w=w->X.K=K->X.calm=true->∀(i:Nat)(pins:List (Addr×Obj))(s:Shared)(σ:St)(H:Hp)(E:Value->Shared->Prop),Inv X pins σ H s->(∀b∈fp,gG X pins H b)->tn i s.heap->J.stop i H ->
  wpAny (model P w) X.A (pyNext (.ref it)) (λr s1=>r=none/\Inv X pins σ H s1) E s
 self:∀(A:Around)(i:Nat)(s:Shared)(Q:Value->Shared->Prop)(E:Value->Shared->Prop),tn i s.heap->Q (.ref it) s->wpAny (model P w) A (pyIter (.ref it)) Q E s
noncomputable abbrev TI:=St->Hp->(It->Hp->Prop)->Prop
noncomputable def PIE(X:Cx)(pins:List (Addr×Obj))(σ:St)(tg:Expr)(R:It->Hp->Prop)(itv:Value)(s2:Shared):Prop:=
 ∃(it:Addr)(fp:List Addr)(tn:Nat->Heap->Prop)(J:It)(H':Hp),itv=.ref it/\Inv X pins σ H' s2/\Turn X.prog X.w X.K tg J fp it tn/\tn 0 s2.heap/\(∀b∈fp,gG X pins H' b)/\R J H'
noncomputable def PI(X:Cx)(tg iter:Expr)(wi:TI):Prop:=
 ∀(pins:List (Addr×Obj))(s:Shared)(σ:St)(H:Hp)(R:It->Hp->Prop),Inv X pins σ H s->wi σ H R ->
  wpAny (model X.prog X.w) X.A (eval iter X.env) (λv s1=>wpAny (model X.prog X.w) X.A (pyIter v) (PIE X pins σ tg R) X.xe s1) X.xe s
theorem mN{M:Model}{A:Around}{E:Value->Shared->Prop}{s:Shared}{tg:Expr}{it:Addr}{u:Value}{o:Obj}{n:String}{vs:Array Value}{Q:Unit->Shared->Prop}(ho:s.heap.get? it=some o)(hc:o.cls=.type n)(hd:o.data=.fields vs)
 (hn:["enumerate", "zip", "dict_itemiterator", "dict_reverseitemiterator", "odict_iterator", "itertools.zip_longest", "itertools.pairwise"].contains n=false) (hQ:Q () s):wpAny M A (letOwnedTupleGo tg (.ref it) u) Q E s:=by
 unfold letOwnedTupleGo
 cases tg<;>first
  |exact wpAny_pure hQ
  |(cases u<;>first
   |exact wpAny_pure hQ
   | (refine wpAny_bind (wpAny_load ho ?_)
      rw[hc,hd]
      show wpAny M A (if(["enumerate", "zip", "dict_itemiterator", "dict_reverseitemiterator", "odict_iterator", "itertools.zip_longest", "itertools.pairwise"].contains n&&vs[0]?==some (rawInt _))=true then _ else _) Q E s
      rw[if_neg (by intro h;rw[hn,Bool.false_and]at h;cases h)]
      exact wpAny_pure hQ))
noncomputable def Itl(K:PySem.W.Frag)(a:Addr):It:=
 ⟨λi H=>∃xs x,SqL K H a xs/\xs[i]?=some x,λi H x H'=>H'=H/\∀xs,SqL K H a xs->xs[i]?=some x,λi H=>∃xs,SqL K H a xs/\xs.length<=i⟩
noncomputable def Itt(K:PySem.W.Frag)(a:Addr):It:=
 ⟨λi H=>∃xs x,SqT K H a xs/\xs[i]?=some x,λi H x H'=>H'=H/\∀xs,SqT K H a xs->xs[i]?=some x,λi H=>∃xs,SqT K H a xs/\xs.length<=i⟩
noncomputable def Itr(lo:Int)(n:Nat):It:=⟨λi _=>i<n,λi H x H'=>H'=H/\x=.int (lo+i),λi _=>n<=i⟩
theorem Ey{P:Program}{w:World}{K:PySem.W.Frag}{tg:Expr}(a it:Addr):Turn P w K tg (Itl K a) [it] it (λi h=>h.IsListIter it a i) where
 mem:=by simp
 obj:=λi h st b hb=>by
  have e:b=it:=by simpa using hb
  subst e
  obtain⟨o,e,c,d⟩:=st
  exact⟨o,e,λv z=>by rw[d]at z;cases z⟩
 keep:=λi h h' st k=>st.at λo e=>k it (by simp) o e
 item:=by
  intro X hP hw hK hc i pins s σ H E I hf st hg
  subst hP hw hK
  obtain⟨xs,x,hq,hx⟩:=hg
  obtain⟨its,rv,p,hz⟩:=I.list hq
  obtain⟨u,hu,ru⟩:=rv.get hx
  obtain⟨f0,f1,f2,f3,f4,f5⟩:=hf it (by simp)
  refine wpAny_pyNext_list_item st p.isList (x:=u) (by simpa using hu) λh' st' sb=>?_
  have I1:Inv X pins σ H {s with heap:=h' }:=I.turned (t':=s.toks) (λb o hb e=>(sb.2 b hb).trans e) f0 f1 f3 f4 f5
  obtain⟨o,e,c,d⟩:=id st'
  exact⟨u,rfl,mN (s:={s with heap:=h' }) e c d (by decide) ⟨x,H,I1,ru,⟨rfl,λys hy=>by rw[I.list_inj hy hq];exact hx⟩,st',λb hb=>(hf b hb).1⟩⟩
 done:=by
  intro X hP hw hK hc i pins s σ H E I hf st hg
  subst hP hw hK
  obtain⟨xs,hq,hx⟩:=hg
  obtain⟨its,rv,p,hz⟩:=I.list hq
  obtain⟨f0,f1,f2,f3,f4,f5⟩:=hf it (by simp)
  have hl:=rv.length
  exact wpAny_pyNext_list_end (I.ok.hd hc) st p.isList (by simp;lia) λh' eb=>⟨rfl,I.turned (t':=s.toks) (λb o hb e=>eb b o hb e) f0 f1 f3 f4 f5⟩
 self:=λ_ _ _ _ _ st h=>wpAny_pyIter_listiter st h
theorem Ez{P:Program}{w:World}{K:PySem.W.Frag}{tg:Expr}(a it:Addr):Turn P w K tg (Itt K a) [it] it (λi h=>h.IsTupleIter it a i) where
 mem:=by simp
 obj:=λi h st b hb=>by
  have e:b=it:=by simpa using hb
  subst e
  obtain⟨o,e,c,d⟩:=st
  exact⟨o,e,λv z=>by rw[d]at z;cases z⟩
 keep:=λi h h' st k=>st.at λo e=>k it (by simp) o e
 item:=by
  intro X hP hw hK hc i pins s σ H E I hf st hg
  subst hP hw hK
  obtain⟨xs,x,hq,hx⟩:=hg
  obtain⟨its,rv,p,hz⟩:=I.tuple hq
  obtain⟨u,hu,ru⟩:=rv.get hx
  obtain⟨f0,f1,f2,f3,f4,f5⟩:=hf it (by simp)
  refine wpAny_pyNext_tuple_item st (show s.heap.IsTuple a its.toArray from p) (x:=u) (by simpa using hu) λh' st' sb=>?_
  have I1:Inv X pins σ H {s with heap:=h' }:=I.turned (t':=s.toks) (λb o hb e=>(sb.2 b hb).trans e) f0 f1 f3 f4 f5
  obtain⟨o,e,c,d⟩:=id st'
  exact⟨u,rfl,mN (s:={s with heap:=h' }) e c d (by decide) ⟨x,H,I1,ru,⟨rfl,λys hy=>by rw[I.tuple_inj hy hq];exact hx⟩,st',λb hb=>(hf b hb).1⟩⟩
 done:=by
  intro X hP hw hK hc i pins s σ H E I hf st hg
  subst hP hw hK
  obtain⟨xs,hq,hx⟩:=hg
  obtain⟨its,rv,p,hz⟩:=I.tuple hq
  obtain⟨f0,f1,f2,f3,f4,f5⟩:=hf it (by simp)
  have hl:=rv.length
  exact wpAny_pyNext_tuple_end (I.ok.hd hc) st (show s.heap.IsTuple a its.toArray from p) (by simp;lia) λh' eb=>⟨rfl,I.turned (t':=s.toks) (λb o hb e=>eb b o hb e) f0 f1 f3 f4 f5⟩
 self:=λ_ _ _ _ _ st h=>wpAny_pyIter_tupleiter st h
theorem FA{P:Program}{w:World}{K:PySem.W.Frag}{tg:Expr}(it:Addr)(lo:Int)(n:Nat):Turn P w K tg (Itr lo n) [it] it (λi h=>IsRangeIter h it (lo+(i:Nat)*1) ((n:Int)-(i:Nat)) 1) where
 mem:=by simp
 obj:=λi h st b hb=>by
  have e:b=it:=by simpa using hb
  subst e
  exact⟨_,st,λv z=>by
   have z':Data.fields _=Data.cell v:=z
   cases z'⟩
 keep:=λi h h' st k=>k it (by simp) _ st
 item:=by
  intro X hP hw hK hc i pins s σ H E I hf st hg
  subst hP hw hK
  obtain⟨f0,f1,f2,f3,f4,f5⟩:=hf it (by simp)
  have W:=Walks.range (prog:=X.prog) (w:=X.w) (I.ok.hd hc) it lo 1 n
  refine W.item i s _ _ hg st λv h' tk hv st' kk=>?_
  obtain⟨t,rfl⟩:=hv
  have I1:Inv X pins σ H {s with heap:=h',toks:=tk}:=I.turned (λb o hb e=>kk b o (by simpa using hb) e) f0 f1 f3 f4 f5
  refine⟨_,rfl,mN (s:={s with heap:=h',toks:=tk}) (n := "range_iterator") st' rfl rfl (by decide) ⟨.int (lo+i),H,I1,⟨t,?_⟩,⟨rfl,rfl⟩,st',λb hb=>(hf b hb).1⟩⟩
  rw[Int.mul_one]
 done:=by
  intro X hP hw hK hc i pins s σ H E I hf st hg
  subst hP hw hK
  obtain⟨f0,f1,f2,f3,f4,f5⟩:=hf it (by simp)
  exact wpAny_pyNext_range_end (I.ok.hd hc) st (by have:n<=i:=hg;lia) λh' eb=>⟨rfl,I.turned (t':=s.toks) (λb o hb e=>eb b o hb e) f0 f1 f3 f4 f5⟩
 self:=λ_ _ _ _ _ st h=>wpAny_pyIter_rangeiter st h
section
variable{X:Cx}{tg:Expr}
theorem AJ{pins:List (Addr×Obj)}{σ:St}{H:Hp}{s:Shared}{R:It->Hp->Prop}{E:Value->Shared->Prop}{lo hi:Int}{t u v:Tok}{tk:Nat}(I:Inv X pins σ H s)(h1:-(2^62)<=lo)(h2:lo<2^62)(h3:-(2^62)<=hi)(h4:hi<2^62)
 (q:R (Itr lo (hi-lo).toNat) H):wpAny (model X.prog X.w) X.A (pyIter (.ref s.heap.objs.size)) (PIE X pins σ tg R) E {s with heap:=s.heap.push {cls:=.type "range", data:=.fields #[.int lo t,.int hi u,.int 1 v] },toks:=tk}:=by
 refine wpAny_pyIter_range (IsRange.new ..) (small_one h1 h2 h3 h4) ?_
 have I1:Inv X pins σ H {s with heap:=s.heap.push {cls:=.type "range", data:=.fields #[.int lo t,.int hi u,.int 1 v] },toks:=tk}:=I.kept λb o e=>Heap.get?_push_of_some _ e
 refine⟨(s.heap.push {cls:=.type "range", data:=.fields #[.int lo t,.int hi u,.int 1 v] }).objs.size,[(s.heap.push {cls:=.type "range", data:=.fields #[.int lo t,.int hi u,.int 1 v] }).objs.size],_,_,H,rfl,
  I1.kept (t':=tk) λb o e=>Heap.get?_push_of_some _ e,FA _ lo (hi-lo).toNat,?_,λb hb=>?_,q⟩
 ·have e1:lo+((0:Nat):Int)*1=lo:=by simp
  have e2:(((hi-lo).toNat:Nat):Int)-((0:Nat):Int)=Builtin.Range.rangeSize lo hi 1:=by rw[rangeSize_one];split<;>lia
  show IsRangeIter _ _ (lo+((0:Nat):Int)*1) ((((hi-lo).toNat:Nat):Int)-((0:Nat):Int)) 1
  rw[e1,e2]
  exact Heap.get?_push_size _ rfl
 ·have e:b=(s.heap.push {cls:=.type "range", data:=.fields #[.int lo t,.int hi u,.int 1 v] }).objs.size:=by simpa using hb
  subst e
  exact I1.fpOk (aS _) (I1.hok.fresh (aS _))
noncomputable def iRng1(ta:TA):TI:=λσ H R=>ta σ H λvs H1=>∃j:Int,vs=[.int j] /\ -(2^62)<=j/\j<2^62/\R (Itr 0 j.toNat) H1
noncomputable def iRng2(ta:TA):TI:=λσ H R=>ta σ H λvs H1=>∃i j:Int,vs=[.int i,.int j]/\(-(2^62)<=i/\i<2^62 /\ -(2^62)<=j/\j<2^62)/\R (Itr i (j-i).toNat) H1
theorem FB {a:Expr} {ta:TA} {p pos:Pos} (hg:Gl X "range") (hm:X.mg "range" = none) (ha:PA X [a] ta) (hs:starEach [a] X.env=[(false,eval a X.env)]:=by rfl):PI X tg (.Call (.Name "range" p) [a] [] pos) (iRng1 ta):=by
 intro pins s σ H R I h
 refine Call_ (jI I hg hm boot_range (PyProof.Rows.callWith_type1 (thn (ha pos pins s σ H _ I h) λus s1 ⟨vs,H1,I1,r1,q1⟩=>?_) hs rfl))
 obtain⟨j,e,q1,q2,q⟩:=q1
 subst e
 cases r1 with
 |cons r rr=>
  cases rr
  obtain⟨t,rfl⟩:=r
  exact call_range_1 (AJ I1 (by lia) (by lia) q1 q2 (by simpa using q))
theorem FC {a b:Expr} {ta:TA} {p pos:Pos} (hg:Gl X "range") (hm:X.mg "range" = none) (ha:PA X [a,b] ta) (hs:starEach [a,b] X.env=[(false,eval a X.env),(false,eval b X.env)]:=by rfl) (hs2:starEach [b] X.env=[(false,eval b X.env)]:=by rfl) :
 PI X tg (.Call (.Name "range" p) [a,b] [] pos) (iRng2 ta):=by
 intro pins s σ H R I h
 refine Call_ (jI I hg hm boot_range (PyProof.Rows.callWith_type1 (thn (ha pos pins s σ H _ I h) λus s1 ⟨vs,H1,I1,r1,q1⟩=>?_) (by rw[hs,hs2]) (by rw[hs2];rfl)))
 obtain⟨i,j,e,⟨q1,q2,q3,q4⟩,q⟩:=q1
 subst e
 cases r1 with
 |cons r rr=>
  cases rr with
  |cons r' rr=>
   cases rr
   obtain⟨t,rfl⟩:=r
   obtain⟨t',rfl⟩:=r'
   exact call_range_2 (AJ I1 q1 q2 q3 q4 q)
noncomputable def tFor(wi:TI)(g:TG)(tb:TS):TS:=λD σ H=>wi σ H λJ H1=>∃W:Nat->Nat->St->Hp->Prop,(∃m,W 0 m σ H1)/\∀i m σ H,W i m σ H ->
 (J.stop i H/\D.nx σ H)\/(J.go i H/\∃N:St->Hp->Prop,(∀σ' H',N σ' H'->∃m',m'<m/\W (i+1) m' σ' H')/\∀x H',J.yld i H x H'->g x σ H' λσ2 H2=>tb {D with nx:=N,ct:=N,bk:=D.nx} σ2 H2)
noncomputable def lA(fp:List Addr)(h:Heap):List (Addr×Obj):=fp.filterMap λb=>(h.get? b).map λo=>(b,o)
theorem pE{fp:List Addr}{h:Heap}{b:Addr}{o:Obj}(hb:b∈fp)(e:h.get? b=some o):(b,o)∈lA fp h:=E9.mpr ⟨b,hb,by rw[e];rfl⟩
theorem FE{fp:List Addr}{h:Heap}{p:Addr×Obj}(hp:p∈lA fp h):p.1∈fp/\h.get? p.1=some p.2:=by
 obtain⟨b,hb,e⟩:=E9.mp hp
 cases q:h.get? b with
 |none=>rw[q]at e;cases e
 |some o=>
  rw[q]at e
  have e':(b,o)=p:=fJ.inj e
  subst e'
  exact⟨hb,q⟩
theorem Inv.pinned{pins:List (Addr×Obj)}{σ:St}{H:Hp}{s:Shared}{fp:List Addr}(I:Inv X pins σ H s)(hf:∀b∈fp,gG X pins H b)(ho:∀b∈fp,∃o,s.heap.get? b=some o/\∀v,o.data≠.cell v):Inv X (pins++lA fp s.heap) σ H s:=
 I.pins_of λp hp=>(fK.mp hp).elim (λz=>I.pin p (cR _ z)) λz=>by
  obtain⟨hb,e⟩:=FE z
  obtain⟨f0,f1,f2,_⟩:=hf p.1 hb
  obtain⟨o,e',d⟩:=ho p.1 hb
  rw[e]at e';cases e'
  exact⟨e,f0,f1,f2,d⟩
theorem Inv.unpinned{pins pl:List (Addr×Obj)}{σ:St}{H:Hp}{s:Shared}(I:Inv X (pins++pl) σ H s):Inv X pins σ H s:=I.pins_of λp hp=>I.pin p (cR _ (sX _ hp))
theorem tV{iter:Expr}{body:List Stmt}{wi:TI}{g:TG}{tb:TS}{pos:Pos}(hp:PassesOwn (model X.prog X.w) X.A X.env X.xe)(hc:X.calm=true)(hi:PI X tg iter wi)(hg:PG X tg g)(hb:PSs X body tb)
 (hs:∀x,foldedSetIterable iter X.env x=pure x:=by intro _;rfl):PS X (.For tg iter body [] pos) (tFor wi g tb):=by
 intro pins s σ H D I h
 refine wpAny_For (thn (hi pins s σ H _ I h) λv s1 h1=>thn h1 λitv s2 h2=>?_) hs
 obtain⟨it,fp,tn,J,H2,e,I2,T,st2,f2,W,⟨m0,w0⟩,turn⟩:=h2
 subst e
 have stat:∀{H':Hp},(∀b∈fp,H' b=none)->∀b∈fp,gG X pins H' b:=λhn b hb=>⟨hn b hb,(f2 b hb).2⟩
 refine codeAny_forLoop_any (λn s'=>∃i σ' H',Inv X pins σ' H' s'/\tn i s'.heap/\(∀b∈fp,H' b=none)/\W i n σ' H') ?_ m0 ⟨0,σ,H2,I2,st2,λb hb=>(f2 b hb).1,w0⟩
 rintro n s3 ⟨i,σ3,H3,I3,st3,fr3,w3⟩
 rcases turn i n σ3 H3 w3 with⟨stop,qn⟩|⟨go,N,hN,step⟩
 ·refine wpAny_passesOwn hp (thn (T.done X rfl rfl rfl hc i pins s3 σ3 H3 X.xe I3 (stat fr3) st3 stop) λr s4 ⟨hr,I4⟩=>?_)
  subst hr
  exact wpAny_execs_nil ⟨σ3,H3,I4,qn⟩
 ·refine wpAny_passesOwn hp (thn (T.item X rfl rfl rfl hc i pins s3 σ3 H3 X.xe I3 (stat fr3) st3 go) λr s4 ⟨u,hr,h4⟩=>?_)
  subst hr
  refine wpAny_passesOwn hp (thn h4 λ_ s5 ⟨x,H5,I5,r5,y5,st5,fr5⟩=>?_)
  have I5':=I5.pinned (stat fr5) (T.obj _ _ st5)
  refine wpAny_passesOwn hp (thn (hg _ s5 σ3 H5 x u _ I5' r5 (step x H5 y5)) λ_ s6 ⟨σ6,H6,I6,q6⟩=>?_)
  refine wpAny_passesOwn hp (thn (hb _ s6 σ6 H6 _ I6 q6) λf s7 q7=>?_)
  have again:∀{σ7:St} {H7:Hp},Inv X (pins++lA fp s5.heap) σ7 H7 s7->N σ7 H7->∃m,m<n/\∃i σ' H',Inv X pins σ' H' s7/\tn i s7.heap/\(∀b∈fp,H' b=none)/\W i m σ' H':=λ{σ7 H7} I7 n7=>by
   obtain⟨m',hm,w7⟩:=hN σ7 H7 n7
   refine⟨m',hm,i+1,σ7,H7,I7.unpinned,T.keep _ _ _ st5 λb hb o e=>(I7.pin (b,o) (cR _ (cR _ (pE hb e)))).1,λb hb=>?_,w7⟩
   obtain⟨o,e,d⟩:=T.obj _ _ st5 b hb
   exact(I7.pin (b,o) (cR _ (cR _ (pE hb e)))).2.1
  cases f with
  |next=>obtain⟨σ7,H7,I7,n7⟩:=q7;exact again I7 n7
  |cont=>obtain⟨σ7,H7,I7,n7⟩:=q7;exact again I7 n7
  |brk=>obtain⟨σ7,H7,I7,q7⟩:=q7;exact⟨σ7,H7,I7.unpinned,q7⟩
  |ret v=>obtain⟨x7,σ7,H7,I7,r7,q7⟩:=q7;exact⟨x7,σ7,H7,I7.unpinned,r7,q7⟩
end
noncomputable abbrev R2:=V->V->Hp->VK->Prop
noncomputable def OpR(X:Cx)(f:Value->Value->Sem Value)(r:R2):Prop:=
 ∀(pins:List (Addr×Obj))(s:Shared)(σ:St)(H:Hp)(x y:V)(v u:Value)(Q:VK),Inv X pins σ H s->RelV x v->RelV y u->r x y H Q ->
  wpAny (model X.prog X.w) X.A (f v u) (EP X pins σ Q) X.xe s
noncomputable def UnR(X:Cx)(f:Value->Sem Value)(r:V->Hp->VK->Prop):Prop:=
 ∀(pins:List (Addr×Obj))(s:Shared)(σ:St)(H:Hp)(x:V)(v:Value)(Q:VK),Inv X pins σ H s->RelV x v->r x H Q ->
  wpAny (model X.prog X.w) X.A (f v) (EP X pins σ Q) X.xe s
noncomputable def cZ(X:Cx)(f:Value)(r:List V->Hp->VK->Prop):Prop:=
 ∀(pins:List (Addr×Obj))(s:Shared)(σ:St)(H:Hp)(xs:List V)(us:List Value)(Q:VK),Inv X pins σ H s->Vals xs us->r xs H Q ->
  wpAny (model X.prog X.w) X.A (call f us) (EP X pins σ Q) X.xe s
noncomputable def TruR(X:Cx)(r:V->Hp->(Bool->Hp->Prop)->Prop):Prop:=
 ∀(pins:List (Addr×Obj))(s:Shared)(σ:St)(H:Hp)(x:V)(v:Value)(Q:Bool->Hp->Prop),Inv X pins σ H s->RelV x v->r x H Q ->
  wpAny (model X.prog X.w) X.A (truthy v) (TP X pins σ Q) X.xe s
noncomputable def tOp(r:R2)(ta tb:TE):TE:=λσ H Q=>ta σ H λx H1=>tb σ H1 λy H2=>r x y H2 Q
noncomputable def tUn(r:V->Hp->VK->Prop)(ta:TE):TE:=λσ H Q=>ta σ H λx H1=>r x H1 Q
noncomputable def rI(C:Int->Int->Prop)(g:Int->Int->V):R2:=λx y H Q=>∃i j,x=.int i/\y=.int j/\C i j/\Q (g i j) H
noncomputable def rI0(g:Int->Int->V):R2:=λx y H Q=>∃i j,x=.int i/\y=.int j/\Q (g i j) H
noncomputable def rU(g:Int->V):V->Hp->VK->Prop:=λx H Q=>∃i,x=.int i/\Q (g i) H
section
variable{X:Cx}{a b c:Expr}{ta tb tc:TE}{pos:Pos}
theorem binT(ha:PE X a ta)(hb:PE X b tb){pins:List (Addr×Obj)}{s:Shared}{σ:St}{H:Hp}{R:V->V->Hp->Prop}(I:Inv X pins σ H s)
 (h:ta σ H λx H1=>tb σ H1 λy H2=>R x y H2) {Q:Value->Shared->Prop} {f:Value->Value->Sem Value}
 (hf:∀v u s2 x y H2,Inv X pins σ H2 s2->RelV x v->RelV y u->R x y H2->wpAny (model X.prog X.w) X.A (f v u) Q X.xe s2) :
 wpAny (model X.prog X.w) X.A (eval a X.env) (λv s₁=>wpAny (model X.prog X.w) X.A (eval b X.env) (λu s₂=>wpAny (model X.prog X.w) X.A (f v u) Q X.xe s₂) X.xe s₁) X.xe s:=by
 refine thn (ha pins s σ H _ I h) λv s1 ⟨x,H1,I1,r1,q1⟩=>?_
 refine thn (hb pins s1 σ H1 _ I1 q1) λu s2 ⟨y,H2,I2,r2,q2⟩=>?_
 exact hf v u s2 x y H2 I2 r1 r2 q2
theorem pe_op{op:Operator}{r:R2}(ho:OpR X (binaryOp op) r)(ha:PE X a ta)(hb:PE X b tb):PE X (.BinOp a op b pos) (tOp r ta tb):=by
 intro pins s σ H Q I h
 exact wpAny_BinOp (binT ha hb I h λv u s2 x y H2 I2 rx ry q=>ho pins s2 σ H2 x y v u Q I2 rx ry q)
theorem pe_un{op:UnaryOp}{r:V->Hp->VK->Prop}(ho:UnR X (unaryOp op) r)(ha:PE X a ta):PE X (.UnaryOp op a pos) (tUn r ta):=by
 intro pins s σ H Q I h
 exact UnaryOp_ (thn (ha pins s σ H _ I h) λv s1 ⟨x,H1,I1,r1,q1⟩=>ho pins s1 σ H1 x v Q I1 r1 q1)
theorem opI{f:Value->Value->Sem Value}{C:Int->Int->Prop}{g:Int->Int->Int}
 (rule:∀(i j:Int)(t u:Tok)(s:Shared)(Q:Value->Shared->Prop)(E:Value->Shared->Prop),C i j->Q (.int (g i j) s.toks) {s with toks:=s.toks+1}->wpAny (model X.prog X.w) X.A (f (.int i t) (.int j u)) Q E s) :
 OpR X f (rI C λi j=>.int (g i j)):=by
 intro pins s σ H x y v u Q I rx ry h
 obtain⟨i,j,rfl,rfl,hc,q⟩:=h
 obtain⟨t,rfl⟩:=rx
 obtain⟨t',rfl⟩:=ry
 exact rule i j t t' s _ _ hc ⟨.int (g i j),H,I.tok _,⟨_,rfl⟩,q⟩
theorem opI0{f:Value->Value->Sem Value}{g:Int->Int->Int}
 (rule:∀(i j:Int)(t u:Tok)(s:Shared)(Q:Value->Shared->Prop)(E:Value->Shared->Prop),Q (.int (g i j) s.toks) {s with toks:=s.toks+1}->wpAny (model X.prog X.w) X.A (f (.int i t) (.int j u)) Q E s) :
 OpR X f (rI0 λi j=>.int (g i j)):=by
 intro pins s σ H x y v u Q I rx ry h
 obtain⟨i,j,rfl,rfl,q⟩:=h
 obtain⟨t,rfl⟩:=rx
 obtain⟨t',rfl⟩:=ry
 exact rule i j t t' s _ _ ⟨.int (g i j),H,I.tok _,⟨_,rfl⟩,q⟩
theorem pF{f:Value->Value->Sem Value}{g:Int->Int->Bool}
 (rule:∀(i j:Int)(t u:Tok)(s:Shared)(Q:Value->Shared->Prop)(E:Value->Shared->Prop),Q (.bool (g i j)) s->wpAny (model X.prog X.w) X.A (f (.int i t) (.int j u)) Q E s) :
 OpR X f (rI0 λi j=>.bl (g i j)):=by
 intro pins s σ H x y v u Q I rx ry h
 obtain⟨i,j,rfl,rfl,q⟩:=h
 obtain⟨t,rfl⟩:=rx
 obtain⟨t',rfl⟩:=ry
 exact rule i j t t' s _ _ ⟨.bl (g i j),H,I,rfl,q⟩
noncomputable def CDiv(i j:Int):Prop:=0<j/\j<1073741824
noncomputable def CPow(i j:Int):Prop:=0<=j/\j<=1000000/\i.natAbs<2^64
noncomputable def CMul(i j:Int):Prop:=(-(2^64)<i/\i<2^64)\/(-(2^64)<j/\j<2^64)
theorem CMul.ok{i j:Int}(h:CMul i j):IntMulOk i j:=by
 rcases h with⟨h1,h2⟩|⟨h1,h2⟩
 ·exact .of_left (intBits_le_64 h1 h2)
 ·exact .of_right (intBits_le_64 h1 h2)
theorem op_add:OpR X (binaryOp .Add) (rI0 λi j=>.int (i+j)):=opI0 λ_ _ _ _ _ _ _ q=>add_int q
theorem op_sub:OpR X (binaryOp .Sub) (rI0 λi j=>.int (i-j)):=opI0 λ_ _ _ _ _ _ _ q=>sub_int q
theorem op_mul:OpR X (binaryOp .Mult) (rI CMul λi j=>.int (i*j)):=opI λ_ _ _ _ _ _ _ hc q=>mul_int q hc.ok
theorem FF:OpR X (binaryOp .FloorDiv) (rI CDiv λi j=>.int (i/j)):=opI λi j _ _ _ _ _ hc q=>by
 have h1:(0:Int)<j:=hc.1
 have h2:j<1073741824:=hc.2
 exact floordiv_int (by lia) (by rw[Int.fdiv_eq_ediv_of_nonneg i (by lia)];exact q) (.inl (PyProof.noPylong_small (by lia)))
theorem op_mod:OpR X (binaryOp .Mod) (rI (λ_ j=>0<j) λi j=>.int (i%j)):=opI λi j _ _ _ _ _ hc q=>by
 have h1:(0:Int)<j:=hc
 exact mod_int' (by lia) (by rw[Int.fmod_eq_emod_of_nonneg i (by lia)];exact q)
theorem op_pow:OpR X (binaryOp .Pow) (rI CPow λi j=>.int (i^j.toNat)):=opI λ_ _ _ _ _ _ _ hc q=>pow_int_small hc.1 hc.2.1 hc.2.2 q
theorem unI{f:Value->Sem Value}{g:Int->Int}
 (rule:∀(i:Int)(t:Tok)(s:Shared)(Q:Value->Shared->Prop)(E:Value->Shared->Prop),Q (.int (g i) s.toks) {s with toks:=s.toks+1}->wpAny (model X.prog X.w) X.A (f (.int i t)) Q E s) :
 UnR X f (rU λi=>.int (g i)):=by
 intro pins s σ H x v Q I rx h
 obtain⟨i,rfl,q⟩:=h
 obtain⟨t,rfl⟩:=rx
 exact rule i t s _ _ ⟨.int (g i),H,I.tok _,⟨_,rfl⟩,q⟩
theorem un_neg:UnR X (unaryOp .USub) (rU λi=>.int (-i)):=unI λ_ _ _ _ _ q=>neg_int q
end
section
variable{X:Cx}{a b c:Expr}{ta tb tc:TE}{pos:Pos}
theorem lB{pins:List (Addr×Obj)}{σ:St}{H:Hp}{s:Shared}{Q:VK}{k k':Bool}(I:Inv X pins σ H s)(q:Q (.bl k) H)(e:k=k'):EP X pins σ Q (.bool k') s:=by
 subst e
 exact⟨.bl k,H,I,rfl,q⟩
theorem op_lt:OpR X (compareOp .Lt) (rI0 λi j=>.bl (decide (i<j))):=pF λ_ _ _ _ _ _ _ q=>lt_int q
theorem op_le:OpR X (compareOp .LtE) (rI0 λi j=>.bl (decide (i<=j))):=pF λ_ _ _ _ _ _ _ q=>le_int q
theorem op_gt:OpR X (compareOp .Gt) (rI0 λi j=>.bl (decide (j<i))):=pF λ_ _ _ _ _ _ _ q=>gt_int q
theorem op_ge:OpR X (compareOp .GtE) (rI0 λi j=>.bl (decide (j<=i))):=pF λ_ _ _ _ _ _ _ q=>ge_int q
theorem FG:OpR X (compareOp .In) (λx y H Q=>∃i j,x=.str i/\y=.str j/\Q (.bl (!(Builtin.Str.occurrences j i 0 j.length 1).isEmpty)) H):=by
 intro pins s σ H x y v u Q I rx ry h
 obtain⟨i,j,rfl,rfl,q⟩:=h
 obtain⟨t,rfl⟩:=rx
 obtain⟨t',rfl⟩:=ry
 exact in_str (lB I q rfl)
theorem op_isN:OpR X (compareOp .Is) (λx y H Q=>y=.non/\Q (.bl (decide (x=.non))) H):=by
 intro pins s σ H x y v u Q I rx ry h
 obtain⟨rfl,q⟩:=h
 cases ry
 refine is_none_gen (lB I q ?_)
 cases x<;>first
  |(cases rx;rfl)
  |(obtain⟨t,rfl⟩:=rx;rfl)
theorem FH:OpR X (compareOp .IsNot) (λx y H Q=>y=.non/\Q (.bl (!decide (x=.non))) H):=by
 intro pins s σ H x y v u Q I rx ry h
 obtain⟨rfl,q⟩:=h
 cases ry
 refine isnot_none_gen (lB I q ?_)
 cases x<;>first
  |(cases rx;rfl)
  |(obtain⟨t,rfl⟩:=rx;rfl)
theorem FI:OpR X (compareOp .NotIn) (λx y H Q=>∃i j,x=.str i/\y=.str j/\Q (.bl (!(!(Builtin.Str.occurrences j i 0 j.length 1).isEmpty))) H):=by
 intro pins s σ H x y v u Q I rx ry h
 obtain⟨i,j,rfl,rfl,q⟩:=h
 obtain⟨t,rfl⟩:=rx
 obtain⟨t',rfl⟩:=ry
 exact notIn_str (lB I q rfl)
theorem FJ{op:CmpOp}{r:R2}(ho:OpR X (compareOp op) r)(ha:PE X a ta)(hb:PE X b tb)(hm:behindInMarks op b=false):PE X (.Compare a [op] [b] pos) (tOp r ta tb):=by
 intro pins s σ H Q I h
 exact wpAny_Compare1 (binT ha hb I h λv u s2 x y H2 I2 rx ry q=>ho pins s2 σ H2 x y v u Q I2 rx ry q) hm
noncomputable def tTest(t:TE):TT:=λσ H Q=>t σ H λx H'=>∃k,x=.bl k/\Q k H'
theorem FK{op:CmpOp}{r:R2}(ho:OpR X (compareOp op) r)(ha:PE X a ta)(hb:PE X b tb)(hm:behindInMarks op b=false):PT X (.Compare a [op] [b] pos) (tTest (tOp r ta tb)):=by
 intro pins s σ H Q I h
 refine wpAny_isTrue_Compare1 (thn (ha pins s σ H _ I h) λv s1 ⟨x,H1,I1,r1,q1⟩=>thn (hb pins s1 σ H1 _ I1 q1) λu s2 ⟨y,H2,I2,r2,q2⟩=>
  thn (ho pins s2 σ H2 x y v u _ I2 r1 r2 q2) λc s3 ⟨z,H3,I3,r3,k,e,q3⟩=>?_) hm
 subst e
 cases r3
 exact wpAny_truthy_bool ⟨H3,I3,q3⟩
noncomputable def mO(K:PySem.W.Frag)(x:V)(H:Hp)(k:Bool):Prop:=
 match x with
 |.non=>k=false
 |.bl b=>k=b
 |.int i=>k=(i != 0)
 |.str y=>y.length<=sizeLine/\k=((y.length:Int) != 0)
 |.byt y=>y.size<=sizeLine/\k=((y.size:Int) != 0)
 |.ref p=>(∃xs,SqL K H p xs/\k=!xs.isEmpty)\/(∃xs,SqT K H p xs/\k=!xs.isEmpty)\/∃kvs,H p=some (.dK kvs)/\k=!kvs.isEmpty
 |_=>False
theorem FL{κ:Type}{kvs:List (κ×V)}{vs:List (κ×Value)}(r:KV kvs vs):(!vs.isEmpty)=!kvs.isEmpty:=by
 cases r<;>rfl
theorem AK{xs:List V}{its:List Value}(r:Vals xs its):(!its.toArray.isEmpty)=!xs.isEmpty:=by
 cases r<;>simp
theorem lC:(sizeLine:Nat)<2^63:=by rw[sizeLine_eq];decide
theorem pG:TruR X (λx H Q=>∃k,mO X.K x H k/\Q k H):=by
 intro pins s σ H x v Q I rx h
 obtain⟨k,e,q⟩:=h
 have hl:=lC
 have hs:sizeLine=16777216:=sizeLine_eq
 cases x with
 |non=>
  cases rx
  have e':k=false:=e
  subst e'
  exact truthy_none ⟨H,I,q⟩
 |bl b=>
  cases rx
  have e':k=b:=e
  subst e'
  exact wpAny_truthy_bool ⟨H,I,q⟩
 |int i=>
  obtain⟨t,rfl⟩:=rx
  have e':k=(i != 0):=e
  subst e'
  exact PySem.P.truthy_int ⟨H,I,q⟩
 |str y=>
  obtain⟨t,rfl⟩:=rx
  obtain⟨hy,e'⟩:y.length<=sizeLine/\k=((y.length:Int) != 0):=e
  subst e'
  exact PySem.P.truthy_str (by lia) ⟨H,I.tok _,q⟩
 |byt y=>
  obtain⟨t,rfl⟩:=rx
  obtain⟨hy,e'⟩:y.size<=sizeLine/\k=((y.size:Int) != 0):=e
  subst e'
  exact PySem.W.truthy_bytes (by lia) ⟨H,I.tok _,q⟩
 |ref p=>
  cases rx
  have e':(∃xs,SqL X.K H p xs/\k=!xs.isEmpty)\/(∃xs,SqT X.K H p xs/\k=!xs.isEmpty)\/∃kvs,H p=some (.dK kvs)/\k=!kvs.isEmpty:=e
  rcases e' with⟨xs,hx,e'⟩|⟨xs,hx,e'⟩|⟨kvs,hx,e'⟩
  ·subst e'
   obtain⟨its,r,pl,hz⟩:=I.list hx
   have hlen:=r.length
   exact wpAny_truthy_list pl.isList (by simp only[bG];lia) ⟨H,I.tok _,by rw[AK r];exact q⟩
  ·subst e'
   obtain⟨its,r,pl,hz⟩:=I.tuple hx
   have hlen:=r.length
   exact truthy_tuple pl (by simp only[bG];lia) ⟨H,I.tok _,by rw[AK r];exact q⟩
  ·subst e'
   obtain⟨hz,hS,vs,r,m⟩:kvs.length<=sizeLine/\(p==sysModules)=false/\∃vs,KV kvs vs/\s.heap.DictOf (bW X.prog X.w) p vs:=I.hok p _ hx
   have hlen:kvs.length=vs.length:=Paired.length r
   exact wpAny_truthy_dict hS m (by lia) ⟨H,I.tok _,by rw[FL r];exact q⟩
 |_=>exact(show False from e).elim
theorem AL(ha:PE X a ta)(he:∀whole,isTrue a X.env whole=(do let v<-whole;standAt a.pos;holding [v] (truthy v))) :
 PT X a (λσ H Q=>ta σ H λx H'=>∃k,mO X.K x H' k/\Q k H'):=by
 intro pins s σ H Q I h
 exact isTrue_plain (thn (ha pins s σ H _ I h) λv s1 ⟨x,H1,I1,r1,q1⟩=>pG pins s1 σ H1 x v Q I1 r1 q1) (he _)
theorem FM:OpR X (binaryOp .Add) (λx y H Q=>∃i j,x=.str i/\y=.str j/\i.length+j.length<=sizeLine/\Q (.str (i++j)) H):=by
 intro pins s σ H x y v u Q I rx ry h
 obtain⟨i,j,rfl,rfl,hz,q⟩:=h
 obtain⟨t,rfl⟩:=rx
 obtain⟨t',rfl⟩:=ry
 exact add_str (λt' tk=>⟨.str (i++j),H,I.tok _,⟨_,rfl⟩,q⟩) hz
theorem gH{x:V}{us:List Value}(r:Vals [x] us):∃u,us=[u]/\RelV x u:=by
 cases r with
 |cons r1 r2=>cases r2;exact⟨_,rfl,r1⟩
theorem vals2{x y:V}{us:List Value}(r:Vals [x,y] us):∃u w',us=[u,w']/\RelV x u/\RelV y w':=by
 cases r with
 |cons r1 r2=>
  cases r2 with
  |cons r3 r4=>cases r4;exact⟨_,_,rfl,r1,r3⟩
theorem AM:cZ X (.type "int") (λxs H Q=>(∃i,xs=[.int i]/\Q (.int i) H)\/∃k,xs=[.bl k]/\Q (.int (if k then 1 else 0)) H):=by
 intro pins s σ H xs us Q I r h
 rcases h with⟨i,rfl,q⟩|⟨k,rfl,q⟩
 ·obtain⟨u,rfl,t,rfl⟩:=gH r
  exact call_int_int ⟨.int i,H,I,⟨_,rfl⟩,q⟩
 ·obtain⟨u,rfl,r1⟩:=gH r
  cases r1
  exact call_int_bool ⟨.int (if k then 1 else 0),H,I.tok _,⟨_,rfl⟩,q⟩
end
theorem RelO.some_of{v:V}{o:Option Value}(r:RelO (some v) o):∃u,o=some u/\RelV v u:=by
 cases o with
 |none=>exact(show False from r).elim
 |some u=>exact⟨u,rfl,r⟩
section
variable{X:Cx}{pins:List (Addr×Obj)}{σ:St}{H:Hp}{s:Shared}{a C dx:Addr}{fs:List (Str×V)}{f:Str}{v:V}{A:Around}{E:Value->Shared->Prop}
end
set_option genInjectivity false in
structure Room(k:Nat)(A:Around):Prop where
 hd:A.handled=none
 dp:A.depth+3*k+5<recursionLimit
 un:A.units+16*k+200<cLine
theorem Room.mono{j k:Nat}{A:Around}(r:Room k A)(h:j<=k):Room j A:=⟨r.hd,by have:=r.dp;lia,by have:=r.un;lia⟩
theorem Room.deeper{k:Nat}{A:Around}(r:Room (k+1) A)(env:Env):Room k (A.deeper env):=
 ⟨r.hd,by have:=r.dp;show A.depth+1+3*k+5<_;lia,by have:=r.un;show A.units+3+16*k+200<_;lia⟩
theorem Room.in1{k:Nat}{A:Around}(r:Room (k+1) A):Room k A.in1:=
 ⟨r.hd,by have:=r.dp;show A.depth+3*k+5<_;lia,by have:=r.un;show A.units+1+16*k+200<_;lia⟩
theorem Room.depth{k:Nat}{A:Around}(r:Room k A):A.depth<recursionLimit:=by have:=r.dp;lia
theorem Room.units{k:Nat}{A:Around}(r:Room k A):A.units+64<cLine:=by have:=r.un;lia
theorem Room.units0{k:Nat}{A:Around}(r:Room k A):A.units<cLine:=by have:=r.un;lia
noncomputable def pH:TA:=λ_ H Q=>Q [] H
noncomputable def pI(ta:TE)(tr:TA):TA:=λσ H Q=>ta σ H λx H1=>tr σ H1 λxs H2=>Q (x::xs) H2
section
variable{X:Cx}{e:Expr}{es:List Expr}{te:TE}{t:TA}{pos:Pos}
theorem eG:PA X [] pH:=λ_ _ _ _ H Q I h=>Calls.spliced_nil ⟨[],H,I,.nil,h⟩
theorem cM(ha:PE X e te)(hr:PA X es t)(hs:starEach (e::es) X.env=(false,eval e X.env)::starEach es X.env:=by rfl):PA X (e::es) (pI te t):=by
 intro pos pins s σ H Q I h
 rw[hs]
 show wpAny _ _ (spliced ((false,eval e X.env)::backTo pos (starEach es X.env))) _ _ s
 refine Calls.spliced_cons (thn (ha pins s σ H _ I h) λu s1 ⟨x,H1,I1,r1,q1⟩=>?_)
 exact thn (hr pos pins s1 σ H1 _ I1 q1) λus s2 ⟨xs,H2,I2,r2,q2⟩=>⟨x::xs,H2,I2,.cons r1 r2,q2⟩
noncomputable def tTup(t:TA):TE:=λσ H Q=>t σ H λxs H1=>xs.length<=sizeLine/\∀p,H1 p=none->Q (.ref p) (upd H1 p (.tup xs))
noncomputable def tLst(t:TA):TE:=λσ H Q=>t σ H λxs H1=>xs.length<=sizeLine/\∀p,H1 p=none->Q (.ref p) (upd H1 p (.lst xs))
theorem AN{x1}(h:PA X es t):PE X (.Tuple es x1 pos) (tTup t):=by
 intro pins s σ H Q I hq
 refine wpAny_Tuple_spliced (thn (h pos pins s σ H _ I hq) λus s1 ⟨xs,H1,I1,r,z,q⟩=>⟨by rw[<-r.length];exact z,?_⟩)
 have hf:H1 s1.heap.objs.size=none:=I1.hok.fresh (aS _)
 refine⟨.ref s1.heap.objs.size,upd H1 s1.heap.objs.size (.tup xs),I1.laid (t':=s1.toks) (λb u e=>Heap.get?_push_of_some _ e) (aS _) ?_,rfl,q _ hf⟩
 exact⟨z,us,r,⟨_,Heap.get?_push_size _ rfl,rfl,_,rfl⟩⟩
theorem pe_lst(h:PA X es t):PE X (.List es pos) (tLst t):=by
 intro pins s σ H Q I hq
 refine wpAny_List_spliced (thn (h pos pins s σ H _ I hq) λus s1 ⟨xs,H1,I1,r,z,q⟩=>⟨by rw[<-r.length];exact z,?_⟩)
 have hf:H1 s1.heap.objs.size=none:=I1.hok.fresh (aS _)
 refine⟨.ref s1.heap.objs.size,upd H1 s1.heap.objs.size (.lst xs),I1.laid (t':=s1.toks) (λb u e=>Heap.get?_push_of_some _ e) (aS _) ?_,rfl,q _ hf⟩
 exact⟨z,us,0,r,Heap.get?_push_size _ rfl⟩
end
noncomputable abbrev Sp:=List V->Hp->VK->XK->Prop
noncomputable abbrev CXT:=List Env->Hp->Shared->XK->Value->Shared->Prop
set_option genInjectivity false in
structure Env0(P:Program)(w:World)(K:PySem.W.Frag)(mg:Str->Option Value)(base:Heap)(A:Around)(outer:List Env)(s:Shared)(H:Hp):Prop where
 frames:A.frames=some outer
 mod:Mod K mg base
 bs:∀b o,base.get? b=some o->s.heap.get? b=some o/\H b=none
 bsz:base.objs.size<=s.heap.objs.size
 funs:s.heap.FunFrames base outer
 frf:∀b∈frs outer,H b=none
 hok:HOk P w H s.heap
 bare:AllBare s.gens
noncomputable def CE(outer:List Env)(P:Program)(w:World)(H:Hp)(s:Shared)(Q:VK)(u:Value)(s':Shared):Prop:=
 ∃v H',s'.os=s.os/\AllBare s'.gens/\Un (frs outer) [] H H' s.heap s'.heap/\HOk P w H' s'.heap/\RelV v u/\Q v H'
noncomputable def CR(CX:CXT)(outer:List Env)(P:Program)(w:World)(H:Hp)(s:Shared)(Q:VK)(E:XK)(r:Result)(s':Shared):Prop:=
 match r with
 |.ok (.ret u)=>CE outer P w H s Q u s'
 |.ok _=>False
 |.error e=>CX outer H s E e s'
set_option genInjectivity false in
structure FnOk(P:Program)(w:World)(K:PySem.W.Frag)(mg:Str->Option Value)(base:Heap)(CX:CXT)(k:Nat)(f:Addr)(fd:FuncData)(ps:List Str)(sp:Sp):Prop where
 len:∀vs H Q E,sp vs H Q E->vs.length=ps.length
 run:∀(A:Around)(outer:List Env)(s:Shared)(H:Hp)(args:Args)(us:List Value)(vs:List V)(Q:VK)(E:XK),Room k A->Env0 P w K mg base A outer s H->BindsTo s fd args (ps.zip us)->Vals vs us->sp vs H Q E ->
  codeAny (model P w) A (.call (.ref f) args) (CR CX outer P w H s Q E) s
theorem Env0.in1{P:Program}{w:World}{K:PySem.W.Frag}{mg:Str->Option Value}{base:Heap}{A:Around}{outer:List Env}{s:Shared}{H:Hp}(e:Env0 P w K mg base A outer s H) :
 Env0 P w K mg base A.in1 outer s H:=⟨e.frames,e.mod,e.bs,e.bsz,e.funs,e.frf,e.hok,e.bare⟩
section
variable{X:Cx}{pins:List (Addr×Obj)}{σ:St}{H:Hp}{s s':Shared}
theorem Inv.env0(I:Inv X pins σ H s):Env0 X.prog X.w X.K X.mg X.base X.A X.stack s H:=
 ⟨I.ok.frames,I.ok.mod,I.bs,bX I.ok.bsz I.sz,I.stack,I.stkFree,I.hok,I.bare⟩
theorem Inv.after{Q:VK}{u:Value}(I:Inv X pins σ H s)(h:CE X.stack X.prog X.w H s Q u s'):EP X pins σ Q u s':=by
 obtain⟨v,H',os,bare,un,hok,r,q⟩:=h
 obtain⟨hh,g,d,t,os'⟩:=s'
 obtain rfl:os'=s.os:=os
 exact⟨v,H',I.call (h':=hh) (g':=g) (d':=d) (t':=t) (ch:=[]) un hok bare (λb z=>absurd z (by simp)),r,q⟩
end
noncomputable def tW(sp:Sp)(dvs:List V)(E:XK)(t:TA):TE:=λσ H Q=>t σ H λvs H1=>sp (vs++dvs) H1 Q E
noncomputable def Binds(K:PySem.W.Frag)(fd:FuncData)(ps:List Str)(ds:List Value):Prop:=
 ∀(s:Shared)(us:List Value),K.In s.heap->(us++ds).length=ps.length->BindsTo s fd ⟨us,[]⟩ (ps.zip (us++ds))
theorem Binds.all{K:PySem.W.Frag}{fd:FuncData}{ps:List Str}(h:∀us:List Value,us.length=ps.length->bindArgs fd ⟨us,[]⟩=pure (ps.zip us)):Binds K fd ps []:=λs us _ hl=>by
 rw[oS]at hl⊢
 exact .of_eq (h us hl)
noncomputable def pJ(CX:CXT)(X:Cx)(E:XK):Prop:=∀(pins:List (Addr×Obj))(σ:St)(H:Hp)(s:Shared)(e:Value)(s':Shared),Inv X pins σ H s->CX X.stack H s E e s'->X.xe e s'
section
variable{X:Cx}{CX:CXT}{k:Nat}{f C:Addr}{fd:FuncData}{ps:List Str}{sp:Sp}{dvs:List V}{ds:List Value}{E:XK}{x m:Str}{p pos apos:Pos}{e o:Expr}{es:List Expr}{ta:TE}{t:TA}
theorem AO{pins:List (Addr×Obj)}{σ:St}{H:Hp}{s:Shared}{Q:VK}{us:List Value}{vs:List V}(F:FnOk X.prog X.w X.K X.mg X.base CX k f fd ps sp)(hr:Room k X.A)(hb:Binds X.K fd ps ds)(hd:Vals dvs ds)(hx:pJ CX X E)
 (I:Inv X pins σ H s) (r:Vals vs us) (h:sp (vs++dvs) H Q E):wpAny (model X.prog X.w) X.A (call (.ref f) us) (EP X pins σ Q) X.xe s:=by
 have r2:Vals (vs++dvs) (us++ds):=r.append hd
 have hl:(us++ds).length=ps.length:=by rw[<-r2.length];exact F.len _ _ _ _ h
 refine wpAny_call (codeAny_mono (F.run X.A X.stack s H ⟨us,[]⟩ (us++ds) (vs++dvs) Q E hr I.env0 (hb s us I.kIn hl) r2 h) λr s' hq=>?_)
 cases r with
 |error e=>exact hx pins σ H s e s' I hq
 |ok fl=>
  cases fl with
  |ret u=>exact I.after hq
  |next=>exact False.elim hq
  |brk=>exact False.elim hq
  |cont=>exact False.elim hq
theorem AQ(F:FnOk X.prog X.w X.K X.mg X.base CX k f fd ps sp)(hr:Room k X.A)(hg:Gl X x)(hm:X.mg x=some (.ref f))(hk:PySem.W.keepIn X.K (.ref f)=true)(hb:Binds X.K fd ps ds)(hd:Vals dvs ds)(hx:pJ CX X E)
 (ha:PA X (e::es) t) (hdb:(x==("__debug__" : Str))=false:=by decide) (he:starEach (e::es) X.env=(false,eval e X.env)::starEach es X.env:=by rfl) (hpl:(backTo pos (starEach es X.env)).any (·.1)=false:=by rfl) :
 PE X (.Call (.Name x p) (e::es) [] pos) (tW sp dvs E t):=by
 intro pins s σ H Q I h
 refine wpAny_Call_Name_kw (tP I hg hm ?_ hdb)
 refine PySem.W.callWith_K (h₀:=X.base) I.ok.mod.kin hk (thn (ha pos pins s σ H _ I h) λus s1 ⟨vs,H1,I1,r,q⟩=>⟨I1.kIn,?_⟩) he hpl
 exact AO F hr hb hd hx I1 r q
theorem FN(F:FnOk X.prog X.w X.K X.mg X.base CX k f fd ps sp)(hr:Room k X.A)(hg:Gl X x)(hm:X.mg x=some (.ref f))(hk:PySem.W.keepIn X.K (.ref f)=true)(hb:Binds X.K fd ps ds)(hd:Vals dvs ds)(hx:pJ CX X E)
 (hdb:(x==("__debug__" : Str))=false:=by decide):PE X (.Call (.Name x p) [] [] pos) (tW sp dvs E pH):=by
 intro pins s σ H Q I h
 refine wpAny_Call_Name_kw (tP I hg hm ?_ hdb)
 exact PySem.W.callWith_K0 I.kIn hk (AO (us:=[]) F hr hb hd hx I .nil h)
end
section
variable{X:Cx}{CX:CXT}{k:Nat}{f C:Addr}{fd:FuncData}{ps ks:List Str}{sp:Sp}{E:XK}{x m:Str}{p pos apos kpos:Pos}{e o:Expr}{es:List Expr}{kws:List Keyword}{te ta:TE}{t tk:TA}{nm:Option Str}
variable{g:List Value->List Value->List Value}{gV:List V->List V->List V}
end
set_option genInjectivity false in
structure FnScope(N P:List Str)(sc:Scope):Prop where
 kind:sc.kind=.function
 co:sc.isCoroutine=false
 gen:sc.isGenerator=false
 nd:N.Nodup
 pre:N.take P.length=P
 par:∀x∈P,sc.names.lookup x=some .local\/sc.names.lookup x=some .cell
 nofree:∀y∈sc.names,y.2≠.free
theorem AR{kindOf:Str->Option NameKind}{x:Str}:∀{binds:List (Str×Value)} {m:Str->Option Value},(∀v,(x,v)∉binds)->bindL kindOf binds m x=m x
 |[],_,_=>rfl
 |(n,v)::r,m,h=>by
  unfold bindL
  rw[AR λw hw=>h w (aR _ hw)]
  split
  ·have:x≠n:=by rintro rfl;exact h v bC
   simp[this]
  ·rfl
theorem AS{kindOf:Str->Option NameKind}{x:Str}:∀{binds:List (Str×Value)} {m:Str->Option Value},(∀v,(x,v)∉binds)->bindC kindOf binds m x=m x
 |[],_,_=>rfl
 |(n,v)::r,m,h=>by
  unfold bindC
  rw[AS λw hw=>h w (aR _ hw)]
  split
  ·rfl
  ·have:x≠n:=by rintro rfl;exact h v bC
   simp[this]
theorem AU{kindOf:Str->Option NameKind}{x:Str}{v:Value}:∀{P:List Str} {vs:List Value} {i:Nat} {m:Str->Option Value},P.Nodup->P[i]?=some x->vs[i]?=some v->kindOf x=some .local ->
 bindL kindOf (P.zip vs) m x=some v
 |[],_,_,_,_,h,_,_=>by simp at h
 |_::_,[],_,_,_,_,h,_=>by simp at h
 |p::P,w::vs,0,m,nd,h1,h2,hk=>by
  simp at h1 h2;subst h1;subst h2
  show bindL kindOf ((p,w)::P.zip vs) m p=_
  unfold bindL
  rw[AR λv hv=>(dD.mp nd).1 (zM hv).1,if_pos hk]
  simp
 |p::P,w::vs,i+1,m,nd,h1,h2,hk=>by
  show bindL kindOf ((p,w)::P.zip vs) m x=_
  unfold bindL
  exact AU (i:=i) (dD.mp nd).2 (by simpa using h1) (by simpa using h2) hk
theorem AV{kindOf:Str->Option NameKind}{x:Str}{v:Value}:∀{P:List Str} {vs:List Value} {i:Nat} {m:Str->Option Value},P.Nodup->P[i]?=some x->vs[i]?=some v->kindOf x≠some .local ->
 bindC kindOf (P.zip vs) m x=some v
 |[],_,_,_,_,h,_,_=>by simp at h
 |_::_,[],_,_,_,_,h,_=>by simp at h
 |p::P,w::vs,0,m,nd,h1,h2,hk=>by
  simp at h1 h2;subst h1;subst h2
  show bindC kindOf ((p,w)::P.zip vs) m p=_
  unfold bindC
  rw[AS λv hv=>(dD.mp nd).1 (zM hv).1,if_neg hk]
  simp
 |p::P,w::vs,i+1,m,nd,h1,h2,hk=>by
  show bindC kindOf ((p,w)::P.zip vs) m x=_
  unfold bindC
  exact AV (i:=i) (dD.mp nd).2 (by simpa using h1) (by simpa using h2) hk
noncomputable def cF(N:List Str)(vs:List V):St:=vs.map some++aU (N.length-vs.length) none
noncomputable def eI(CX:CXT)(P:Program)(w:World)(K:PySem.W.Frag)(mg:Str->Option Value)(base:Heap)(N:List Str)(qual:Str)(scope:Scope)(f:Addr)(cd:Value)(A:Around)(outer:List Env)(s:Shared)(H:Hp)(E:XK):Cx where
 prog:=P
 w:=w
 K:=K
 mg:=mg
 base:=base
 A:=A.deeper (envOfC qual scope s.heap.objs.size f cd)
 N:=N
 s₀:=s
 H₀:=H
 env:=envOfC qual scope s.heap.objs.size f cd
 outer:=outer
 stack:=envOfC qual scope s.heap.objs.size f cd::outer
 ex:=[]
 calm:=true
 fn:=λ_=>true
 pn:=[]
 xe:=λe s'=>wpAny (model P w) (A.deeper (envOfC qual scope s.heap.objs.size f cd)) (leaving (envOfC qual scope s.heap.objs.size f cd) e) (λ_ s''=>CX outer H s E e s'') (λe' s''=>CX outer H s E e' s'') s'
theorem AW{sc:Scope}{n:Nat}{x:Str}(h:sc.names.lookup x=some .cell):∃c,(cellsFrom n sc.names []).lookup x=some c:=by
 have q:=PySem.W.cellsFrom_some sc.names n [] (.inl h)
 exact Kz.mp q
theorem AX{CX:CXT}{P:Program}{w:World}{K:PySem.W.Frag}{mg:Str->Option Value}{base:Heap}{N ps:List Str}{qual:Str}{scope:Scope}{f:Addr}{cd:Value}{A:Around}{outer:List Env}{s s1:Shared}{H:Hp}{E:XK}{us:List Value}{vs:List V}
 (S:FnScope N ps scope) (hd:A.handled=none) (e0:Env0 P w K mg base A outer s H) (hl:vs.length=ps.length) (r:Vals vs us)
 (x:InCallC s s.heap.objs.size (bindL (envOfC qual scope s.heap.objs.size f cd).kindOf (ps.zip us) λ_=>none) (cellsFrom (s.heap.objs.size+1) scope.names []) (bindC (envOfC qual scope s.heap.objs.size f cd).kindOf (ps.zip us) λ_=>none) s1) :
 Inv (eI CX P w K mg base N qual scope f cd A outer s H E) [] (cF N vs) H s1:=by
 have hpl:ps.length<=N.length:=by have:=congrArg List.length S.pre;rw[jG]at this;lia
 obtain⟨h1,tk,rfl,hk⟩:=x.done
 have noA:∀b:Addr,b∉(eI CX P w K mg base N qual scope f cd A outer s H E).ex:=λb z=>absurd (show b∈([]:List Addr)from z) (by simp)
 refine⟨⟨e0.mod,S.kind,rfl,rfl,aS _,λy z c h1 h2=>?_,λy hy=>?_,λy c _ h=>?_,λ_=>hd,Around.frames_deeper e0.frames,.inr ⟨rfl,rfl⟩,λb z=>absurd z (noA b),e0.bs,e0.bsz,λb _ _=>noA b,λb z=>absurd z (noA b),e0.funs,e0.frf⟩,
  rfl,e0.bare,Un.kept hk,⟨_,x.toInCall.ns,λi y v h1 h2 h3=>?_⟩,λy c h=>⟨_,x.cell y c h⟩,e0.hok.fresh (aS _),λy c h=>?_,λp hp=>absurd (show p∈([]:List (Addr×Obj))from hp) (by simp),e0.hok.kept hk,?_⟩
 ·exact name_of_addr x.apart (PySem.mem_of_lookup h1) (PySem.mem_of_lookup h2)
 ·have hy:scope.names.lookup y=some .cell\/scope.names.lookup y=some .free:=hy
  rcases hy with hy|hy
  ·exact AW hy
  ·exact absurd rfl (S.nofree _ (PySem.mem_of_lookup hy))
 ·exact jF (x.above y c (PySem.mem_of_lookup h))
 ·have hi:i<vs.length:=by
   unfold cF at h2
   by_cases hi:i<vs.length
   ·exact hi
   ·rw[gD (by simpa using hi)]at h2
    rw[lY]at h2
    split at h2<;>cases h2
  have ha:vs[i]?=some v:=by
   unfold cF at h2
   rw[kU (by simpa using hi),bT]at h2
   cases e:vs[i]? with
   |none=>rw[e]at h2;cases h2
   |some a=>rw[e]at h2;cases h2;rfl
  obtain⟨u,hu,rv⟩:=r.get ha
  have hp:ps[i]?=some y:=by
   rw[<-S.pre,LA (by lia)];exact h1
  have ndP:ps.Nodup:=by rw[<-S.pre];exact S.nd.sublist (List.take_sublist _ _)
  refine⟨u,rv,?_⟩
  rcases S.par y (iJ hp)with k|k
  ·exact .inl ⟨k,AU ndP hp hu k⟩
  ·obtain⟨c,e⟩:=AW (n:=s.heap.objs.size+1) k
   refine .inr ⟨.inl k,c,e,?_⟩
   have q:=x.cell y c e
   rw[AV ndP hp hu (by show scope.names.lookup y≠_;rw[k];decide)]at q
   exact q
 ·exact e0.hok.fresh (jF (x.above y c (PySem.mem_of_lookup h)))
 ·unfold cF
  show _=N.length
  rw[cD,aE,dX]
  lia
theorem fn_of{CX:CXT}{P:Program}{w:World}{K:PySem.W.Frag}{mg:Str->Option Value}{base:Heap}{k:Nat}{f:Addr}{name qual:Str}{params:Arguments}{body:List Stmt}{scope:Scope}{dV kV doc pm cdv ct oc:Value}{an od:Option Addr}
 {osl:Array (Option Value)} {N ps:List Str} {sp:Sp} (lk:K.lookup f=some ⟨oc,od,.func (PySem.W.fnOf name qual params body scope dV kV doc pm an cdv ct),osl⟩) (hcd:PySem.W.codeIn K cdv qual=true) (S:FnScope N ps scope)
 (len:∀vs H Q E,sp vs H Q E->vs.length=ps.length)
 (hbody:∀(A:Around)(outer:List Env)(s:Shared)(H:Hp)(vs:List V)(Q:VK)(E:XK),Room k (A.deeper (envOfC qual scope s.heap.objs.size f cdv))->sp vs H Q E ->
  ∃t,PSs (eI CX P w K mg base N qual scope f cdv A outer s H E) body t/\t {nx:=λ_ H'=>Q .non H',rt:=Q} (cF N vs) H) :
 FnOk P w K mg base CX (k+1) f (PySem.W.fnOf name qual params body scope dV kV doc pm an cdv ct) ps sp:=by
 refine⟨len,λA outer s H args us vs Q E hr e0 hb r hsp=>?_⟩
 have hl:=len _ _ _ _ hsp
 have KX:K.In s.heap:=e0.mod.kin.keeps λb o e=>(e0.bs b o e).1
 have lim:s.heap.NoLimit:=e0.mod.nolimit.keeps λb o e=>(e0.bs b o e).1
 have hkind:∀y∈ps.zip us,scope.names.lookup y.1=some .local\/(scope.names.lookup y.1=some .cell/\((cellsFrom (s.heap.objs.size+1) scope.names []).lookup y.1).isSome=true):=λ⟨n,v⟩ hy=>by
  rcases S.par n (zM hy).1 with q|q
  ·exact .inl q
  ·exact .inr ⟨q,PySem.W.cellsFrom_some _ _ _ (.inl q)⟩
 refine codeAny_call_function hr.depth (KX _ _ lk) rfl S.co S.gen rfl (PySem.W.codeRec_of KX hcd) (hb _ _ _ _ ?_)
 refine wpAny_newFunctionEnv_cells S.kind hkind λenv he s1 x=>?_
 subst he
 refine⟨lim.keeps x.toInCall.keep,codeAny_func ?_⟩
 obtain⟨t,ht,hq⟩:=hbody A outer s H vs Q E (hr.deeper _) hsp
 have I:Inv (eI CX P w K mg base N qual scope f cdv A outer s H E) [] (cF N vs) H s1:=AX S hr.hd e0 hl r x
 refine wpAny_mono (ht [] s1 (cF N vs) H _ I hq) (λfl s' hs=>?_) λe s' hs=>hs
 have fin:∀{σ':St} {H':Hp} {v:V} {u:Value},Inv (eI CX P w K mg base N qual scope f cdv A outer s H E) [] σ' H' s'->RelV v u->Q v H'->CE outer P w H s Q u s':=
  λ{σ' H' v u} J rv q=>⟨v,H',J.os,J.bare,J.base,J.hok,rv,q⟩
 cases fl with
 |ret u=>
  obtain⟨v,σ',H',J,rv,q⟩:=hs
  exact fin J rv q
 |next=>
  obtain⟨σ',H',J,q⟩:=hs
  exact fin (v:=V.non) (u:=Value.none) J rfl q
 |brk=>
  obtain⟨_,_,_,q⟩:=hs
  exact False.elim q
 |cont=>
  obtain⟨_,_,_,q⟩:=hs
  exact False.elim q
section
variable{X:Cx}{x:Str}{p pos:Pos}{e:Expr}{es:List Expr}{t:TA}{id T:String}{r:List V->Hp->VK->Prop}
noncomputable def tCB(r:List V->Hp->VK->Prop)(t:TA):TE:=λσ H Q=>t σ H λvs H1=>r vs H1 Q
theorem mP (hc:cZ X (.builtin id) r) (hg:Gl X x) (hm:X.mg x=none) (hv:bootBuiltins x=some (.builtin id)) (ha:PA X (e::es) t) (hn:x ≠ "__name__" := by decide) (hdb:(x==("__debug__" : Str))=false:=by decide)
 (he:starEach (e::es) X.env=(false,eval e X.env)::starEach es X.env:=by rfl) (hpl:(backTo pos (starEach es X.env)).any (·.1)=false:=by rfl):PE X (.Call (.Name x p) (e::es) [] pos) (tCB r t):=by
 intro pins s σ H Q I h
 refine wpAny_Call_Name_kw (jI I hg hm hv ?_ hn hdb)
 exact PyProof.Rows.callWith_builtin1 (thn (ha pos pins s σ H _ I h) λus s1 ⟨vs,H1,I1,r1,q1⟩=>hc pins s1 σ H1 vs us Q I1 r1 q1) he hpl
theorem pK (hc:cZ X (.type T) r) (hg:Gl X x) (hm:X.mg x=none) (hv:bootBuiltins x=some (.type T)) (ha:PA X (e::es) t) (hn:x ≠ "__name__" := by decide) (hdb:(x==("__debug__" : Str))=false:=by decide)
 (he:starEach (e::es) X.env=(false,eval e X.env)::starEach es X.env:=by rfl) (hpl:(backTo pos (starEach es X.env)).any (·.1)=false:=by rfl):PE X (.Call (.Name x p) (e::es) [] pos) (tCB r t):=by
 intro pins s σ H Q I h
 refine wpAny_Call_Name_kw (jI I hg hm hv ?_ hn hdb)
 exact PyProof.Rows.callWith_type1 (thn (ha pos pins s σ H _ I h) λus s1 ⟨vs,H1,I1,r1,q1⟩=>hc pins s1 σ H1 vs us Q I1 r1 q1) he hpl
end
end L2
namespace HT
open PySem PyProof.Rows
section
open PySem.SeqAt
open PySem.AutoSeq1 (wpAny_loadPart')
open PySem.MeetsSeq PySem.MeetsSeq2 PySem.MeetsSeq3
end
section
variable{prog:Program}{w:World}{A:Around}{E:Value->Shared->Prop}{s:Shared}
theorem cat_tup{t b:Addr}{vs ws:List Value}{Q:Value->Shared->Prop}(ht:IsTup s.heap t vs.toArray)(hb:IsTup s.heap b ws.toArray)(hv:vs≠[])
 (h1:ws=[]->Q (.ref t) s) (h2:ws≠[]->Q (.ref s.heap.objs.size) {s with heap:=s.heap.push {cls:=.type "tuple", data:=.seq (vs++ws).toArray} })
 (hsz:vs.length+ws.length<=sizeLine):wpAny (model prog w) A (binaryOp .Add (.ref t) (.ref b)) Q E s:=by
 obtain⟨⟨cls,dd,data,sl⟩,ho,hc,n,hd⟩:=id ht
 obtain⟨⟨cls2,dd2,data2,sl2⟩,ho2,hc2,n2,hd2⟩:=id hb
 simp only at hc hd hc2 hd2
 subst hc hd hc2 hd2
 have e:vs.toArray++ws.toArray=(vs++ws).toArray:=by simp
 by_cases hw:ws=[]
 ·exact concat_meets ⟨_,ho,rfl⟩ ⟨_,ho2,rfl⟩ noFill_tuple_add seq_tuple_add PySem.F.slot_tuple_add PySem.F.entry_tuple_add (PySem.F.args_tuple_add_2 _ _)
   (tuple_addW1 t b vs.toArray ws.toArray n n2 dd dd2 sl sl2 (by simpa using hv) (by simp[hw])) ⟨ho,ho2,h1 hw⟩
 ·refine concat_meets ⟨_,ho,rfl⟩ ⟨_,ho2,rfl⟩ noFill_tuple_add seq_tuple_add PySem.F.slot_tuple_add PySem.F.entry_tuple_add (PySem.F.args_tuple_add_2 _ _)
   (tuple_addW2 t b vs.toArray ws.toArray n n2 dd dd2 sl sl2 (by simpa using hv) (by simpa using hw) (by rw[bG,bG];exact hsz)) ⟨ho,ho2,?_⟩
  rw[e]
  exact h2 hw
noncomputable def sIx(n d:Nat):Option Int->Nat
 |none=>d
 |some v=>if v<0 then(v+(n:Int)).toNat else min v.toNat n
theorem sIx_le(n d:Nat)(hd:d<=n)(o:Option Int):sIx n d o<=n:=by
 cases o with
 |none=>exact hd
 |some v=>
  show(if v<0 then(v+(n:Int)).toNat else min v.toNat n)<=n
  by_cases hv:v<0
  ·rw[if_pos hv];lia
  ·rw[if_neg hv];exact Nat.min_le_right _ _
theorem AY(v:Int)(n d:Nat):(if v<0 then max (v+(n:Int)) 0 else min v (n:Int))=((sIx n d (some v):Nat):Int):=by
 show(if v<0 then max (v+(n:Int)) 0 else min v (n:Int))=(((if v<0 then(v+(n:Int)).toNat else min v.toNat n):Nat):Int)
 by_cases hv:v<0
 ·simp only[if_pos hv];lia
 ·simp only[if_neg hv];lia
theorem FO(lo hi:Option Int)(n:Nat):Builtin.Slice.sliceAdjust lo hi 1 (n:Int)=(((sIx n 0 lo:Nat):Int),((sIx n n hi:Nat):Int)):=by
 have h1:¬((1:Int)<0):=by lia
 unfold Builtin.Slice.sliceAdjust
 simp only[h1,if_false]
 refine Prod.ext ?_ ?_
 ·cases lo with
  |none=>rfl
  |some v=>exact AY v n 0
 ·cases hi with
  |none=>rfl
  |some v=>exact AY v n n
theorem FP(i j:Nat):Builtin.Slice.slicePlaces (i:Int) (j:Int) 1=j-i:=by
 unfold Builtin.Slice.slicePlaces
 have h1:(1:Int)>0:=by lia
 simp only[h1,if_true,Int.ediv_one]
 split<;>lia
theorem AZ{v:Value}{o:Option Int}{Q:Option Int->Shared->Prop}(p:IsPart v o)(h:Q o s):wpAny (model prog w) A (Builtin.Slice.slicePartIndex v) Q E s:=by
 cases p with
 |none=>exact slicePart_none h
 |int i t=>exact slicePart_int h
theorem sliceApplied_gen{sl:Addr}{vl vu:Value}{lo hi:Option Int}{n:Nat}{Q:Int×Int×Nat->Shared->Prop}(hs:s.heap.IsSliceOf sl vl vu .none)(pl:IsPart vl lo)(pu:IsPart vu hi)
 (h:Q (((sIx n 0 lo:Nat):Int),1,sIx n n hi-sIx n 0 lo) s):wpAny (model prog w) A (Builtin.Slice.sliceApplied (.ref sl) (pure (n:Int))) Q E s:=by
 obtain⟨os,hos,hcs,hds⟩:=id hs
 unfold Builtin.Slice.sliceApplied Builtin.Slice.sliceFields
 refine wpAny_bind (wpAny_bind (wpAny_field hos hds (x:=vl) rfl (wpAny_bind (wpAny_field hos hds (x:=vu) rfl (wpAny_bind (wpAny_field hos hds (x:=.none) rfl (wpAny_pure ?_)))))))
 refine wpAny_bind (slicePart_none ?_)
 show wpAny _ _ (if((1:Int)==0)=true then _ else _) _ _ s
 rw[if_neg (by decide)]
 refine wpAny_bind (AZ pl (wpAny_bind (AZ pu (wpAny_bind (wpAny_pure ?_)))))
 show wpAny _ _ (match Builtin.Slice.sliceAdjust lo hi 1 (n:Int)with|(lo,hi)=>pure (lo,(1:Int),Builtin.Slice.slicePlaces lo hi 1)) _ _ s
 rw[FO lo hi n]
 show wpAny _ _ (pure (((sIx n 0 lo:Nat):Int),(1:Int),Builtin.Slice.slicePlaces ((sIx n 0 lo:Nat):Int) ((sIx n n hi:Nat):Int) 1)) _ _ s
 rw[FP]
 exact wpAny_pure h
theorem FQ(xs:Array Value)(i k:Nat):((aD k).filterMap λ(m:Nat)=>xs[((i:Int)+(m:Int)*1).toNat]?).toArray=((xs.toList.drop i).take k).toArray:=by
 have e:(λ(m:Nat)=>xs[((i:Int)+(m:Int)*1).toNat]?)=λm=>xs[i+m]?:=by
  funext m
  have:((i:Int)+(m:Int)*1).toNat=i+m:=by lia
  rw[this]
 rw[e]
 have:=pick_run xs i k
 rw[LB]at this
 have e2:((λx=>xs[x]?)∘λx=>i+x)=λm=>xs[i+m]?:=rfl
 rw[e2]at this
 rw[this]
theorem getItem_tuple_cut{t sl:Addr}{items:Array Value}{vl vu:Value}{lo hi:Option Int}{Q:Value->Shared->Prop}(ht:IsTup s.heap t items)(hs:s.heap.IsSliceOf sl vl vu .none)(pl:IsPart vl lo)(pu:IsPart vu hi)
 (hw:¬(sIx items.size 0 lo=0/\sIx items.size items.size hi=items.size))
 (h:Q (.ref s.heap.objs.size) {s with heap:=s.heap.push {cls:=.type "tuple", data:=.seq ((items.toList.drop (sIx items.size 0 lo)).take (sIx items.size items.size hi-sIx items.size 0 lo)).toArray} })
 (hsz:items.size<=sizeLine):wpAny (model prog w) A (getItem (.ref t) (.ref sl)) Q E s:=by
 have htake:sizeOk (.seq ((items.toList.drop (sIx items.size 0 lo)).take (sIx items.size items.size hi-sIx items.size 0 lo)).toArray):=by
  show((items.toList.drop (sIx items.size 0 lo)).take (sIx items.size items.size hi-sIx items.size 0 lo)).toArray.size<=sizeLine
  rw[bG,jG,tB,oR]
  lia
 have hj:sIx items.size items.size hi<=items.size:=sIx_le _ _ (aS _) hi
 obtain⟨os,hos,hcs,hds⟩:=id hs
 have hTs:s.TypeIs (.ref sl) "slice" := ⟨os,hos,hcs⟩
 unfold getItem
 try with_reducible refine wpAny_holding ?_
 first|refine wpAny_bind (wpAny_pure ?_)|skip
 refine wpAny_bind (wpAny_sequenceKey ht.typeIs (by decide) ?_)
 refine wpAny_bind (wpAny_callSpecial?_slot (name:=Str.ofString "__getitem__") ht.typeIs PyProof.Rows.slot_tuple_getitem
  (wpAny_call_entry PyProof.Rows.slot_tuple_getitem ht.typeIs entry_tuple_getitem ?_ (args_tuple_getitem _ _)))
 show wpAny _ _ (Builtin.Tuple.tupleItemsOf (.ref t)>>=_) _ _ s
 refine wpAny_bind (tupleItemsOf_ ht ?_)
 refine wpAny_bind (wpAny_typeOf hTs ?_)
 rw[if_pos (by decide)]
 refine wpAny_bind (sliceApplied_gen hs pl pu ?_)
 have hno:¬((((sIx items.size 0 lo:Nat):Int)==0&&(1:Int)==1&&(sIx items.size items.size hi-sIx items.size 0 lo)==items.size)=true):=by
  intro q
  rw[aF,aF]at q
  have q1:((sIx items.size 0 lo:Nat):Int)=0:=eq_of_beq q.1.1
  have q2:sIx items.size items.size hi-sIx items.size 0 lo=items.size:=eq_of_beq q.2
  exact hw ⟨by lia,by lia⟩
 show wpAny _ _ (if(((sIx items.size 0 lo:Nat):Int)==0&&(1:Int)==1&&(sIx items.size items.size hi-sIx items.size 0 lo)==items.size)=true then _ else _) _ _ s
 rw[if_neg hno,FQ]
 first
  |exact wpAny_bind (m:=Builtin.Tuple.tupleExact _) (wpAny_newObj_type (wpAny_pure ⟨_,rfl,wpAny_pure h⟩) htake)
  |exact wpAny_bind (m:=Builtin.Tuple.tupleExact _) (wpAny_newObj_type (wpAny_bind (wpAny_pure (wpAny_pure ⟨_,rfl,wpAny_pure h⟩))) htake)
  |exact wpAny_bind (wpAny_bind (m:=Builtin.Tuple.tupleExact _) (wpAny_newObj_type (wpAny_pure (wpAny_pure ⟨_,rfl,wpAny_pure h⟩)) htake))
  |exact wpAny_bind (wpAny_bind (m:=Builtin.Tuple.tupleExact _) (wpAny_newObj_type (wpAny_pure ⟨_,rfl,wpAny_pure h⟩) htake))
end
end HT
namespace L2
open PySem PySem.Spec PyProof.Rows
noncomputable abbrev TO:=St->Hp->(Option Int->Hp->Prop)->Prop
noncomputable def PO(X:Cx)(e:Option Expr)(t:TO):Prop:=
 ∀(pins:List (Addr×Obj))(s:Shared)(σ:St)(H:Hp)(Q:Option Int->Hp->Prop),Inv X pins σ H s->t σ H Q ->
  wpAny (model X.prog X.w) X.A (evalPart e X.env) (λu s'=>∃o H',Inv X pins σ H' s'/\IsPart u o/\Q o H') X.xe s
noncomputable def FR:TO:=λ_ H Q=>Q none H
theorem intsAre_of{ns:List Int}:∀{us:List Value},Vals (ns.map V.int) us->IntsAre us ns:=by
 induction ns with
 |nil=>intro us r;rw[lZ]at r;cases r;exact .nil
 |cons n ns ih=>
  intro us r
  rw[aK]at r
  cases r with
  |cons r1 r2=>
   obtain⟨t,e⟩:=r1
   subst e
   exact .cons n t (ih r2)
section
variable{X:Cx}{e:Expr}{te:TE}{lo hi:Option Expr}{tl th:TO}{pos p2:Pos}
theorem FS:PO X none FR:=by
 intro pins s σ H Q I h
 rw[evalPart_none]
 exact wpAny_pure ⟨none,H,I,.none,h⟩
noncomputable def SlR(X:Cx)(r:V->Option Int->Option Int->Hp->VK->Prop):Prop:=
 ∀(pins:List (Addr×Obj))(s:Shared)(σ:St)(H:Hp)(x:V)(v vl vu:Value)(lo hi:Option Int)(sl:Addr)(Q:VK),Inv X pins σ H s->RelV x v->s.heap.IsSliceOf sl vl vu .none->IsPart vl lo->IsPart vu hi->r x lo hi H Q ->
  ∃T id,typeLookup (.type T) "__getitem__" = pure (some (.builtin id))/\s.TypeIs v T/\wpAny (model X.prog X.w) X.A (getItem v (.ref sl)) (EP X pins σ Q) X.xe s
noncomputable def tSl(r:V->Option Int->Option Int->Hp->VK->Prop)(te:TE)(tl th:TO):TE:=λσ H Q=>te σ H λx H1=>tl σ H1 λl H2=>th σ H2 λu H3=>r x l u H3 Q
theorem FT{r:V->Option Int->Option Int->Hp->VK->Prop}(hr:SlR X r)(he:PE X e te)(hl:PO X lo tl)(hu:PO X hi th):PE X (.Subscript e (.Slice lo hi none p2) pos) (tSl r te tl th):=by
 intro pins s σ H Q I h
 refine Subscript_ (thn (he pins s σ H _ I h) λv s1 ⟨x,H1,I1,r1,q1⟩=>?_)
 refine wpAny_Slice (thn (hl pins s1 σ H1 _ I1 q1) λvl s2 ⟨l,H2,I2,pl,q2⟩=>thn (hu pins s2 σ H2 _ I2 q2) λvu s3 ⟨u,H3,I3,pu,q3⟩=>?_)
 rw[evalPart_none]
 refine wpAny_pure ?_
 have I4:Inv X pins σ H3 {s3 with heap:=s3.heap.push {cls:=.type "slice", data:=.fields #[vl,vu,.none] } }:=I3.kept (t':=s3.toks) λb ob q=>Heap.get?_push_of_some _ q
 obtain⟨T,id,hT,ht,hg⟩:=hr pins {s3 with heap:=s3.heap.push {cls:=.type "slice", data:=.fields #[vl,vu,.none] } } σ H3 x v vl vu l u s3.heap.objs.size Q I4 r1 (Heap.IsSliceOf.new ..) pl pu q3
 show wpAny (model X.prog X.w) X.A (subscriptTail e (.Slice lo hi none p2) v (.ref s3.heap.objs.size)) (EP X pins σ Q) X.xe {s3 with heap:=s3.heap.push {cls:=.type "slice", data:=.fields #[vl,vu,.none] } }
 exact tail_any (ops:=[.ref s3.heap.objs.size,v]) ht hT hg (by with_unfolding_all rfl)
noncomputable def jJ(xs:List V)(lo hi:Option Int):List V:=(xs.drop (HT.sIx xs.length 0 lo)).take (HT.sIx xs.length xs.length hi-HT.sIx xs.length 0 lo)
theorem A0(xs:List V)(lo hi:Option Int):(jJ xs lo hi).length<=xs.length:=by
 unfold jJ
 rw[jG,tB]
 lia
noncomputable def rSlT(K:PySem.W.Frag):V->Option Int->Option Int->Hp->VK->Prop:=λx lo hi H Q=>∃a xs,x=.ref a/\SqT K H a xs /\
 ¬(HT.sIx xs.length 0 lo=0/\HT.sIx xs.length xs.length hi=xs.length)/\∀p,H p=none->Q (.ref p) (upd H p (.tup (jJ xs lo hi)))
theorem sl_tup:SlR X (rSlT X.K):=by
 intro pins s σ H x v vl vu lo hi sl Q I rx hs pl pu h
 obtain⟨a,xs,rfl,hx,hw,q⟩:=h
 cases rx
 obtain⟨its,r,ht,hz⟩:=I.tuple hx
 have hlen:its.toArray.size=xs.length:=by rw[bG];exact r.length.symm
 refine⟨"tuple", _,PyProof.Rows.slot_tuple_getitem.lookup,ht.typeIs,?_⟩
 refine HT.getItem_tuple_cut ht hs pl pu (by rw[hlen];exact hw) ?_ (by rw[hlen];exact hz)
 rw[hlen]
 refine⟨.ref s.heap.objs.size,_,I.laid (t':=s.toks) (o:=.tup (jJ xs lo hi)) (λb ob q=>Heap.get?_push_of_some _ q) (aS _) ?_,rfl,q _ (I.hok.fresh (aS _))⟩
 exact⟨bX (A0 xs lo hi) hz,_,(r.drop (HT.sIx xs.length 0 lo)).take (HT.sIx xs.length xs.length hi-HT.sIx xs.length 0 lo),IsTup.new _ _⟩
noncomputable def rCatT(K:PySem.W.Frag):R2:=λx y H Q=>∃a b xs ys,x=.ref a/\y=.ref b/\SqT K H a xs/\SqT K H b ys/\xs≠[]/\xs.length+ys.length<=sizeLine /\
 (ys=[]->Q (.ref a) H)/\(ys≠[]->∀p,H p=none->Q (.ref p) (upd H p (.tup (xs++ys))))
theorem Vals.nil_iff{xs:List V}{us:List Value}(r:Vals xs us):us=[]↔xs=[]:=by
 cases r with
 |nil=>simp
 |cons _ _=>simp
theorem FU:OpR X (binaryOp .Add) (rCatT X.K):=by
 intro pins s σ H x y v u Q I rx ry h
 obtain⟨a,b,xs,ys,rfl,rfl,ha,hb,hx,hz,q1,q2⟩:=h
 cases rx
 cases ry
 obtain⟨its,r1,p1,_⟩:=I.tuple ha
 obtain⟨its2,r2,p2,_⟩:=I.tuple hb
 refine HT.cat_tup p1 p2 (λz=>hx (r1.nil_iff.mp z)) (λz=>⟨.ref a,H,I,rfl,q1 (r2.nil_iff.mp z)⟩) (λz=>?_) (by rw[<-r1.length,<-r2.length];exact hz)
 refine⟨.ref s.heap.objs.size,_,I.laid (t':=s.toks) (o:=.tup (xs++ys)) (λb ob q=>Heap.get?_push_of_some _ q) (aS _) ?_,rfl,q2 (λw=>z (r2.nil_iff.mpr w)) _ (I.hok.fresh (aS _))⟩
 exact⟨by rw[cD];exact hz,_,r1.append r2,IsTup.new _ _⟩
end
noncomputable def ixN(n:Nat)(i:Int):Option Nat:=if 0<=i then(if i<n then some i.toNat else none)else if -(n:Int)<=i then some (i+n).toNat else none
noncomputable def atI{α:Type}(xs:List α)(i:Int):Option α:=(ixN xs.length i).bind λj=>xs[j]?
theorem FV{n:Nat}{i:Int}{j:Nat}(h:ixN n i=some j):seqIndex? i n=some j/\j<n /\ -(n:Int)<=i/\i<n:=by
 unfold ixN at h
 by_cases h0:0<=i
 ·rw[if_pos h0]at h
  by_cases h1:i<n
  ·rw[if_pos h1]at h
   have e:i.toNat=j:=fJ.inj h
   exact⟨by rw[seqIndex_of h0 h1,e],by lia,by lia,h1⟩
  ·rw[if_neg h1]at h;cases h
 ·rw[if_neg h0]at h
  by_cases h1:-(n:Int)<=i
  ·rw[if_pos h1]at h
   have e:(i+n).toNat=j:=fJ.inj h
   exact⟨by rw[seqIndex_neg (by lia) h1,e],by lia,h1,by lia⟩
  ·rw[if_neg h1]at h;cases h
theorem tX{α:Type}{xs:List α}{i:Int}{v:α}(h:atI xs i=some v):∃j,seqIndex? i xs.length=some j/\xs[j]?=some v/\j<xs.length /\ -(xs.length:Int)<=i/\i<xs.length:=by
 unfold atI at h
 cases e:ixN xs.length i with
 |none=>rw[e]at h;cases h
 |some j=>
  rw[e]at h
  obtain⟨h1,h2,h3,h4⟩:=FV e
  exact⟨j,h1,h,h2,h3,h4⟩
noncomputable def A1(b:Expr):Prop:=∀o i,subscripted b false o i=operate [o,i] (getItem o i)
noncomputable def IxR(X:Cx)(r:R2):Prop:=
 ∀(value slice:Expr)(pins:List (Addr×Obj))(s:Shared)(σ:St)(H:Hp)(x y:V)(v u:Value)(Q:VK),Inv X pins σ H s->RelV x v->RelV y u->r x y H Q ->
  subscripted slice false v u=operate [v,u] (getItem v u)->wpAny (model X.prog X.w) X.A (subscriptTail value slice v u) (EP X pins σ Q) X.xe s
noncomputable def MtR(X:Cx)(id:String)(r:V->List V->Hp->VK->Prop):Prop:=
 ∀(pins:List (Addr×Obj))(s:Shared)(σ:St)(H:Hp)(x:V)(xs:List V)(v:Value)(us:List Value)(Q:VK),Inv X pins σ H s->RelV x v->Vals xs us->r x xs H Q ->
  wpAny (model X.prog X.w) X.A (call (.builtin id) (v::us)) (EP X pins σ Q) X.xe s
section
variable{X:Cx}{a b:Expr}{ta tb:TE}{pos:Pos}
theorem pe_ix{r:R2}(hr:IxR X r)(ha:PE X a ta)(hb:PE X b tb)(hs:A1 b):PE X (.Subscript a b pos) (tOp r ta tb):=by
 intro pins s σ H Q I h
 exact Subscript_ (binT ha hb I h λv u s2 x y H2 I2 rx ry q=>hr a b pins s2 σ H2 x y v u Q I2 rx ry q (hs _ _))
noncomputable def rIxL(K:PySem.W.Frag):R2:=λx y H Q=>∃p xs i v,x=.ref p/\y=.int i/\SqL K H p xs/\atI xs i=some v/\Q v H
noncomputable def rIxT(K:PySem.W.Frag):R2:=λx y H Q=>∃p xs i v,x=.ref p/\y=.int i/\SqT K H p xs/\atI xs i=some v/\Q v H
noncomputable def rIxS:R2:=λx y H Q=>∃z i c,x=.str z/\y=.int i/\z.length<=sizeLine/\atI z.cps.toList i=some c/\Q (.str ⟨#[c]⟩) H
theorem FW:IxR X (rIxL X.K):=by
 intro value slice pins s σ H x y v u Q I rx ry h hs
 obtain⟨p,xs,i,z,rfl,rfl,hq,he,q⟩:=h
 cases rx
 obtain⟨t,rfl⟩:=ry
 obtain⟨its,r,pl,hz⟩:=I.list hq
 obtain⟨j,h1,h2,h3,h4,h5⟩:=tX he
 obtain⟨w,ew,rw'⟩:=r.get h2
 have hl:=r.length
 have hn:=lC
 have fin:EP X pins σ Q w s:=⟨z,H,I,rw',q⟩
 by_cases h0:0<=i
 ·have hj:i.toNat=j:=by
   rw[seqIndex_of h0 h5]at h1
   exact fJ.inj h1
  exact item_listR pl.isList h0 (by lia) (by rw[hj];simpa using ew) fin hs
 ·have hj:(i+(its.toArray.size:Int)).toNat=j:=by
   rw[seqIndex_neg (by lia) h4]at h1
   rw[bG,<-hl]
   exact fJ.inj h1
  exact subscriptTail_builtinR (x:=w) pl.isList.typeIs slot_list_getitem.lookup
   (wpAny_getItem_list_neg (Q:=λr s'=>r=w/\EP X pins σ Q r s') pl.isList (by lia) (by rw[bG]<;>lia) (by lia) (by rw[hj];simpa using ew) ⟨rfl,fin⟩) hs
theorem ix_tup:IxR X (rIxT X.K):=by
 intro value slice pins s σ H x y v u Q I rx ry h hs
 obtain⟨p,xs,i,z,rfl,rfl,hq,he,q⟩:=h
 cases rx
 obtain⟨t,rfl⟩:=ry
 obtain⟨its,r,pl,hz⟩:=I.tuple hq
 obtain⟨j,h1,h2,h3,h4,h5⟩:=tX he
 obtain⟨w,ew,rw'⟩:=r.get h2
 have hl:=r.length
 have hn:=lC
 have fin:EP X pins σ Q w s:=⟨z,H,I,rw',q⟩
 exact subscriptTail_builtinR (x:=w) pl.typeIs slot_tuple_getitem.lookup
  (getItem_tuple (j:=j) (Q:=λr s'=>r=w/\EP X pins σ Q r s') pl (by lia) (by lia) (by rw[bG,<-hl];exact h1) (by simpa using ew) ⟨rfl,fin⟩) hs
theorem ix_str:IxR X rIxS:=by
 intro value slice pins s σ H x y v u Q I rx ry h hs
 obtain⟨z,i,c,rfl,rfl,hz,he,q⟩:=h
 obtain⟨t,rfl⟩:=rx
 obtain⟨t',rfl⟩:=ry
 obtain⟨j,h1,h2,h3,h4,h5⟩:=tX he
 have hl:z.cps.toList.length=z.length:=by simp[Str.length]
 rw[hl]at h1 h4 h5
 have hn:=lC
 exact tail_any (typeIs_str s z t) slot_str_getitem.lookup (getItem_str (c:=c) (by
  have e1:decide (i < -(2^63:Int))=false:=decide_eq_false (by lia)
  have e2:decide (i≥2^63)=false:=decide_eq_false (by lia)
  rw[e1,e2,Bool.or_false]) (by rw[h1];simpa using h2) ⟨.str ⟨#[c]⟩,H,I.tok _,⟨_,rfl⟩,q⟩) hs
theorem FX(lo hi:Option Int)(n:Nat):(sliceBounds lo hi none n).1=((HT.sIx n 0 lo:Nat):Int)/\(sliceBounds lo hi none n).2.1=((HT.sIx n n hi:Nat):Int)/\(sliceBounds lo hi none n).2.2=1:=by
 refine⟨?_,?_,rfl⟩
 ·cases lo with
  |none=>simp[sliceBounds,HT.sIx]
  |some i=>
   simp only[sliceBounds,HT.sIx,LC,show(1:Int)>0 by decide,if_true]
   by_cases h:i<0
   ·simp only[h,if_true]<;>lia
   ·simp only[h,if_false]<;>lia
 ·cases hi with
  |none=>simp[sliceBounds,HT.sIx]
  |some i=>
   simp only[sliceBounds,HT.sIx,LC,show(1:Int)>0 by decide,if_true]
   by_cases h:i<0
   ·simp only[h,if_true]<;>lia
   ·simp only[h,if_false]<;>lia
theorem FY(its:List Value)(lo hi:Option Int):slicePick its.toArray lo hi none=((its.drop (HT.sIx its.length 0 lo)).take (HT.sIx its.length its.length hi-HT.sIx its.length 0 lo)).toArray:=by
 obtain⟨h1,h2,h3⟩:=FX lo hi its.toArray.size
 unfold slicePick
 rw[h1,h2,h3]
 simp only[sliceRange_one,pick_run,bG]<;>rfl
noncomputable def rSlL(K:PySem.W.Frag):V->Option Int->Option Int->Hp->VK->Prop:=λx lo hi H Q=>∃a xs,x=.ref a/\SqL K H a xs/\∀p,H p=none->Q (.ref p) (upd H p (.lst (jJ xs lo hi)))
theorem FZ:SlR X (rSlL X.K):=by
 intro pins s σ H x v vl vu lo hi sl Q I rx hs pl pu h
 obtain⟨a,xs,rfl,hx,q⟩:=h
 cases rx
 obtain⟨its,r,ht,hz⟩:=I.list hx
 have hlen:=r.length
 refine⟨"list", _,slot_list_getitem.lookup,ht.isList.typeIs,?_⟩
 refine wpAny_getItem_list_slice ht.isList hs pl pu .none (by simp) ?_ (by rw[bG]<;>lia)
 rw[FY,<-hlen]
 refine⟨.ref s.heap.objs.size,_,I.laid (t':=s.toks) (o:=.lst (jJ xs lo hi)) (λb ob q=>Heap.get?_push_of_some _ q) (aS _) ?_,rfl,q _ (I.hok.fresh (aS _))⟩
 exact⟨bX (A0 xs lo hi) hz,_,0,(r.drop (HT.sIx xs.length 0 lo)).take (HT.sIx xs.length xs.length hi-HT.sIx xs.length 0 lo),Heap.get?_push_size _ rfl⟩
theorem tY:cZ X (.builtin "len") (λxs H Q=>∃p ys,xs=[.ref p]/\(SqL X.K H p ys\/SqT X.K H p ys)/\Q (.int ys.length) H):=by
 intro pins s σ H xs us Q I r h
 obtain⟨p,ys,rfl,hq,q⟩:=h
 obtain⟨u,rfl,rx⟩:=gH r
 cases rx
 have hn:=lC
 rcases hq with hq|hq
 ·obtain⟨its,r',pl,hz⟩:=I.list hq
  have hlen:=r'.length
  exact Calls.call_len_list pl.isList (by simp only[bG]<;>lia) ⟨.int ys.length,H,I.tok _,⟨s.toks+1,by rw[bG,hlen]⟩,q⟩
 ·obtain⟨its,r',pl,hz⟩:=I.tuple hq
  have hlen:=r'.length
  exact len_tuple pl (by simp only[bG]<;>lia) ⟨.int ys.length,H,I.tok _,⟨s.toks+1,by rw[bG,hlen]⟩,q⟩
theorem F0:cZ X (.builtin "len") (λxs H Q=>∃z,xs=[.str z]/\z.length<=sizeLine/\Q (.int z.length) H):=by
 intro pins s σ H xs us Q I r h
 obtain⟨z,rfl,hz,q⟩:=h
 obtain⟨u,rfl,t,rfl⟩:=gH r
 have hn:=lC
 exact len_str (by lia) ⟨.int z.length,H,I.tok _,⟨_,rfl⟩,q⟩
theorem A2:cZ X (.type "list") (λxs H Q=>∃p ys,xs=[.ref p]/\(SqL X.K H p ys\/SqT X.K H p ys)/\∀l,H l=none->Q (.ref l) (upd H l (.lst ys))):=by
 intro pins s σ H xs us Q I r h
 obtain⟨p,ys,rfl,hq,q⟩:=h
 obtain⟨u,rfl,rx⟩:=gH r
 cases rx
 have fin:∀(its:List Value),Vals ys its->ys.length<=sizeLine->∀(h':Heap)(c':Nat),(∀b o',s.heap.get? b=some o'->h'.get? b=some o') ->
  h'.get? s.heap.objs.size=some {cls:=.type "list", dict:=none,data:=.seq its.toArray c',slots:=#[] }->EP X pins σ Q (.ref s.heap.objs.size) {s with heap:=h' }:=λits r' hz h' c' kp e=>
  ⟨.ref s.heap.objs.size,_,I.laid (t':=s.toks) kp (aS _) (show ObjOk X.prog X.w _ h' _ (.lst ys)from⟨hz,its,c',r',e⟩),rfl,q _ (I.hok.fresh (aS _))⟩
 rcases hq with hq|hq
 ·obtain⟨its,r',pl,hz⟩:=I.list hq
  have hlen:=r'.length
  obtain⟨o,ho,hc,n,hd⟩:=pl.isList
  exact call_list_seq p (.inl rfl) ho hc hd (λh' c' kp e=>fin its r' hz h' c' kp e) (by simp only[bG]<;>lia)
 ·obtain⟨its,r',pl,hz⟩:=I.tuple hq
  have hlen:=r'.length
  obtain⟨o,ho,hc,n,hd⟩:=pl
  exact call_list_seq p (.inr rfl) ho hc hd (λh' c' kp e=>fin its r' hz h' c' kp e) (by simp only[bG]<;>lia)
theorem A3:cZ X (.type "tuple") (λxs H Q=>∃p ys,xs=[.ref p]/\((SqL X.K H p ys/\∀l,H l=none->Q (.ref l) (upd H l (.tup ys)))\/(SqT X.K H p ys/\Q (.ref p) H))):=by
 intro pins s σ H xs us Q I r h
 obtain⟨p,ys,rfl,h⟩:=h
 obtain⟨u,rfl,rx⟩:=gH r
 cases rx
 rcases h with⟨hq,q⟩|⟨hq,q⟩
 ·obtain⟨its,r',pl,hz⟩:=I.list hq
  have hlen:=r'.length
  refine call_tuple_list pl.isList (λh' kp=>?_) (by simp only[bG]<;>lia)
  have I1:Inv X pins σ H {s with heap:=h' }:=I.kept (t':=s.toks) kp
  have I2:Inv X pins σ (upd H h'.objs.size (.tup ys)) {s with heap:=h'.push {cls:=.type "tuple", data:=.seq its.toArray} }:=
   I1.laid (t':=s.toks) (λb o e=>Heap.get?_push_of_some _ e) (aS _) (show ObjOk X.prog X.w _ _ _ (.tup ys)from⟨hz,its,r',IsTup.new _ _⟩)
  exact⟨.ref h'.objs.size,_,I2,rfl,q _ (I1.hok.fresh (aS _))⟩
 ·obtain⟨its,r',pl,hz⟩:=I.tuple hq
  exact call_tuple_same pl ⟨.ref p,H,I,rfl,q⟩
noncomputable def tyV(K:PySem.W.Frag)(T:String)(x:V)(H:Hp):Prop:=match x with
 |.str _=>T = "str"
 |.int _=>T = "int"
 |.ref p=>(T = "list" /\ ∃xs,SqL K H p xs)\/(T = "tuple" /\ ∃o,K.lookup p=some o/\o.cls=.type "tuple" /\ o.dict=none) \/
  (T = "dict" /\ ((∃kvs,H p=some (.dK kvs))\/∃kvs,H p=some (.dT kvs)))\/(T = "set" /\ ∃S n,H p=some (.set S n))
 |_=>False
theorem tyV_is{pins:List (Addr×Obj)}{σ:St}{H:Hp}{s:Shared}{T:String}{x:V}{v:Value}(I:Inv X pins σ H s)(r:RelV x v)(ty:tyV X.K T x H) :
 s.TypeIs v T/\∀a,v=.ref a->∃ob,s.heap.get? a=some ob/\ob.dict=none:=by
 cases x with
 |str z=>
  obtain⟨t,rfl⟩:=r
  cases (show T = "str" from ty)
  exact⟨typeIs_str s z t,λ_ e=>nomatch e⟩
 |int i=>
  obtain⟨t,rfl⟩:=r
  cases (show T = "int" from ty)
  exact⟨typeIs_int s i t,λ_ e=>nomatch e⟩
 |ref p=>
  cases r
  rcases ty with⟨rfl,xs,hq⟩|⟨rfl,o,hk,hc,hd⟩|⟨rfl,hk⟩|⟨rfl,S,n,hk⟩
  ·obtain⟨its,_,pl,_⟩:=I.list hq
   refine⟨pl.isList.typeIs,λa e=>?_⟩
   cases e
   obtain⟨o,n,e,c,hd,_⟩:=pl
   exact⟨o,e,hd⟩
  ·refine⟨⟨o,I.kIn p o hk,hc⟩,λa e=>?_⟩
   cases e
   exact⟨o,I.kIn _ o hk,hd⟩
  ·have z:∃o,s.heap.get? p=some o/\o.ExactDict:=by
    rcases hk with⟨kvs,hk⟩|⟨kvs,hk⟩
    ·obtain⟨_,_,_,_,o,_,_,e,ex,_⟩:=I.hok p _ hk
     exact⟨o,e,ex⟩
    ·obtain⟨_,_,_,_,o,_,_,e,ex,_⟩:=I.hok p _ hk
     exact⟨o,e,ex⟩
   obtain⟨o,e,ex⟩:=z
   refine⟨⟨o,e,ex.1⟩,λa e2=>?_⟩
   cases e2
   exact⟨o,e,ex.2.1⟩
  ·obtain⟨o,_,_,_,e,ex,_⟩:=I.hok p _ hk
   refine⟨⟨o,e,ex.1⟩,λa e2=>?_⟩
   cases e2
   exact⟨o,e,ex.2.1⟩
 |_=>exact False.elim ty
noncomputable def tBM(K:PySem.W.Frag)(T:String)(r:V->List V->Hp->VK->Prop)(to:TE)(t:TA):TE:=λσ H Q=>to σ H λx H1=>tyV K T x H1/\t σ H1 λxs H2=>r x xs H2 Q
variable{o e:Expr}{es:List Expr}{to:TE}{t:TA}{name:Str}{apos cpos:Pos}{T id:String}{r:V->List V->Hp->VK->Prop}
theorem tZ (pa:PlainAttrs T) (slot:Slot T name id) (hty:typeOf (.builtin id)=pure (.type "method_descriptor")) (hm:MtR X id r) (ho:PE X o to) (ha:PA X (e::es) t)
 (hbase:attributeBase o name X.env (eval o X.env)=eval o X.env:=by rfl)
 (hfew:((backTo cpos (starEach (e::es) X.env)).all (λx=>!x.1)&&(backToKw cpos (keywordEach [] X.env)).all (λx=>x.1.isSome)
  && decide ((e::es).length+([]:List Keyword).length+(if([]:List Keyword).isEmpty then 0 else 1)<30))=true:=by rfl)
 (hline:(apos.endLine==cpos.line)=true:=by rfl) (hs:starEach (e::es) X.env=(false,eval e X.env)::starEach es X.env:=by rfl) (hplain:(backTo cpos (starEach es X.env)).any (·.1)=false:=by rfl) :
 PE X (.Call (.Attribute o name apos) (e::es) [] cpos) (tBM X.K T r to t):=by
 intro pins s σ H Q I h
 refine wpAny_Call_method_late hbase hfew hline rfl (thn (ho pins s σ H _ I h) λv s1 ⟨x,H1,I1,r1,ty,q1⟩=>?_)
 obtain⟨h1,h2⟩:=tyV_is I1 r1 ty
 refine⟨T,id,pa,slot,hty,h1,h2,?_⟩
 have hA:=ha cpos pins s1 σ H1 _ I1 q1
 rw[hs]at hA⊢
 refine Calls.callWith_builtin (by show(false||(backTo cpos (starEach es X.env)).any (·.1))=false;rw[hplain]<;>rfl) (Calls.evalArgs_plain ?_)
 exact thn hA λus s2 ⟨vs,H2,I2,r2,q2⟩=>hm pins s2 σ H2 x vs v us Q I2 r1 r2 q2
end
noncomputable def MtM(X:Cx)(id:String)(r:V->List V->Hp->VK->Prop):Prop:=
 ∀(pins:List (Addr×Obj))(s:Shared)(σ:St)(H:Hp)(x:V)(xs:List V)(v:Value)(us:List Value)(Q:VK),Inv X pins σ H s->RelV x v->Vals xs us->r x xs H Q ->
  wpAny (model X.prog X.w) X.A (call (.builtin id) (v::us)) (EP X pins σ Q) X.xe s
theorem Vals.one:∀{x:V} {us:List Value},Vals [x] us->∃u,us=[u]/\RelV x u
 |_,_,.cons r .nil=>⟨_,rfl,r⟩
theorem Vals.rep{xs:List V}{us:List Value}(h:Vals xs us):∀k:Nat,Vals (aU k xs).flatten (aU k us).flatten
 |0=>.nil
 |k+1=>by
  rw[mC,mC,oT,oT]
  exact Vals.append h (Vals.rep h k)
theorem A4(its:List Value):∀(k:Nat)(acc:List Value),
 List.foldl (λx1 x2=>x1++x2) acc.toArray (aU k its.toArray)=(acc++(aU k its).flatten).toArray
 |0,acc=>by simp
 |k+1,acc=>by
  have e:acc.toArray++its.toArray=(acc++its).toArray:=by simp
  have e2:(acc++its)++(aU k its).flatten=acc++(aU (k+1) its).flatten:=by
   rw[mC,oT,oU]
  rw[<-e2,<-A4 its k (acc++its),<-e,mC,LD]
section
variable{X:Cx}{pins:List (Addr×Obj)}{σ:St}{H:Hp}{s:Shared}{l b:Addr}{xs ys zs:List V}
theorem Inv.lset{its its':List Value}{n:Nat}{f:Array Value->Array Value}{t':Nat}(I:Inv X pins σ H s)(hH:H l=some (.lst xs))
 (e:s.heap.get? l=some {cls:=.type "list", data:=.seq its.toArray n}) (hf:f its.toArray=its'.toArray) (hv:Vals ys its') (hz:ys.length<=sizeLine) :
 Inv X pins σ (upd H l (.lst ys)) {s with heap:=s.heap.update l (Obj.mapSeq f),toks:=t' }:=by
 have q:=PySem.IsL.update e f
 rw[hf]at q
 refine I.write (x:=l) (e:=l) (by rw[hH];exact trivial) (.inl rfl) (λb' u hb hu=>(Heap.get?_update_other s.heap (Obj.mapSeq f) (Ne.symm hb)).trans hu) ⟨_,q⟩ ?_
 exact⟨hz,its',_,hv,q⟩
theorem Inv.lnew{its:List Value}{t':Nat}(I:Inv X pins σ H s)(hv:Vals ys its)(hz:ys.length<=sizeLine) :
 Inv X pins σ (upd H s.heap.objs.size (.lst ys)) {s with heap:=s.heap.push {cls:=.type "list", data:=.seq its.toArray},toks:=t' }:=
 I.laid (λ_ _ q=>Heap.get?_push_of_some _ q) (aS _) ⟨hz,its,0,hv,Heap.get?_push_size _ rfl⟩
theorem Inv.fresh(I:Inv X pins σ H s):H s.heap.objs.size=none:=I.hok.fresh (aS _)
theorem Inv.lstM (I:Inv X pins σ H s) (hH:H l=some (.lst xs)):xs.length<=sizeLine/\∃(its:List Value) (n:Nat),Vals xs its/\xs.length=its.length/\s.heap.get? l=some {cls:=.type "list", data:=.seq its.toArray n}:=by
 obtain⟨z,its,n,r,e⟩:=I.hok l _ hH
 exact⟨z,its,n,r,r.length,e⟩
theorem F3{n:Nat}(h:n<=sizeLine):Builtin.List.listTooLong n=false:=by
 unfold Builtin.List.listTooLong
 exact decide_eq_false (by lia)
end
section
variable{X:Cx}
noncomputable def F9:V->List V->Hp->VK->Prop:=λx vs H Q=>∃l xs y,x=.ref l/\vs=[y]/\H l=some (.lst xs)/\xs.length<sizeLine/\Q .non (upd H l (.lst (xs++[y])))
theorem A5:MtM X "list.append" F9:=by
 intro pins s σ H x vs v us Q I rx rv h
 obtain⟨l,xs,y,rfl,rfl,hH,hz,q⟩:=h
 cases rx
 obtain⟨u,rfl,ru⟩:=rv.one
 obtain⟨z,its,n,r,hl,e⟩:=I.lstM hH
 refine call_meets F.slot_list_append ⟨_,e,rfl⟩ F.entry_list_append (F.args_list_append_2 _ _) (PySem.list_append l its.toArray n u (by rw[bG];lia)) ⟨e,?_⟩
 refine⟨.non,_,I.lset (its':=its++[u]) hH e (by simp) (r.append (.cons ru .nil)) ?_,rfl,q⟩
 rw[cD,kW]
 lia
noncomputable def F_:V->List V->Hp->VK->Prop:=λx vs H Q=>∃l b xs zs,x=.ref l/\vs=[.ref b]/\H l=some (.lst xs)/\H b=some (.lst zs)/\xs.length+zs.length<=sizeLine/\Q .non (upd H l (.lst (xs++zs)))
theorem A6:MtM X "list.extend" F_:=by
 intro pins s σ H x vs v us Q I rx rv h
 obtain⟨l,b,xs,zs,rfl,rfl,hH,hB,hz,q⟩:=h
 cases rx
 obtain⟨u,rfl,ru⟩:=rv.one
 cases ru
 obtain⟨z,its,n,r,hl,e⟩:=I.lstM hH
 obtain⟨z2,its2,n2,r2,hl2,e2⟩:=I.lstM hB
 have hsz:its.toArray.size+its2.toArray.size<=sizeLine:=by rw[bG,bG];lia
 have hlong:¬(!its.toArray.isEmpty&&Builtin.List.listTooLong (its.toArray.size+its2.toArray.size))=true:=by
  rw[F3 hsz,LF]
  exact aO
 refine call_meets F.slot_list_extend ⟨_,e,rfl⟩ F.entry_list_extend (F.args_list_extend_2 _ _)
  (AutoSeq1.list_extend_list_list_0 l its.toArray n b its2.toArray n2 hlong (by rw[bG];lia) (by lia)) ⟨e,e2,?_⟩
 refine⟨.non,_,I.lset (its':=its++its2) hH e (by simp) (r.append r2) ?_,rfl,q⟩
 rw[cD]
 lia
theorem Fb{α:Type}(xs:List α)(k:Nat):(aU k xs).flatten.length=k*xs.length:=by
 induction k with
 |zero=>simp
 |succ k ih=>rw[mC,oT,cD,ih,Nat.succ_mul,Nat.add_comm]
end
end L2
namespace Att
open PySem PySem.W PySem.Calls PyProof.Rows
theorem Fd{P:Params}{h:Heap}:∀(ns:List Int)(vs:List Value),WellAll P h vs (ns.map WData.int)->IntsAre vs ns:=by
 intro ns
 induction ns with
 |nil=>
  intro vs w
  rw[lZ]at w
  cases w
  exact .nil
 |cons n ns ih=>
  intro vs w
  rw[aK]at w
  cases w with
  |cons a b=>
   cases a
   exact .cons _ _ (ih _ b)
theorem Fe{l:OpenLaw}{n:Nat}(hn:l.most=some n){P:Params}{h:Heap}{args:List WData}{vals:List Value}
 (hpre:l.row.toRowW.claim.pre args=true) (hwl:WellAll P h vals args) :
 ∃a vs ns,vals=[Value.ref a]/\args=[WData.list (ns.map WData.int)]/\h.get? a=some {cls:=.type "list", data:=.seq vs.toArray}/\IntsAre vs ns/\ns.length<=n:=by
 have hsh:WShape.hasAll [] args [.list .int]=true:=(pre_splitW hpre).1
 have hc:l.pre.holds [] {args:=args}=true:=(pre_splitW hpre).2
 obtain⟨d,r,rfl,h1,h2⟩:=hasAllW_cons hsh
 obtain rfl:=hasAllW_nil h2
 obtain⟨xs,rfl,h3⟩:=hasW_list h1
 obtain⟨ns,rfl⟩:=items_int h3
 have hlen:ns.length<=n:=by
  unfold OpenLaw.pre at hc
  have h4:(WTm.not (.lt (.lit (.int (n:Int))) (.len (.arg 0)))).holds [] {args:=[.list (ns.map .int)] }=true:=by
   have h4:=(holds_andW hc).1
   rw[hn]at h4
   exact h4
  have h5:=condW_of h4 (w_not (w_lt w_lit (w_len_list (w_arg rfl))))
  rw[aE]at h5
  refine Nat.le_of_not_lt λq=>?_
  have q':(n:Int)<((ns.length:Nat):Int):=by lia
  first
   |(rw[decide_eq_true q']at h5;exact absurd h5 (by decide))
   |(simp at h5;lia)
 cases hwl with
 |cons w1 w2=>
  cases w2
  cases w1 with
  |list ho hall=>exact⟨_,_,ns,rfl,rfl,ho,Fd ns _ hall,hlen⟩
theorem Ff(l:OpenLaw)(args:List WData):l.row.toRowW.claim.post args (.bool true) args=true:=
 postW_of (r:=l.row.toRowW) (X:=(true==true))
  (show WShape.has [] (.bool true) .bool=true by first|rfl|decide|simp[WShape.has,WShape.arms,WShape.armsAll])
  (show(WTm.eq .res (.lit (.bool true))).value [] {args:=args,res:=some (.bool true),after:=args}=some (.bool (true==true))from w_eq_bool (w_res rfl) w_lit) rfl
theorem attach_call{l:OpenLaw}{n:Nat}{q:Program}{loose:List Str}{XP:(Str->Option Value)->Heap->Prop}{YP:World->Heap->Prop}{d:DefRec}
 (hn:l.most=some n) (hdf:d.params.defaults=[])
 (call:∀(w:World)(s₀ s₁:Shared)(mg mb:Str->Option Value)(fa:Addr)(o:Obj)(pm cd doc:Value)(a:Addr)(vs:List Value)(ns:List Int),
  Ground q loose [] XP w s₀ mg mb s₁.heap->YP w s₁.heap ->
  s₁.heap.get? fa=some o->o.data=.func (docDef d.name d.params d.body d.scope pm cd doc)->s₁.heap.CodeRec cd d.name->mg d.name=some (.ref fa) ->
  s₁.heap.get? a=some {cls:=.type "list", data:=.seq vs.toArray}->IntsAre vs ns->ns.length<=n->s₁.gens=#[] ->
  codeAny (model l.prog w) callerA (.call (.ref fa) ⟨[.ref a],[]⟩) (λr s'=>r=.ok (.ret (.bool true))/\OldK s₁.heap s'.heap/\s'.os=s₁.os/\AllBare s'.gens) s₁) :
 WalkO q loose XP YP l.row.toRowW d [] (λf vs=>PySem.call f vs):=by
 intro w s₀ s₁ mg mb G Y fa o pm cd doc dV kV ho hd hcd hD hmg hg args vals as hpre hlay hrd hwl hlo
 obtain rfl:dV=.none:=Dflts.none hD hdf
 obtain rfl:kV=.none:=Dflts.noKw hD
 obtain⟨a,vs,ns,rfl,rfl,hobj,hints,hlen⟩:=Fe hn hpre hwl
 refine enter_call (codeAny_mono (call w s₀ s₁ mg mb fa o pm cd doc a vs ns G Y ho (fd_plain hd) hcd hmg hobj hints hlen hg) λr s' hq=>?_)
 obtain⟨rfl,h2,h3,h4⟩:=hq
 exact⟨.inl ⟨.bool true,.bool true,[],rfl,λ_=>rfl,.bool true,Ff l _,λ_=>⟨E_.nil,λ_ hm=>(nomatch hm)⟩⟩,h2,h3,h4⟩
end Att
namespace L2
open PySem PySem.Spec PyProof.Rows
theorem vals_ints:∀{vs:List Value} {ns:List Int},IntsAre vs ns->Vals (ns.map V.int) vs
 |_,_,.nil=>.nil
 |_,_,.cons n t h=>.cons ⟨t,rfl⟩ (vals_ints h)
noncomputable def kE(s:Stmt):Arguments:=match s with
 |.FunctionDef _ a _ _ _ _ _ _ _ _=>a
 |_=>{posonlyargs:=[],args:=[],vararg:=none,kwonlyargs:=[],kw_defaults:=[],kwarg:=none,defaults:=[] }
noncomputable def eQ(s:Stmt):List Stmt:=match s with
 |.FunctionDef _ _ b _ _ _ _ _ _ _=>b
 |_=>[]
noncomputable def dE(s:Stmt):Scope:=match s with
 |.FunctionDef _ _ _ _ _ _ sc _ _ _=>sc
 |_=>{kind:=.function,names:=[],isGenerator:=false,isCoroutine:=false}
noncomputable abbrev CX0:CXT:=λ_ _ _ _ _ _=>False
noncomputable abbrev E0:XK:=λ_ _ _=>False
set_option genInjectivity false in
structure Fun(K:PySem.W.Frag)(x qual:Str)(st:Stmt)(f:Addr)(fd:FuncData):Prop where
 ex:∃(oc:Value)(od:Option Addr)(kV doc pm:Value)(an:Option Addr)(cdv ct:Value)(osl:Array (Option Value)),
  fd=PySem.W.fnOf x qual (kE st) (eQ st) (dE st) .none kV doc pm an cdv ct/\K.lookup f=some ⟨oc,od,.func fd,osl⟩/\PySem.W.codeIn K cdv qual=true
 kp:PySem.W.keepIn K (.ref f)=true
section
variable{P:Program}{w:World}{K:PySem.W.Frag}{mg:Str->Option Value}{base:Heap}
theorem Fun.binds{x qual:Str}{st:Stmt}{f:Addr}{fd:FuncData}{ps:List Str}(F:Fun K x qual st f fd)
 (h:∀(kV doc pm:Value)(an:Option Addr)(cdv ct:Value)(us:List Value),us.length=ps.length->bindArgs (PySem.W.fnOf x qual (kE st) (eQ st) (dE st) .none kV doc pm an cdv ct) ⟨us,[]⟩=pure (ps.zip us)):Binds K fd ps []:=by
 obtain⟨oc,od,kV,doc,pm,an,cdv,ct,osl,rfl,lk,hcd⟩:=F.ex
 exact .all (h kV doc pm an cdv ct)
theorem A7{x qual:Str}{st:Stmt}{f:Addr}{oc:Value}{od an:Option Addr}{osl:Array (Option Value)}{kV doc pm cdv ct:Value}(l:K.lookup f=some ⟨oc,od,.func (PySem.W.fnOf x qual (kE st) (eQ st) (dE st) .none kV doc pm an cdv ct),osl⟩)
 (c:PySem.W.codeIn K cdv qual=true) (k:PySem.W.keepIn K (.ref f)=true):Fun K x qual st f (PySem.W.fnOf x qual (kE st) (eQ st) (dE st) .none kV doc pm an cdv ct):=⟨⟨oc,od,kV,doc,pm,an,cdv,ct,osl,rfl,l,c⟩,k⟩
end
theorem Fg{n:Nat}(h:n<=1000):n<sizeLine:=Nat.lt_of_le_of_lt h (by decide)
noncomputable def Same(H H':Hp):Prop:=∀b o,H b=some o->H' b=some o
theorem Same.refl(H:Hp):Same H H:=λ_ _ h=>h
theorem Same.trans{H H1 H2:Hp}(a:Same H H1)(b:Same H1 H2):Same H H2:=λc o h=>b c o (a c o h)
theorem Same.free{H H':Hp}(e:Same H H'){l:Addr}(h:H' l=Option.none):H l=Option.none:=by
 cases q:H l with
 |none=>rfl
 |some o=>
  rw[e l o q]at h
  cases h
theorem Same.seq{K:PySem.W.Frag}{H H':Hp}{a:Addr}{xs:List V}(e:Same H H')(h:SqL K H a xs):SqL K H' a xs:=by
 rcases h with(h|⟨o,h⟩)|h
 ·exact .inl (.inl (e _ _ h))
 ·exact .inl (.inr ⟨o,e _ _ h⟩)
 ·exact .inr h
end L2
set_option maxRecDepth 100000
namespace L2
open PySem PySem.Spec PyProof.Rows
section
variable{κ:Type}[DecidableEq κ]
noncomputable def eR(kvs:List (κ×V))(k:κ):Option V:=(kvs.find? λkv=>decide (kv.1=k)).map (·.2)
noncomputable def dF(kvs:List (κ×V))(k:κ)(v:V):List (κ×V):=
 if(kvs.any λkv=>decide (kv.1=k))=true then kvs.map (λkv=>if kv.1=k then(kv.1,v)else kv)else kvs++[(k,v)]
theorem mQ{p:κ×V}{r:List (κ×V)}{k:κ}(e:p.1=k):eR (p::r) k=some p.2:=by simp[eR,cH,e]
theorem mR{p:κ×V}{r:List (κ×V)}{k:κ}(e:¬p.1=k):eR (p::r) k=eR r k:=by simp[eR,cH,e]
theorem A8(k:κ):∀kvs:List (κ×V),(kvs.any λkv=>decide (kv.1=k))=(eR kvs k).isSome
 |[]=>rfl
 |p::r=>by
  rw[kA]
  by_cases e:p.1=k
  ·simp only[mQ e,decide_eq_true e,Bool.true_or,Option.isSome_some]
  ·rw[mR e,decide_eq_false e,oV];exact A8 k r
theorem A9(kvs:List (κ×V))(k:κ)(v:V):(dF kvs k v).length<=kvs.length+1:=by
 unfold dF
 split
 ·rw[aE];lia
 ·rw[cD,aW,oW];lia
theorem RelO.isSome_eq{o:Option V}{u:Option Value}(r:RelO o u):o.isSome=u.isSome:=by
 cases o with
 |none=>cases u with
  |none=>rfl
  |some _=>exact(show False from r).elim
 |some _=>cases u with
  |none=>exact(show False from r).elim
  |some _=>rfl
theorem KV.val{kvs:List (κ×V)}{vs:List (κ×Value)}(r:KV kvs vs)(k:κ):RelO (eR kvs k) (valueAt vs k):=by
 unfold KV at r
 induction r with
 |nil=>exact True.intro
 | @cons p q ps qs h t ih=>
  obtain⟨h1,h2⟩:=h
  by_cases e:p.1=k
  ·have e':q.1=k:=h1.symm.trans e
   have b:valueAt (q::qs) k=some q.2:=by simp[valueAt,cH,e']
   rw[mQ e,b];exact h2
  ·have e':¬q.1=k:=λz=>e (h1.trans z)
   have b:valueAt (q::qs) k=valueAt qs k:=by simp[valueAt,cH,e']
   rw[mR e,b];exact ih
theorem KV.any{kvs:List (κ×V)}{vs:List (κ×Value)}(r:KV kvs vs)(k:κ):(kvs.any λkv=>decide (kv.1=k))=vs.any λkv=>decide (kv.1=k):=by
 unfold KV at r
 induction r with
 |nil=>rfl
 |cons h t ih=>rw[kA,kA,ih,h.1]
theorem KV.repl{kvs:List (κ×V)}{vs:List (κ×Value)}(r:KV kvs vs)(k:κ){y:V}{u:Value}(ry:RelV y u) :
 KV (kvs.map λkv=>if kv.1=k then(kv.1,y)else kv) (vs.map λkv=>if kv.1=k then(kv.1,u)else kv):=by
 unfold KV at r⊢
 induction r with
 |nil=>exact .nil
 | @cons p q ps qs h t ih=>
  rw[aK,aK]
  refine .cons ?_ ih
  obtain⟨h1,h2⟩:=h
  by_cases e:p.1=k
  ·rw[if_pos e,if_pos (h1.symm.trans e)];exact⟨h1,ry⟩
  ·rw[if_neg e,if_neg (λz=>e (h1.trans z))];exact⟨h1,h2⟩
theorem KV.put{kvs:List (κ×V)}{vs:List (κ×Value)}(r:KV kvs vs)(k:κ){y:V}{u:Value}(ry:RelV y u):KV (dF kvs k y) (stored vs k u):=by
 unfold dF stored
 rw[r.any k]
 by_cases e:(vs.any λkv=>decide (kv.1=k))=true
 ·rw[if_pos e,if_pos e];exact r.repl k ry
 ·rw[if_neg e,if_neg e];exact Paired.snoc r ⟨rfl,ry⟩
theorem KV.keys{kvs:List (κ×V)}{vs:List (κ×Value)}(r:KV kvs vs):kvs.map (·.1)=vs.map (·.1):=by
 unfold KV at r
 induction r with
 |nil=>rfl
 |cons h t ih=>rw[aK,aK,ih,h.1]
theorem KV.length{kvs:List (κ×V)}{vs:List (κ×Value)}(r:KV kvs vs):kvs.length=vs.length:=Paired.length r
end
theorem kV_is{P:Program}{w:World}{k:Key}{u:Value}(r:RelV (kV k) u):(bW P w).is k u=true:=by
 cases k with
 |inl i=>obtain⟨t,e⟩:=(show ∃t,u=Value.int i t from r);subst e;exact Ek P w i t
 |inr x=>obtain⟨t,e⟩:=(show ∃t,u=Value.str x t from r);subst e;exact El P w x t
theorem A_{P:Program}{w:World}:∀{ks:List Key} {us:List Value},Vals (ks.map kV) us->ItemsAre (bW P w) ks us
 |[],_,r=>by rw[lZ]at r;cases r;exact .nil
 |k::ks,_,r=>by
  rw[aK]at r
  cases r with
  |cons h t=>exact .cons (kV_is h) (A_ t)
noncomputable abbrev KT(H:Hp):List (List Key×V)->List (List Key×Addr×Value)->Prop:=Paired λp q=>p.1=q.1/\H q.2.1=some (.tup (p.1.map kV))/\RelV p.2 q.2.2
theorem KT.val{H:Hp}{kvs:List (List Key×V)}{xs:List (List Key×Addr×Value)}(r:KT H kvs xs)(k:List Key):RelO (eR kvs k) ((atKey xs k).map (·.2)):=by
 induction r with
 |nil=>exact True.intro
 | @cons p q ps qs h t ih=>
  obtain⟨h1,_,h2⟩:=h
  by_cases e:p.1=k
  ·have e':q.1=k:=h1.symm.trans e
   have b:atKey (q::qs) k=some q.2:=by simp[atKey,cH,e']
   rw[mQ e,b];exact h2
  ·have e':¬q.1=k:=λz=>e (h1.trans z)
   have b:atKey (q::qs) k=atKey qs k:=by simp[atKey,cH,e']
   rw[mR e,b];exact ih
theorem KT.repl{H:Hp}{kvs:List (List Key×V)}{xs:List (List Key×Addr×Value)}(r:KT H kvs xs)(k:List Key){y:V}{u:Value}(ry:RelV y u) :
 KT H (kvs.map λkv=>if kv.1=k then(kv.1,y)else kv) (xs.map (putAt k u)):=by
 induction r with
 |nil=>exact .nil
 | @cons p q ps qs h t ih=>
  rw[aK,aK]
  refine .cons ?_ ih
  obtain⟨h1,h2,h3⟩:=h
  unfold putAt
  by_cases e:p.1=k
  ·rw[if_pos e,if_pos (h1.symm.trans e)];exact⟨h1,h2,ry⟩
  ·rw[if_neg e,if_neg (λz=>e (h1.trans z))];exact⟨h1,h2,h3⟩
theorem KT.put{H:Hp}{kvs:List (List Key×V)}{xs:List (List Key×Addr×Value)}(r:KT H kvs xs)(k:List Key){b:Addr}{y:V}{u:Value}(hb:H b=some (.tup (k.map kV)))(ry:RelV y u) :
 KT H (dF kvs k y) (storedH xs k b u):=by
 have e:(kvs.any λkv=>decide (kv.1=k))=(atKey xs k).isSome:=by
  rw[A8,(r.val k).isSome_eq,Ea]
 unfold dF storedH
 rw[e]
 by_cases q:(atKey xs k).isSome=true
 ·rw[if_pos q,if_pos q];exact r.repl k ry
 ·rw[if_neg q,if_neg q];exact Paired.snoc r ⟨rfl,hb,ry⟩
theorem KT.keeps{H H':Hp}{kvs:List (List Key×V)}{xs:List (List Key×Addr×Value)}(r:KT H kvs xs)(ht:∀b ys,H b=some (.tup ys)->H' b=some (.tup ys)):KT H' kvs xs:=
 Paired.mapP r λ_ _ z=>⟨z.1,ht _ _ z.2.1,z.2.2⟩
section
variable{P:Program}{w:World}{H:Hp}{h:Heap}{a:Addr}
theorem mT{u:HO}(ok:HOk P w H h)(e:Rd H a u):ObjOk P w H h a u:=e.ok ok
theorem lD{kvs:List (Key×V)}(ok:HOk P w H h)(e:Rd H a (.dK kvs)):kvs.length<=sizeLine/\(a==sysModules)=false/\∃vs,KV kvs vs/\h.DictOf (bW P w) a vs:=
 show ObjOk P w H h a (.dK kvs)from mT ok e
theorem dk_of{kvs:List (Key×V)}(ok:HOk P w H h)(e:H a=some (.dK kvs)):kvs.length<=sizeLine/\(a==sysModules)=false/\∃vs,KV kvs vs/\h.DictOf (bW P w) a vs:=lD ok (.inl e)
theorem key_of{ks:List Key}(ok:HOk P w H h)(e:H a=some (.tup (ks.map kV))):(tupleKind (bW P w)).is h ks a:=by
 obtain⟨_,its,r,o,h1,h2,n,h3⟩:=(show ObjOk P w H h a (.tup (ks.map kV))from ok a _ e)
 exact⟨o,its.toArray,n,h1,h2,h3,by simpa using A_ r⟩
theorem mU{kvs:List (List Key×V)}(ok:HOk P w H h)(e:Rd H a (.dT kvs)):kvs.length<=sizeLine/\(a==sysModules)=false /\
 ∃xs,KT H kvs xs/\h.DictOfH (tupleKind (bW P w)) a xs:=by
 obtain⟨z,y,xs,r,o,es,ep,h1,h2,h3,h4,h5⟩:=(show ObjOk P w H h a (.dT kvs)from mT ok e)
 refine⟨z,y,xs,r,o,es,ep,h1,h2,h3,h4,λx hx=>?_,h5⟩
 have all:∀{l:List (List Key×V)} {m:List (List Key×Addr×Value)},KT H l m->∀x∈m,(tupleKind (bW P w)).is h x.1 x.2.1:=by
  intro l m q
  induction q with
  |nil=>intro x hx;exact nomatch hx
  | @cons p q ps qs hq t ih=>
   intro x hx
   rcases aV.mp hx with e|hx
   ·subst e
    exact key_of ok (by rw[<-hq.1];exact hq.2.1)
   ·exact ih x hx
 exact all r x hx
theorem dt_of{kvs:List (List Key×V)}(ok:HOk P w H h)(e:H a=some (.dT kvs)):kvs.length<=sizeLine/\(a==sysModules)=false /\
 ∃xs,KT H kvs xs/\h.DictOfH (tupleKind (bW P w)) a xs:=mU ok (.inl e)
end
noncomputable def kF(H:Hp)(a:Addr)(y:V)(r:Option V):Prop:=
 (∃kvs k,Rd H a (.dK kvs)/\y=kV k/\r=eR kvs k)\/∃kvs k b,Rd H a (.dT kvs)/\y=.ref b/\H b=some (.tup (k.map kV))/\r=eR kvs k
noncomputable def DPut(H:Hp)(a:Addr)(y v:V)(H':Hp):Prop:=
 (∃kvs k,H a=some (.dK kvs)/\y=kV k/\kvs.length<sizeLine/\H'=upd H a (.dK (dF kvs k v))) \/
 ∃kvs k b,H a=some (.dT kvs)/\y=.ref b/\H b=some (.tup (k.map kV))/\kvs.length<sizeLine/\H'=upd H a (.dT (dF kvs k v))
theorem DPut.k{H:Hp}{a:Addr}{kvs:List (Key×V)}{k:Key}{v:V}(e:H a=some (.dK kvs))(hl:kvs.length<sizeLine):DPut H a (kV k) v (upd H a (.dK (dF kvs k v))):=.inl ⟨kvs,k,e,rfl,hl,rfl⟩
section
variable{X:Cx}{pins:List (Addr×Obj)}{σ:St}{H:Hp}{s:Shared}{a:Addr}{y v:V}{u r:Value}{o:Option V}{A:Around}{E:Value->Shared->Prop}
theorem Inv.big(I:Inv X pins σ H s):sysModules<s.heap.objs.size:=by
 have h:mainGlobals<s.heap.objs.size:=(I.mod.glob.keeps I.bk).lt
 exact kX (by decide) h
theorem Fh{Q:Value->Shared->Prop}(hu:A.units+1<cLine)(I:Inv X pins σ H s)(g:kF H a y (some v))(ry:RelV y u)(h:∀w' s',Inv X pins σ H s'->RelV v w'->Q w' s') :
 wpAny (model X.prog X.w) A (getItem (.ref a) u) Q E s:=by
 rcases g with⟨kvs,k,e,ey,l⟩|⟨kvs,k,b,e,ey,eb,l⟩
 ·subst ey
  obtain⟨z,hd,vs,rel,dd⟩:=lD I.hok e
  obtain⟨w',hw,rw'⟩:=RelO.some_of (v:=v) (o:=valueAt vs k) (by rw[l];exact rel.val k)
  exact wpAny_getItem_of (kV_is ry) dd.mapOf hw (h w' _ (I.tok _) rw')
 ·subst ey
  cases (show u=Value.ref b from ry)
  obtain⟨z,hd,xs,rel,dd⟩:=mU I.hok e
  obtain⟨w',hw,rw'⟩:=RelO.some_of (v:=v) (o:=(atKey xs k).map (·.2)) (by rw[l];exact rel.val k)
  obtain⟨p,hp,hp2⟩:=LG.mp hw
  refine wpAny_getItem_heap (tupleKind_room_in1 hu) (key_of I.hok eb) dd hp ?_
  rw[hp2]
  exact h w' _ (I.tok _) rw'
theorem d_in{Q:Value->Shared->Prop}(hu:A.units+1<cLine)(I:Inv X pins σ H s)(g:kF H a y o)(ry:RelV y u)(h:∀s',Inv X pins σ H s'->Q (.bool o.isSome) s') :
 wpAny (model X.prog X.w) A (compareOp .In u (.ref a)) Q E s:=by
 rcases g with⟨kvs,k,e,ey,l⟩|⟨kvs,k,b,e,ey,eb,l⟩
 ·subst ey
  obtain⟨z,hd,vs,rel,dd⟩:=lD I.hok e
  refine wpAny_in_of (kV_is ry) hd dd.mapOf ?_
  rw[<-(rel.val k).isSome_eq,<-l]
  exact h _ (I.tok _)
 ·subst ey
  cases (show u=Value.ref b from ry)
  obtain⟨z,hd,xs,rel,dd⟩:=mU I.hok e
  refine wpAny_in_heap (tupleKind_room_in1 hu) (key_of I.hok eb) hd dd ?_
  have q:=(rel.val k).isSome_eq
  rw[Ea]at q
  rw[<-q,<-l]
  exact h _ (I.tok _)
theorem Aa{Q:Value->Shared->Prop}(hu:A.units+1<cLine)(I:Inv X pins σ H s)(g:kF H a y o)(ry:RelV y u)(h:∀s',Inv X pins σ H s'->Q (.bool (!o.isSome)) s') :
 wpAny (model X.prog X.w) A (compareOp .NotIn u (.ref a)) Q E s:=by
 rcases g with⟨kvs,k,e,ey,l⟩|⟨kvs,k,b,e,ey,eb,l⟩
 ·subst ey
  obtain⟨z,hd,vs,rel,dd⟩:=lD I.hok e
  refine wpAny_notIn_of (kV_is ry) hd dd.mapOf ?_
  rw[<-(rel.val k).isSome_eq,<-l]
  exact h _ (I.tok _)
 ·subst ey
  cases (show u=Value.ref b from ry)
  obtain⟨z,hd,xs,rel,dd⟩:=mU I.hok e
  refine wpAny_notIn_heap (tupleKind_room_in1 hu) (key_of I.hok eb) hd dd ?_
  have q:=(rel.val k).isSome_eq
  rw[Ea]at q
  rw[<-q,<-l]
  exact h _ (I.tok _)
theorem Ab{h':Heap}{t':Nat}{ob:HO}(I:Inv X pins σ H s)(mu:Mut (H a))(hs:Heap.SameBut a s.heap h')(he:∃q,h'.get? a=some q)(new:ObjOk X.prog X.w (upd H a ob) h' a ob) :
 Inv X pins σ (upd H a ob) {s with heap:=h',toks:=t' }:=
 I.write (x:=a) (e:=a) mu (.inl rfl) (λb q hb z=>(hs.2 b hb).trans z) he new
theorem dk_new{P:Program}{w:World}{H':Hp}{h':Heap}{kvs:List (Key×V)}{vs:List (Key×Value)}(z:kvs.length<=sizeLine)(hd:(a==sysModules)=false)(rel:KV kvs vs)(dd:h'.DictOf (bW P w) a vs) :
 ObjOk P w H' h' a (.dK kvs):=⟨z,hd,vs,rel,dd⟩
theorem Fj{H':Hp}{Q:Unit->Shared->Prop}(hu:A.units+1<cLine)(I:Inv X pins σ H s)(g:DPut H a y v H')(ry:RelV y u)(rv:RelV v r)(h:∀s',Inv X pins σ H' s'->Q () s') :
 wpAny (model X.prog X.w) A (setItem (.ref a) u r) Q E s:=by
 rcases g with⟨kvs,k,e,ey,l,eH⟩|⟨kvs,k,b,e,ey,eb,l,eH⟩
 ·subst ey eH
  obtain⟨z,hd,vs,rel,dd⟩:=dk_of I.hok e
  have hz:vs.length<=sizeLine:=by rw[<-rel.length];exact z
  have hl:(dF kvs k v).length<=sizeLine:=by have:=A9 kvs k v;lia
  refine wpAny_setItem_pairs (hsz:=hz) (kV_is ry) dd λh' dd' hs=>h _ ?_
  have he:∃q,h'.get? a=some q:=let ⟨q,_,_,hq,_⟩:=dd';⟨q,hq⟩
  exact Ab I (by rw[e];exact True.intro) hs he (dk_new hl hd (rel.put k rv) dd')
 ·subst ey eH
  cases (show u=Value.ref b from ry)
  obtain⟨z,hd,xs,rel,dd⟩:=dt_of I.hok e
  have hz:xs.length<=sizeLine:=by rw[<-Paired.length rel];exact z
  have hl:(dF kvs k v).length<=sizeLine:=by have:=A9 kvs k v;lia
  refine wpAny_setItem_heap (hsz:=hz) (tupleKind_room_in1 hu) (key_of I.hok eb) dd λh' dd' hs=>h _ ?_
  obtain⟨q,es,ep,hq,h2,h3,h4,_,h5⟩:=dd'
  refine Ab I (by rw[e];exact True.intro) hs ⟨q,hq⟩ ⟨hl,hd,_,(rel.put k eb rv).keeps λc ys ec=>?_,q,es,ep,hq,h2,h3,h4,h5⟩
  rw[aH (pC ec e (λz=>nomatch z))]
  exact ec
end
section
variable{X:Cx}{pins:List (Addr×Obj)}{σ:St}{H:Hp}{s:Shared}{a:Addr}{kvs:List (Key×V)}{k:Key}{u:Value}{A:Around}{E:Value->Shared->Prop}
theorem d_len {Q:Value->Shared->Prop} (I:Inv X pins σ H s) (e:Rd H a (.dK kvs)) (h:∀t s',Inv X pins σ H s'->Q (.int kvs.length t) s'):wpAny (model X.prog X.w) A (call (.builtin "len") [.ref a]) Q E s:=by
 obtain⟨z,hd,vs,rel,dd⟩:=lD I.hok e
 refine call_len_dict hd dd (by rw[<-rel.length];rw[sizeLine_eq]at z;lia) ?_
 rw[<-rel.length]
 exact h _ _ (I.tok _)
end
theorem Fl {X:Cx} {pins:List (Addr×Obj)} {σ:St} {H:Hp} {s:Shared} {a:Addr} {y:V} {o:Option V} (I:Inv X pins σ H s) (g:kF H a y o):s.TypeIs (.ref a) "dict" := by
 rcases g with⟨kvs,k,e,_,_⟩|⟨kvs,k,b,e,_,_,_⟩
 ·obtain⟨_,_,vs,_,dd⟩:=lD I.hok e
  exact dd.typeIs
 ·obtain⟨_,_,xs,_,dd⟩:=mU I.hok e
  exact dd.typeIs
noncomputable def sDPut(td ty tv:TE):TS:=λD σ H=>tv σ H λv H1=>td σ H1 λx H2=>ty σ H2 λy H3=>∃a H4,x=.ref a/\DPut H3 a y v H4/\D.nx σ H4
section
variable{X:Cx}{o i e value:Expr}{pos pos' tpos:Pos}{td ty tv:TE}
theorem Fo(hu:X.A.units+1<cLine)(ho:PE X o td)(hi:PE X i ty)(hv:PE X value tv)(hs:swapsWith value (some (.Subscript o i pos')) pos.line X.env=pure false) :
 PS X (.Assign [.Subscript o i pos'] value pos) (sDPut td ty tv):=by
 intro pins s σ H D I h
 refine wpAny_Assign_Subscript (thn (hv pins s σ H _ I h) λr s1 ⟨v,H1,I1,rv,q1⟩=>thn (ho pins s1 σ H1 _ I1 q1) λu s2 ⟨x,H2,I2,rx,q2⟩=>thn (hi pins s2 σ H2 _ I2 q2) λiv s3 ⟨y,H3,I3,ry,a,H4,ex,g,q3⟩=>?_) hs
 subst ex
 obtain rfl:u=Value.ref a:=rx
 exact Fj hu I3 g ry rv λs4 I4=>⟨σ,H4,I4,q3⟩
end
theorem Fp {P:Program} {w:World} {H:Hp} (h:Heap) (hb:sysModules<h.objs.size):ObjOk P w H (h.push {cls:=.type "dict", data:=.dict #[] }) h.objs.size (.dK []):=
 ⟨eW _,beq_eq_false_iff_ne.mpr (Ne.symm (bI hb)),[],.nil,Heap.DictOf.new h⟩
noncomputable def tDNewK:TE:=λ_ H Q=>∀p,H p=none->Q (.ref p) (upd H p (.dK []))
section
variable{X:Cx}{pos:Pos}
theorem Fq:PE X (.Dict [] [] pos) tDNewK:=λpins s σ H Q I h=>
 wpAny_Dict_empty ⟨.ref s.heap.objs.size,_,I.laid (a:=s.heap.objs.size) (o:=.dK []) (t':=s.toks) (λ_ _ q=>Heap.get?_push_of_some _ q) (aS _) (Fp s.heap I.big),rfl,h _ (I.hok.fresh (aS _))⟩
end
section
variable{X:Cx}{pins:List (Addr×Obj)}{σ:St}{H:Hp}{s:Shared}{a:Addr}{y d:V}{u r:Value}{o:Option V}{A:Around}{E:Value->Shared->Prop}
end
section
variable{X:Cx}{o e f:Expr}{apos cpos:Pos}{td ty tx:TE}
end
end L2
namespace Tr
open PySem
set_option genSizeOf true in
set_option genSizeOfSpec true in
inductive D where
 |non|bl (b:Bool)|int (i:Int)|str (x:Str)|tup (ds:List D)|lst (ds:List D)|dct (kvs:List (Sum Int Str×D))|tdc (kvs:List (List (Sum Int Str)×D))
 deriving Inhabited
inductive Res(α:Type) where
 |ok (a:α)|err (c:Str) (d:D)|no
 deriving Inhabited
namespace Res
@[reducible] noncomputable def bind{α β:Type}(x:Res α)(f:α->Res β):Res β:=match x with | .ok a=>f a | .err c d=>.err c d | .no=>.no
noncomputable instance:Monad Res where
 pure:=.ok
 bind:=bind
@[simp] theorem ok_bind{α β:Type}(a:α)(f:α->Res β):(Res.ok a>>=f)=f a:=id rfl
@[simp] theorem no_bind{α β:Type}(f:α->Res β):((Res.no:Res α)>>=f)=.no:=id rfl
theorem bind_ok{α β:Type}{x:Res α}{f:α->Res β}{b:β}(h:(x>>=f)=.ok b):∃a,x=.ok a/\f a=.ok b:=by
 cases x with
 |ok a=>exact⟨a,rfl,h⟩
 |err c d=>cases h
 |no=>cases h
end Res
noncomputable def aC{α:Type}(c:Bool)(r:Res α):Res α:=if c then r else .no
theorem aZ{α:Type}{c:Bool}{r:Res α}{a:α}(h:aC c r=.ok a):c=true/\r=.ok a:=by
 unfold aC at h
 split at h
 ·exact⟨by assumption,h⟩
 ·cases h
@[simp] theorem Fu{α:Type}(r:Res α):aC true r=r:=id rfl
theorem bR{α:Type}{c:Bool}(h:c=true)(r:Res α):aC c r=r:=by subst h;rfl
noncomputable def b2z(b:Bool):Int:=if b then 1 else 0
mutual
noncomputable def D.eqb:D->D->Bool
 |.non,.non=>true
 |.bl a,.bl b=>a==b
 |.bl a,.int j=>b2z a==j
 |.int i,.bl b=>i==b2z b
 |.int i,.int j=>i==j
 |.str x,.str y=>x==y
 |.tup a,.tup b=>D.eqs a b
 |.lst a,.lst b=>D.eqs a b
 |_,_=>false
noncomputable def D.eqs:List D->List D->Bool
 |[],[]=>true
 |a::r,b::q=>D.eqb a b&&D.eqs r q
 |_,_=>false
end
mutual
noncomputable def D.pl:Nat->D->Bool
 |_,.dct _=>false
 |_,.tdc _=>false
 |n,.tup a=>D.pls n a
 |n,.lst a=>D.pls n a
 |_,_=>true
noncomputable def D.pls:Nat->List D->Bool
 |_,[]=>true
 |0,_::_=>false
 |n+1,a::r=>D.pl n a&&D.pls (n+1) r
end
mutual
noncomputable def D.flat:D->Bool
 |.dct _=>false
 |.tdc _=>false
 |.lst _=>false
 |.tup a=>D.flats a
 |_=>true
noncomputable def D.flats:List D->Bool
 |[]=>true
 |a::r=>D.flat a&&D.flats r
end
theorem pL{a b:List D}:D.eqb (.tup a) (.tup b)=D.eqs a b:=rfl
theorem pM{a b:List D}:D.eqb (.lst a) (.lst b)=D.eqs a b:=rfl
theorem uA{a b:D}{r q:List D}:D.eqs (a::r) (b::q)=(D.eqb a b&&D.eqs r q):=rfl
theorem uB{n:Nat}{a:D}{r:List D}:D.pls (n+1) (a::r)=(D.pl n a&&D.pls (n+1) r):=rfl
mutual
theorem D.eqb_refl:∀(n:Nat)(d:D),D.pl n d=true->D.eqb d d=true
 |_,.non,_=>rfl
 |_,.bl a,_=>by show(a==a)=true;simp
 |_,.int i,_=>by show(i==i)=true;simp
 |_,.str x,_=>by show(x==x)=true;simp
 |n,.tup a,h=>by rw[pL];exact D.eqs_refl n a h
 |n,.lst a,h=>by rw[pM];exact D.eqs_refl n a h
 |_,.dct a,h=>by cases h
 |_,.tdc a,h=>by cases h
theorem D.eqs_refl:∀(n:Nat)(a:List D),D.pls n a=true->D.eqs a a=true
 |_,[],_=>rfl
 |0,a::r,h=>by cases h
 |n+1,a::r,h=>by
  rw[uB,aF]at h
  rw[uA,D.eqb_refl n a h.1,D.eqs_refl (n+1) r h.2];rfl
end
noncomputable def big:Nat:=16777216
noncomputable def sIx(n d:Nat):Option Int->Nat
 |none=>d
 |some v=>if v<0 then(v+(n:Int)).toNat else min v.toNat n
noncomputable def cut{α:Type}(xs:List α)(lo hi:Option Int):List α:=(xs.drop (sIx xs.length 0 lo)).take (sIx xs.length xs.length hi-sIx xs.length 0 lo)
noncomputable def ixN(n:Nat)(i:Int):Option Nat:=if 0<=i then(if i<n then some i.toNat else none)else if -(n:Int)<=i then some (i+n).toNat else none
noncomputable def atI{α:Type}(xs:List α)(i:Int):Option α:=(ixN xs.length i).bind λj=>xs[j]?
noncomputable def dN(i:Int):Bool:=decide (-(2^64)<i)&&decide (i<2^64)
noncomputable def D.bin:Operator->D->D->Res D
 |.Add,.int i,.int j=>.ok (.int (i+j))
 |.Add,.str x,.str y=>aC (decide (x.length+y.length<=big)) (.ok (.str (x++y)))
 |.Add,.lst a,.lst b=>aC (decide (a.length+b.length<=big)) (.ok (.lst (a++b)))
 |.Add,.tup a,.tup b=>aC (decide (a.length+b.length<=big)) (.ok (.tup (a++b)))
 |.Sub,.int i,.int j=>.ok (.int (i-j))
 |.Mult,.int i,.int j=>aC (dN i||dN j) (.ok (.int (i*j)))
 |.Mult,.lst a,.int j=>aC (decide (a.length=1)&&decide (0<=j)&&decide (j<=1000)) (.ok (.lst (aU j.toNat a).flatten))
 |.FloorDiv,.int i,.int j=>aC (decide (0<j)&&decide (j<1073741824)) (.ok (.int (i/j)))
 |.Mod,.int i,.int j=>aC (decide (0<j)) (.ok (.int (i%j)))
 |.Pow,.int i,.int j=>aC (decide (0<=j)&&decide (j<=1000000)&&decide (i.natAbs<2^64)) (.ok (.int (i^j.toNat)))
 |_,_,_=>.no
noncomputable def hE(c:Nat):Str:=⟨#[c]⟩
noncomputable def iN(x:Str)(lo hi:Option Int):Str:=⟨(cut x.cps.toList lo hi).toArray⟩
noncomputable def uC(c:Nat):List Nat->List (List Nat)
 |[]=>[[]]
 |x::r=>if x=c then []::uC c r else match uC c r with
  |h::t=>(x::h)::t
  |[]=>[[x]]
noncomputable def splitS(x:Str)(c:Nat):List Str:=(uC c x.cps.toList).map λl=>⟨l.toArray⟩
noncomputable def Ac(g:List Nat):List (List Nat)->List Nat
 |[]=>[]
 |[a]=>a
 |a::b::r=>a++g++Ac g (b::r)
noncomputable def joinS(g:Str)(xs:List Str):Str:=⟨(Ac g.cps.toList (xs.map λx=>x.cps.toList)).toArray⟩
noncomputable def uD(cs:List Nat):Nat:=cs.foldl (λacc c=>acc*10+(c-48)) 0
noncomputable def uE(cs:List Nat):Bool:=!cs.isEmpty&&cs.all λc=>decide (48<=c)&&decide (c<=57)
noncomputable def Ad:List D->Res (List Str)
 |[]=>.ok []
 |.str x::r=>do let q<-Ad r;.ok (x::q)
 |_::_=>.no
noncomputable def uF:List D->Res (List Bool)
 |[]=>.ok []
 |.bl x::r=>do let q<-uF r;.ok (x::q)
 |_::_=>.no
noncomputable def uG(x y:Str):Res Bool:=match x.cps.toList with
 |[c]=>.ok (decide (c∈y.cps.toList))
 |_=>.no
noncomputable def dA:D->Option (Sum Int Str)
 |.int i=>some (.inl i)
 |.str x=>some (.inr x)
 |_=>none
noncomputable def bE(kvs:List (Sum Int Str×D))(k:Sum Int Str):Option D:=(kvs.find? λkv=>decide (kv.1=k)).map (·.2)
noncomputable def dG(kvs:List (Sum Int Str×D))(k:Sum Int Str)(v:D):List (Sum Int Str×D):=
 if(kvs.any λkv=>decide (kv.1=k))=true then kvs.map (λkv=>if kv.1=k then(kv.1,v)else kv)else kvs++[(k,v)]
noncomputable def lE:List D->Option (List (Sum Int Str))
 |[]=>some []
 |d::r=>(dA d).bind λk=>(lE r).map λq=>k::q
noncomputable def kG:List D->Option (List (Sum Int Str))
 |[]=>some []
 |.int i::r=>(kG r).map λq=>.inl i::q
 |_::_=>none
noncomputable def hF:Sum Int Str->D
 |.inl i=>.int i
 |.inr x=>.str x
noncomputable def iO(kvs:List (List (Sum Int Str)×D))(k:List (Sum Int Str)):Option D:=(kvs.find? λkv=>decide (kv.1=k)).map (·.2)
noncomputable def Res.of{α:Type}:Option α->Res α
 |some a=>.ok a
 |none=>.no
noncomputable def D.isNon:D->Bool
 |.non=>true
 |_=>false
noncomputable def D.eqOk(a b:D):Bool:=D.pl 30 a&&D.pl 30 b
noncomputable def D.mem(x:D):List D->Bool
 |[]=>false
 |y::r=>D.eqb y x||D.mem x r
noncomputable def D.inn(x:D):D->Res Bool
 |.lst ds=>aC (D.pls 30 ds&&D.pl 29 x) (.ok (D.mem x ds))
 |.tup ds=>aC (D.pls 30 ds&&D.pl 29 x) (.ok (D.mem x ds))
 |.dct kvs=>do let k<-Res.of (dA x);.ok (bE kvs k).isSome
 |.tdc kvs=>match x with
  |.tup ks=>do let k<-Res.of (kG ks);.ok (iO kvs k).isSome
  |_=>.no
 |.str y=>match x with
  |.str z=>uG z y
  |_=>.no
 |_=>.no
noncomputable def D.cmp:CmpOp->D->D->Res D
 |.Eq,a,b=>aC (D.eqOk a b) (.ok (.bl (D.eqb a b)))
 |.NotEq,a,b=>aC (D.eqOk a b) (.ok (.bl (!D.eqb a b)))
 |.Lt,.int i,.int j=>.ok (.bl (decide (i<j)))
 |.LtE,.int i,.int j=>.ok (.bl (decide (i<=j)))
 |.Gt,.int i,.int j=>.ok (.bl (decide (j<i)))
 |.GtE,.int i,.int j=>.ok (.bl (decide (j<=i)))
 |.Is,a,.non=>.ok (.bl a.isNon)
 |.IsNot,a,.non=>.ok (.bl (!a.isNon))
 |.Is,.bl a,.bl b=>.ok (.bl (a==b))
 |.IsNot,.bl a,.bl b=>.ok (.bl (a != b))
 |.In,a,b=>do let k<-D.inn a b;.ok (.bl k)
 |.NotIn,a,b=>do let k<-D.inn a b;.ok (.bl (!k))
 |_,_,_=>.no
noncomputable def D.truth:D->Res Bool
 |.non=>.ok false
 |.bl b=>.ok b
 |.int i=>.ok (i != 0)
 |.str x=>aC (decide (x.length<=big)) (.ok ((x.length:Int) != 0))
 |.tup a=>.ok (!a.isEmpty)
 |.lst a=>.ok (!a.isEmpty)
 |.dct _=>.no
 |.tdc _=>.no
noncomputable def D.ix:D->D->Res D
 |.lst a,.int i=>Res.of (atI a i)
 |.tup a,.int i=>Res.of (atI a i)
 |.str x,.int i=>aC (decide (x.length<=big)) (Res.of ((atI x.cps.toList i).map λc=>.str ⟨#[c]⟩))
 |.dct kvs,y=>do let k<-Res.of (dA y);Res.of (bE kvs k)
 |.tdc kvs,.tup ks=>do let k<-Res.of (kG ks);Res.of (iO kvs k)
 |_,_=>.no
noncomputable def D.part:D->Res (Option Int)
 |.non=>.ok none
 |.int i=>.ok (some i)
 |_=>.no
noncomputable def D.sl:D->Option Int->Option Int->Res D
 |.lst a,lo,hi=>.ok (.lst (cut a lo hi))
 |.tup a,lo,hi=>.ok (.tup (cut a lo hi))
 |.str x,lo,hi=>aC (decide (x.length<=big)) (.ok (.str (iN x lo hi)))
 |_,_,_=>.no
noncomputable def D.items:D->Res (List D)
 |.lst a=>.ok a
 |.tup a=>.ok a
 |.str x=>.ok (x.cps.toList.map λc=>.str (hE c))
 |_=>.no
noncomputable def cN:List D->Res (List Int)
 |[]=>.ok []
 |.int i::r=>do let q<-cN r;.ok (i::q)
 |_::_=>.no
noncomputable def cL(lo:Int):Nat->List D
 |0=>[]
 |n+1=>.int lo::cL (lo+1) n
noncomputable def dB(k:Int):List D->List D
 |[]=>[]
 |d::r=>.tup [.int k,d]::dB (k+1) r
noncomputable def dZ(i:Int):Bool:=decide (-(2^62)<=i)&&decide (i<2^62)
inductive Ty where
 |int|bool|str|tuple|list
 deriving DecidableEq,Inhabited
noncomputable def D.isDct:D->Bool
 |.dct _=>true
 |.tdc _=>true
 |_=>false
noncomputable def D.isTy:D->Ty->Bool
 |.int _,.int=>true
 |.bl _,.int=>true
 |.bl _,.bool=>true
 |.str _,.str=>true
 |.tup _,.tuple=>true
 |.lst _,.list=>true
 |_,_=>false
inductive Bt where
 |len|sum|tuple|list|int|str|bool|abs|min|max|all|any
 deriving DecidableEq,Inhabited
noncomputable def D.len:D->Res D
 |.lst a=>.ok (.int a.length)
 |.tup a=>.ok (.int a.length)
 |.str x=>aC (decide (x.length<=big)) (.ok (.int x.length))
 |.dct a=>.ok (.int a.length)
 |_=>.no
noncomputable def D.sum:D->Res D
 |.lst a=>do let ns<-cN a;.ok (.int ns.sum)
 |_=>.no
noncomputable def D.tuple:D->Res D
 |.lst a=>.ok (.tup a)
 |.tup a=>.ok (.tup a)
 |_=>.no
noncomputable def D.list:D->Res D
 |.lst a=>.ok (.lst a)
 |.tup a=>.ok (.lst a)
 |_=>.no
noncomputable def D.toInt:D->Res D
 |.int i=>.ok (.int i)
 |.bl b=>.ok (.int (b2z b))
 |.str x=>aC (uE x.cps.toList&&decide (x.length<=640)) (.ok (.int (uD x.cps.toList)))
 |_=>.no
noncomputable def D.toStr:D->Res D
 |.int i=>aC (decide (i.natAbs.log2<1920)) (.ok (.str (Str.ofString (toString i))))
 |_=>.no
noncomputable def D.toBool:D->Res D
 |.int i=>.ok (.bl (i != 0))
 |.bl b=>.ok (.bl b)
 |_=>.no
noncomputable def D.abs:D->Res D
 |.int i=>.ok (.int (if i<0 then -i else i))
 |_=>.no
noncomputable def D.all:D->Res D
 |.lst a=>do let q<-uF a;.ok (.bl (q.all id))
 |_=>.no
noncomputable def D.any:D->Res D
 |.lst a=>do let q<-uF a;.ok (.bl (q.any id))
 |_=>.no
noncomputable def maxI:Int->List Int->Int
 |m,[]=>m
 |m,n::r=>maxI (if n>m then n else m) r
noncomputable def minI:Int->List Int->Int
 |m,[]=>m
 |m,n::r=>minI (if n<m then n else m) r
noncomputable def D.maxL:D->Res D
 |.lst a=>do
  match<-cN a with
  |n::ns=>.ok (.int (maxI n ns))
  |[]=>.no
 |.tup a=>do
  match<-cN a with
  |n::ns=>.ok (.int (maxI n ns))
  |[]=>.no
 |_=>.no
noncomputable def D.minL:D->Res D
 |.lst a=>do
  match<-cN a with
  |n::ns=>.ok (.int (minI n ns))
  |[]=>.no
 |.tup a=>do
  match<-cN a with
  |n::ns=>.ok (.int (minI n ns))
  |[]=>.no
 |_=>.no
noncomputable def D.min2:D->D->Res D
 |.int i,.int j=>.ok (.int (if j<i then j else i))
 |_,_=>.no
noncomputable def D.max2:D->D->Res D
 |.int i,.int j=>.ok (.int (if j>i then j else i))
 |_,_=>.no
noncomputable def Bt.one:Bt->D->Res D
 |.len=>D.len
 |.sum=>D.sum
 |.tuple=>D.tuple
 |.list=>D.list
 |.int=>D.toInt
 |.str=>D.toStr
 |.bool=>D.toBool
 |.abs=>D.abs
 |.all=>D.all
 |.any=>D.any
 |.min=>D.minL
 |.max=>D.maxL
noncomputable def Bt.two:Bt->D->D->Res D
 |.min=>D.min2
 |.max=>D.max2
 |_=>λ_ _=>.no
noncomputable def Bt.run(b:Bt):List D->Res D
 |[d]=>b.one d
 |[d,d']=>b.two d d'
 |_=>.no
noncomputable def mV:D->Res (List D)
 |.tdc kvs=>.ok (kvs.map λkv=>.tup (kv.1.map hF))
 |.dct kvs=>.ok (kvs.map λkv=>hF kv.1)
 |_=>.no
noncomputable def gI(n:Int):List Int->List Int
 |[]=>[n]
 |m::r=>if n<=m then n::m::r else m::gI n r
noncomputable def dO:List Int->List Int
 |[]=>[]
 |n::r=>gI n (dO r)
noncomputable def srtR:D->Res D
 |.lst a=>do let ns<-cN a;aC (decide (ns.length<64)) (.ok (.lst ((dO ns).map D.int)))
 |_=>.no
inductive Mt where
 |split|join|index
 deriving DecidableEq,Inhabited
noncomputable def Mt.run:Mt->D->D->Res D
 |.split,.str x,.str y=>match y.cps.toList with
  |[c]=>aC (decide (x.length<big)&&decide (c<256)) (.ok (.lst ((splitS x c).map D.str)))
  |_=>.no
 |.join,.str g,.lst ds=>do
  let xs<-Ad ds
  aC (decide (g.length<=64)&&decide ((xs.map (·.length)).sum+xs.length*64<=big)) (.ok (.str (joinS g xs)))
 |.index,.lst ds,.int i=>do let ns<-cN ds;aC (ns.contains i) (.ok (.int (ns.idxOf i:Nat)))
 |_,_,_=>.no
noncomputable def uH:List D->Res (List (Sum Int Str))
 |[]=>.ok []
 |d::r=>do let k<-Res.of (dA d);let q<-uH r;.ok (k::q)
noncomputable def D.keys:D->Res (List (Sum Int Str))
 |.lst ds=>uH ds
 |.tup ds=>uH ds
 |.str x=>.ok (x.cps.toList.map λc=>.inr ⟨#[c]⟩)
 |_=>.no
noncomputable def metD(ks:List (Sum Int Str)):List (Sum Int Str):=ks.foldl (λacc k=>if acc.any (λx=>decide (x=k))then acc else acc++[k]) []
noncomputable def D.setN(x:D):Res D:=match x.keys with
 |.ok ks=>aC (decide (ks.length+1<4096)) (.ok (.int (metD ks).length))
 |_=>.no
noncomputable def eX:List Int->List Int->Bool
 |[],[]=>false
 |[],_::_=>true
 |_::_,[]=>false
 |a::x,b::y=>if a=b then eX x y else decide (a<b)
noncomputable def mW{α:Type}(lt:Nat->Nat->Bool):PySem.W.KasT α->α
 |.ret a=>a
 |.ask i j k=>mW lt (k (lt i j))
noncomputable def jK:List D->Res (List (List Int))
 |[]=>.ok []
 |.tup ks::r=>do let a<-cN ks;let q<-jK r;.ok (a::q)
 |_::_=>.no
noncomputable def kH(x y:List Int):Bool:=if x.length=y.length then eX x y else decide (x.length<y.length)
noncomputable def bS(kss:List (List Int)):List Nat:=if kss.length<2 then aD kss.length else(mW (λi j=>kH (kss.getD i []) (kss.getD j [])) (PySem.W.kas_sort kss.length)).toList
noncomputable def uI:D->Res D
 |.lst ds=>do let kss<-jK ds;aC (decide (ds.length<64)) (.ok (.lst ((bS kss).map λi=>ds.getD i .non)))
 |_=>.no
set_option genInjectivity false in
inductive G where
 |one (i:Nat)|many (is:List Nat)
 deriving Inhabited
set_option genInjectivity false in
inductive E where
 |var (i:Nat)|rd (i:Nat)|con (d:D)|glob (g:Nat)
 |bin (o:Operator) (a b:E)|cmp (o:CmpOp) (a b:E)
 |and (a b:E)|or (a b:E)|not (a:E)|neg (a:E)|ife (c a b:E)
 |ix (a b:E)|sl (a lo hi:E)|omit
 |tup (a:E)|lst (a:E)|anil|acons (a r:E)
 |call (f:Nat) (a:E)|bt (b:Bt) (a:E)|isi (a:E) (t:Ty)
 |comp (own:Nat) (caps:List Nat) (g:G) (elt src cond:E)
 |seq (a:E)|rng (a:E)|rng2 (a b:E)|enum (a:E)
 |dck (a:E)|seqD (a:E)|srt (a:E)
 deriving Inhabited
set_option genInjectivity false in
inductive S where
 |nil|cons (a r:S)
 |ret (e:E)|retO (i:Nat)
 |asg (g:G) (e:E)|asgO (i:Nat) (e:E)|sealed (i:Nat)
 |ite (c:E) (a b:S)|forS (g:G) (src:E) (b:S)
 |app (i:Nat) (e:E)
 |ext (i:Nat) (e:E)
 |never
 |exp (e:E)
 |newD (i:Nat)|asgN (i:Nat) (e:E)|retK (x:E)
 |extN (i j:Nat)|dputR (i:Nat) (k v:E)|retR (e:E) (i j:Nat)|ifR (neg:Bool) (c:E) (f:Nat) (x:E) (i j:Nat) (y:E) (a b:S)
 deriving Inhabited
inductive Sl where
 |no|v (d:D)|o (d:D)|t (ds:List D)|n (d:D)|r (a:Nat) (d:D)
 deriving Inhabited
noncomputable abbrev Nv:=List Sl
noncomputable def Nv.at(e:Nv)(i:Nat):Sl:=(e[i]?).getD .no
noncomputable def Sl.val:Sl->Res D
 |.v d=>.ok d
 |.n d=>.ok d
 |_=>.no
noncomputable def Sl.any:Sl->Res D
 |.v d=>.ok d
 |.n d=>.ok d
 |.o d=>.ok d
 |.r _ d=>.ok d
 |_=>.no
noncomputable def Sl.own:Sl->Res (List D)
 |.o (.lst a)=>.ok a
 |_=>.no
noncomputable def Sl.refD:Sl->Res (Nat×List (Sum Int Str×D))
 |.r a (.dct k)=>.ok (a,k)
 |_=>.no
noncomputable def Sl.givD:Sl->Res (List (Sum Int Str×D))
 |.o (.dct k)=>.ok k
 |.r _ (.dct k)=>.ok k
 |_=>.no
noncomputable def Sl.giv(x:Sl)(d:D):Sl:=match x with
 |.r a _=>.r a d
 |_=>.o d
noncomputable def Sl.ownA:Sl->Res D
 |.o d=>.ok d
 |_=>.no
noncomputable def cS:List Nat->List D->Nv->Res Nv
 |[],[],e=>.ok e
 |i::r,d::q,e=>cS r q (e.set i (.v d))
 |_,_,_=>.no
noncomputable def G.put:G->D->Nv->Res Nv
 |.one i,d,e=>.ok (e.set i (.v d))
 |.many is,.tup ds,e=>cS is ds e
 |_,_,_=>.no
noncomputable def aX(own:Nat)(caps:List Nat)(e:Nv):Nv:=aU own Sl.no++caps.map λi=>e.at i
noncomputable def jL:List (Sum Int Str×D)->Res (List Int)
 |[]=>.ok []
 |(.inl n,_)::r=>do let q<-jL r;.ok (n::q)
 |_=>.no
noncomputable def hJ:List D->Res (List (Sum Int Str×D))
 |[]=>.ok []
 |.tup [k,v]::r=>do let k<-Res.of (dA k);let q<-hJ r;.ok ((k,v)::q)
 |_=>.no
noncomputable def eJ(qs kvs:List (Sum Int Str×D)):List (Sum Int Str×D):=qs.foldl (λm q=>dG m q.1 q.2) kvs
noncomputable def mX:D->Res D
 |.lst ds=>do let qs<-hJ ds;.ok (.dct (eJ qs []))
 |_=>.no
noncomputable def mY:D->Res D
 |.dct kvs=>do let ns<-jL kvs;aC (decide (ns.length<64)) (.ok (.lst ((dO ns).map D.int)))
 |.lst a=>srtR (.lst a)
 |_=>.no
set_option genInjectivity false in
structure Tab where
 glob:Nat->D
 fresh:Nat->Bool
 mv:Nat->Option Nat:=λ_=>none
section
variable(T:Tab)(cf:Nat->List D->Res D)
noncomputable def mZ:List D->Bool
 |.lst _::_=>true
 |.int _::r=>mZ r
 |.str _::r=>mZ r
 |_=>false
noncomputable def jM:D->Bool
 |.tup ds=>mZ ds
 |_=>false
noncomputable def D.flatL:D->Bool
 |.lst ds=>D.flats ds
 |_=>false
noncomputable def bJ:E->Bool
 |.lst _=>true
 |.sl _ _ _=>true
 |.bin .Add _ _=>true
 |.comp _ _ _ _ _ _=>true
 |.bt .list _=>true
 |.call f _=>T.fresh f
 |.srt _=>true
 |_=>false
noncomputable def Ae:E->Nat->E
 |.acons a _,0=>a
 |.acons _ r,n+1=>Ae r n
 |_,_=>.omit
noncomputable def Sl.isN:Sl->Bool
 |.n _=>true
 |_=>false
noncomputable def nA(x:E)(e:Nv):Bool:=bJ T x||(match x with | .var j=>(e.at j).isN|_=>false)
noncomputable def aY(f:D->Res (Option D)):List D->Res (List D)
 |[]=>.ok []
 |d::r=>do
  let x<-f d
  let q<-aY f r
  match x with
  |some y=>.ok (y::q)
  |none=>.ok q
mutual
noncomputable def evE:E->Nv->Res D
 |.var i,e=>(e.at i).val
 |.rd i,e=>(e.at i).any
 |.con d,_=>.ok d
 |.glob g,_=>.ok (T.glob g)
 |.bin o a b,e=>do let x<-evE a e;let y<-evE b e;D.bin o x y
 |.cmp o a b,e=>do let x<-evE a e;let y<-evE b e;D.cmp o x y
 |.and a b,e=>do let x<-evE a e;let k<-x.truth;if k then evE b e else .ok x
 |.or a b,e=>do let x<-evE a e;let k<-x.truth;if k then .ok x else evE b e
 |.not a,e=>do let x<-evE a e;let k<-x.truth;.ok (.bl (!k))
 |.neg a,e=>do
  match<-evE a e with
  |.int i=>.ok (.int (-i))
  |_=>.no
 |.ife c a b,e=>do let x<-evE c e;let k<-x.truth;if k then evE a e else evE b e
 |.ix a b,e=>do let x<-evE a e;let y<-evE b e;D.ix x y
 |.sl a lo hi,e=>do let x<-evE a e;let l<-evE lo e;let l<-l.part;let h<-evE hi e;let h<-h.part;D.sl x l h
 |.omit,_=>.ok .non
 |.tup a,e=>do let xs<-evA a e;.ok (.tup xs)
 |.lst a,e=>do let xs<-evA a e;.ok (.lst xs)
 |.call f a,e=>do let xs<-evA a e;cf f xs
 |.srt a,e=>do let x<-evE a e;mY x
 |.dck a,e=>do let x<-evE a e;mX x
 |.bt b a,e=>do let xs<-evA a e;b.run xs
 |.isi a t,e=>do let x<-evE a e;aC (!x.isDct) (.ok (.bl (x.isTy t)))
 |.comp own caps g elt src cond,e=>do
  let ds<-evI src e
  let ys<-aY (λd=>do
   let e1<-g.put d (aX own caps e)
   let c<-evE cond e1
   let k<-c.truth
   if k then do let y<-evE elt e1;.ok (some y)else .ok none) ds
  aC (decide (ds.length<=big)) (.ok (.lst ys))
 |_,_=>.no
noncomputable def evA:E->Nv->Res (List D)
 |.anil,_=>.ok []
 |.acons a r,e=>do let x<-evE a e;let q<-evA r e;aC (decide (q.length<1000)) (.ok (x::q))
 |_,_=>.no
noncomputable def evI:E->Nv->Res (List D)
 |.seq a,e=>do let x<-evE a e;x.items
 |.rng a,e=>do
  match<-evE a e with
  |.int n=>aC (dZ n) (.ok (cL 0 n.toNat))
  |_=>.no
 |.rng2 a b,e=>do
  match<-evE a e with
  |.int n=>do
   match<-evE b e with
   |.int m=>aC (dZ n&&dZ m) (.ok (cL n (m-n).toNat))
   |_=>.no
  |_=>.no
 |.enum a,e=>do
  match<-evE a e with
  |.lst ds=>.ok (dB 0 ds)
  |_=>.no
 |.seqD a,e=>do let x<-evE a e;mV x
 |_,_=>.no
end
noncomputable def D.isInt:D->Bool
 |.int _=>true
 |_=>false
inductive Out where
 |nx (e:Nv)|rt (d:D) (fresh:Bool)|bk (e:Nv)|ct (e:Nv)|rr (d:D) (a:Nat) (j:List (Sum Int Str×D)) (b:Nat) (k:List (Sum Int Str×D))
 deriving Inhabited
noncomputable def aP(f:D->Nv->Res Out):List D->Nv->Res Out
 |[],e=>.ok (.nx e)
 |d::r,e=>do
  match<-f d e with
  |.nx e1=>aP f r e1
  |.ct e1=>aP f r e1
  |.bk e1=>.ok (.nx e1)
  |.rt x k=>.ok (.rt x k)
  |.rr x a j b k=>.ok (.rr x a j b k)
noncomputable def fO(f:Nat)(x:D)(j k:List (Sum Int Str×D))(y:D):Res (D×List (Sum Int Str×D)×List (Sum Int Str×D)):=
 open Classical in if h:∃r:D×List (Sum Int Str×D)×List (Sum Int Str×D),∀a b:Nat,a≠b->cf f [x,.tup [.int a,.dct j],.tup [.int b,.dct k],y]=.ok (.tup [r.1,.dct r.2.1,.dct r.2.2])then .ok h.choose else .no
noncomputable def exS:S->Nv->Res Out
 |.nil,e=>.ok (.nx e)
 |.cons a r,e=>do
  match<-exS a e with
  |.nx e1=>exS r e1
  |o=>.ok o
 |.ret x,e=>do let d<-evE T cf x e;.ok (.rt d (bJ T x&&!jM d))
 |.retO i,e=>do let a<-(e.at i).ownA;.ok (.rt a (!a.isDct))
 |.asg g x,e=>do let d<-evE T cf x e;let e1<-g.put d e;.ok (.nx e1)
 |.asgO i x,e=>do
  match<-evE T cf x e with
  |.lst a=>aC (bJ T x) (.ok (.nx (e.set i (.o (.lst a)))))
  |.dct a=>aC (bJ T x) (.ok (.nx (e.set i (.o (.dct a)))))
  |.tdc a=>aC (bJ T x) (.ok (.nx (e.set i (.o (.tdc a)))))
  |_=>.no
 |.sealed i,e=>do let a<-(e.at i).ownA;.ok (.nx (e.set i (.v a)))
 |.ite c a b,e=>do let x<-evE T cf c e;let k<-x.truth;if k then exS a e else exS b e
 |.forS g src b,e=>do
  let ds<-evI T cf src e
  aP (λd e0=>do let e1<-g.put d e0;exS b e1) ds e
 |.app i x,e=>do
  let d<-evE T cf x e
  let a<-(e.at i).own
  aC (decide (a.length<big)) (.ok (.nx (e.set i (.o (.lst (a++[d]))))))
 |.newD i,e=>.ok (.nx (e.set i (.o (.dct []))))
 |.ext i x,e=>do
  match<-evE T cf x e with
  |.lst b=>do
   let a<-(e.at i).own
   aC (bJ T x&&decide (a.length+b.length<=big)) (.ok (.nx (e.set i (.o (.lst (a++b))))))
  |_=>.no
 |.never,_=>.no
 |.exp x,e=>do let _<-evE T cf x e;.ok (.nx e)
 |.asgN i x,e=>do let d<-evE T cf x e;aC (nA T x e&&(d.isNon||d.flatL)) (.ok (.nx (e.set i (.n d))))
 |.retK x,e=>do let d<-evE T cf x e;let r<-uI d;.ok (.rt r true)
 |.extN i j,e=>
  match e.at j with
  |.n (.lst b)=>do
   let a<-(e.at i).own
   aC (decide (a.length+b.length<=big)) (.ok (.nx (e.set i (.o (.lst (a++b))))))
  |_=>.no
 |.dputR i k x,e=>do
  let d<-evE T cf x e
  let a<-(e.at i).refD
  let y<-evE T cf k e
  let key<-Res.of (dA y)
  aC (decide (a.2.length<big)) (.ok (.nx (e.set i (.r a.1 (.dct (dG a.2 key d))))))
 |.retR x i j,e=>do
  let d<-evE T cf x e
  let a<-(e.at i).refD
  let b<-(e.at j).refD
  .ok (.rr d a.1 a.2 b.1 b.2)
 |.ifR neg c f x i j y a b,e=>aC (decide (T.mv f=some 1000)&&decide (i≠j)) (do
  let k0<-(if neg then .ok false else do let z<-evE T cf c e;z.truth)
  if k0 then exS a e else do
   let d1<-evE T cf x e
   let g<-(e.at i).givD
   let h<-(e.at j).givD
   let d2<-evE T cf y e
   let r<-fO cf f d1 g h d2
   let k<-r.1.truth
   let e1:=(e.set i ((e.at i).giv (.dct r.2.1))).set j ((e.at j).giv (.dct r.2.2))
   if(k != neg)then exS a e1 else exS b e1)
noncomputable def exX(T:Tab)(cf:Nat->List D->Res D)(_:S)(_:Nv):Option (Str×D):=none
end
structure Told where
 b:S
 c:Str
 yes:D
 thr:D
 ini:D:=.non
 num:Bool:=false
 deriving Inhabited
set_option genInjectivity false in
structure Df where
 names:Nat
 pars:Nat
 body:S
 told:Option Told:=none
 deriving Inhabited
noncomputable def dP(mv:Option Nat)(ds:List D):Nv:=match mv with
 |none=>ds.map Sl.v
 |some j=>(ds.map Sl.v).set j (.n (ds.getD j .non))
noncomputable def Af:List D->Option (Nat×Nat×Nv)
 |[x,.tup [.int a,.dct j],.tup [.int b,.dct k],y]=>some (a.toNat,b.toNat,[.v x,.r a.toNat (.dct j),.r b.toNat (.dct k),.v y])
 |_=>none
noncomputable def aB(T:Tab)(defs:List Df):Nat->Nat->List D->Res D
 |0,_,_=>.no
 |n+1,f,ds=>
  match defs[f]? with
  |none=>.no
  |some d=>
   aC (ds.length==d.pars) (match d.told with
    |none=>if T.mv f=some 1000 then(match Af ds with
     |none=>.no
     |some z=>match exS T (aB T defs n) d.body (z.2.2++aU (d.names-d.pars) Sl.no)with
      |.ok (.rr x a j b k)=>aC (a==z.1&&b==z.2.1) (.ok (.tup [x,.dct j,.dct k]))
      |_=>.no)else match exX T (aB T defs n) d.body (dP (T.mv f) ds++aU (d.names-d.pars) Sl.no)with
     |some z=>.err z.1 z.2
     |none=>match exS T (aB T defs n) d.body (dP (T.mv f) ds++aU (d.names-d.pars) Sl.no)with
      |.ok (.rt x k)=>aC (k||!T.fresh f) (.ok x)
      |.ok (.nx _)=>aC (!T.fresh f) (.ok .non)
      |_=>.no
    |some t=>match exX T (aB T defs n) t.b (ds.map Sl.v++[.v t.ini,.no])with
     |some z=>aC (z.1==t.c&&!T.fresh f) (if t.num then(match z.2 with | .int v=>.ok (.int v)|_=>.no)else .ok t.yes)
     |none=>match exS T (aB T defs n) t.b (ds.map Sl.v++[.v t.ini,.no])with
      |.ok (.nx _)=>aC (!T.fresh f) (.ok t.thr)
      |_=>.no)
theorem lF{T:Tab}{defs:List Df}{n f:Nat}{ds:List D}:aB T defs (n+1) f ds=(
 match defs[f]? with
 |none=>.no
 |some d=>
  aC (ds.length==d.pars) (match d.told with
   |none=>if T.mv f=some 1000 then(match Af ds with
    |none=>.no
    |some z=>match exS T (aB T defs n) d.body (z.2.2++aU (d.names-d.pars) Sl.no)with
     |.ok (.rr x a j b k)=>aC (a==z.1&&b==z.2.1) (.ok (.tup [x,.dct j,.dct k]))
     |_=>.no)else match exX T (aB T defs n) d.body (dP (T.mv f) ds++aU (d.names-d.pars) Sl.no)with
    |some z=>.err z.1 z.2
    |none=>match exS T (aB T defs n) d.body (dP (T.mv f) ds++aU (d.names-d.pars) Sl.no)with
     |.ok (.rt x k)=>aC (k||!T.fresh f) (.ok x)
     |.ok (.nx _)=>aC (!T.fresh f) (.ok .non)
     |_=>.no
   |some t=>match exX T (aB T defs n) t.b (ds.map Sl.v++[.v t.ini,.no])with
    |some z=>aC (z.1==t.c&&!T.fresh f) (if t.num then(match z.2 with | .int v=>.ok (.int v)|_=>.no)else .ok t.yes)
    |none=>match exS T (aB T defs n) t.b (ds.map Sl.v++[.v t.ini,.no])with
     |.ok (.nx _)=>aC (!T.fresh f) (.ok t.thr)
     |_=>.no)):=rfl
section
variable{T:Tab}{cf:Nat->List D->Res D}{e:Nv}
theorem uJ{i:Nat}:evE T cf (.var i) e=((e.at i).val):=rfl
theorem Ag{i:Nat}:evE T cf (.rd i) e=((e.at i).any):=rfl
theorem uK{d:D}:evE T cf (.con d) e=(.ok d):=rfl
theorem Fv{g:Nat}:evE T cf (.glob g) e=(.ok (T.glob g)):=rfl
theorem xE_cmp{o:CmpOp}{a:E}{b:E}:evE T cf (.cmp o a b) e=(do let x<-evE T cf a e;let y<-evE T cf b e;D.cmp o x y):=rfl
theorem Ah{a:E}{b:E}:evE T cf (.and a b) e=(do let x<-evE T cf a e;let k<-x.truth;if k then evE T cf b e else .ok x):=rfl
theorem Ai{a:E}{b:E}:evE T cf (.or a b) e=(do let x<-evE T cf a e;let k<-x.truth;if k then .ok x else evE T cf b e):=rfl
theorem Aj{a:E}:evE T cf (.not a) e=(do let x<-evE T cf a e;let k<-x.truth;.ok (.bl (!k))):=rfl
theorem Ak{a:E}:evE T cf (.neg a) e=(do
 match<-evE T cf a e with
 |.int i=>.ok (.int (-i))
 |_=>.no):=rfl
theorem Al{c:E}{a:E}{b:E}:evE T cf (.ife c a b) e=(do let x<-evE T cf c e;let k<-x.truth;if k then evE T cf a e else evE T cf b e):=rfl
theorem Am{a:E}{lo:E}{hi:E}:evE T cf (.sl a lo hi) e=(do let x<-evE T cf a e;let l<-evE T cf lo e;let l<-l.part;let h<-evE T cf hi e;let h<-h.part;D.sl x l h):=rfl
theorem Fw  : evE T cf (.«omit») e=(.ok .non):=rfl
theorem xE_tup{a:E}:evE T cf (.tup a) e=(do let xs<-evA T cf a e;.ok (.tup xs)):=rfl
theorem nB{a:E}:evE T cf (.lst a) e=(do let xs<-evA T cf a e;.ok (.lst xs)):=rfl
theorem An{f:Nat}{a:E}:evE T cf (.call f a) e=(do let xs<-evA T cf a e;cf f xs):=rfl
theorem Fx{a:E}:evI T cf (.seqD a) e=(do let x<-evE T cf a e;mV x):=rfl
theorem xE_srt{a:E}:evE T cf (.srt a) e=(do let x<-evE T cf a e;mY x):=rfl
theorem xE_dck{a:E}:evE T cf (.dck a) e=(do let x<-evE T cf a e;mX x):=rfl
theorem xE_bt{b:Bt}{a:E}:evE T cf (.bt b a) e=(do let xs<-evA T cf a e;b.run xs):=rfl
theorem xE_isi{a:E}{t:Ty}:evE T cf (.isi a t) e=(do let x<-evE T cf a e;aC (!x.isDct) (.ok (.bl (x.isTy t)))):=rfl
theorem Ao{own:Nat}{caps:List Nat}{g:G}{elt:E}{src:E}{cond:E}:evE T cf (.comp own caps g elt src cond) e=(do
 let ds<-evI T cf src e
 let ys<-aY (λd=>do
  let e1<-g.put d (aX own caps e)
  let c<-evE T cf cond e1
  let k<-c.truth
  if k then do let y<-evE T cf elt e1;.ok (some y)else .ok none) ds
 aC (decide (ds.length<=big)) (.ok (.lst ys))):=rfl
theorem pN  : evA T cf (.anil) e=(.ok []):=rfl
theorem pO{a:E}{r:E}:evA T cf (.acons a r) e=(do let x<-evE T cf a e;let q<-evA T cf r e;aC (decide (q.length<1000)) (.ok (x::q))):=rfl
theorem xI_seq{a:E}:evI T cf (.seq a) e=(do let x<-evE T cf a e;x.items):=rfl
theorem Ap{a:E}:evI T cf (.rng a) e=(do
 match<-evE T cf a e with
 |.int n=>aC (dZ n) (.ok (cL 0 n.toNat))
 |_=>.no):=rfl
theorem Aq{a:E}{b:E}:evI T cf (.rng2 a b) e=(do
 match<-evE T cf a e with
 |.int n=>do
  match<-evE T cf b e with
  |.int m=>aC (dZ n&&dZ m) (.ok (cL n (m-n).toNat))
  |_=>.no
 |_=>.no):=rfl
theorem Ar{a:E}:evI T cf (.enum a) e=(do
 match<-evE T cf a e with
 |.lst ds=>.ok (dB 0 ds)
 |_=>.no):=rfl
theorem iP  : exS T cf (.nil) e=(.ok (.nx e)):=rfl
theorem fP{a:S}{r:S}:exS T cf (.cons a r) e=(do
 match<-exS T cf a e with
 |.nx e1=>exS T cf r e1
 |o=>.ok o):=rfl
theorem iQ{x:E}:exS T cf (.ret x) e=(do let d<-evE T cf x e;.ok (.rt d (bJ T x&&!jM d))):=rfl
theorem Fy{i:Nat}:exS T cf (.retO i) e=(do let a<-(e.at i).ownA;.ok (.rt a (!a.isDct))):=rfl
theorem nC{g:G}{x:E}:exS T cf (.asg g x) e=(do let d<-evE T cf x e;let e1<-g.put d e;.ok (.nx e1)):=rfl
theorem pP{i:Nat}{x:E}:exS T cf (.asgO i x) e=(do
 match<-evE T cf x e with
 |.lst a=>aC (bJ T x) (.ok (.nx (e.set i (.o (.lst a)))))
 |.dct a=>aC (bJ T x) (.ok (.nx (e.set i (.o (.dct a)))))
 |.tdc a=>aC (bJ T x) (.ok (.nx (e.set i (.o (.tdc a)))))
 |_=>.no):=rfl
theorem As{i:Nat}:exS T cf (.«sealed» i) e=(do let a<-(e.at i).ownA;.ok (.nx (e.set i (.v a)))):=rfl
theorem iR{c:E}{a:S}{b:S}:exS T cf (.ite c a b) e=(do let x<-evE T cf c e;let k<-x.truth;if k then exS T cf a e else exS T cf b e):=rfl
theorem iS{g:G}{src:E}{b:S}:exS T cf (.forS g src b) e=(do
 let ds<-evI T cf src e
 aP (λd e0=>do let e1<-g.put d e0;exS T cf b e1) ds e):=rfl
theorem xS_app{i:Nat}{x:E}:exS T cf (.app i x) e=(do
 let d<-evE T cf x e
 let a<-(e.at i).own
 aC (decide (a.length<big)) (.ok (.nx (e.set i (.o (.lst (a++[d]))))))):=rfl
theorem Fz{f:Nat}{x y:D}{j k:List (Sum Int Str×D)}{r:D×List (Sum Int Str×D)×List (Sum Int Str×D)}(h:fO cf f x j k y=.ok r):∀a b:Nat,a≠b->cf f [x,.tup [.int a,.dct j],.tup [.int b,.dct k],y]=.ok (.tup [r.1,.dct r.2.1,.dct r.2.2]):=by
 unfold fO at h
 split at h
 ·rename_i hx
  injection h with h
  rw[<-h]
  exact hx.choose_spec
 ·cases h
theorem Au{f:Nat}{x y:D}{j k:List (Sum Int Str×D)}{r:D×List (Sum Int Str×D)×List (Sum Int Str×D)}(h:∀a b:Nat,a≠b->cf f [x,.tup [.int a,.dct j],.tup [.int b,.dct k],y]=.ok (.tup [r.1,.dct r.2.1,.dct r.2.2])):fO cf f x j k y=.ok r:=by
 unfold fO
 have hx:∃r:D×List (Sum Int Str×D)×List (Sum Int Str×D),∀a b:Nat,a≠b->cf f [x,.tup [.int a,.dct j],.tup [.int b,.dct k],y]=.ok (.tup [r.1,.dct r.2.1,.dct r.2.2]):=⟨r,h⟩
 rw[dif_pos hx]
 have h1:=hx.choose_spec 0 1 (by lia)
 rw[h 0 1 (by lia)]at h1
 injection h1 with h1
 injection h1 with h1
 injection h1 with a1 h1
 injection h1 with a2 h1
 injection h1 with a3 _
 injection a2 with a2
 injection a3 with a3
 have:hx.choose=r:=Prod.ext a1.symm (Prod.ext a2.symm a3.symm)
 rw[this]
theorem Av{i j:Nat}:exS T cf (.extN i j) e=(
 match e.at j with
 |.n (.lst b)=>do
  let a<-(e.at i).own
  aC (decide (a.length+b.length<=big)) (.ok (.nx (e.set i (.o (.lst (a++b))))))
 |_=>.no):=rfl
theorem GA{i:Nat}{k:E}{x:E}:exS T cf (.dputR i k x) e=(do
 let d<-evE T cf x e
 let a<-(e.at i).refD
 let y<-evE T cf k e
 let key<-Res.of (dA y)
 aC (decide (a.2.length<big)) (.ok (.nx (e.set i (.r a.1 (.dct (dG a.2 key d))))))):=rfl
theorem GB{x:E}{i j:Nat}:exS T cf (.retR x i j) e=(do
 let d<-evE T cf x e
 let a<-(e.at i).refD
 let b<-(e.at j).refD
 .ok (.rr d a.1 a.2 b.1 b.2)):=rfl
theorem lG{neg:Bool}{c x y:E}{f i j:Nat}{a b:S}:exS T cf (.ifR neg c f x i j y a b) e=aC (decide (T.mv f=some 1000)&&decide (i≠j)) (do
 let k0<-(if neg then .ok false else do let z<-evE T cf c e;z.truth)
 if k0 then exS T cf a e else do
  let d1<-evE T cf x e
  let g<-(e.at i).givD
  let h<-(e.at j).givD
  let d2<-evE T cf y e
  let r<-fO cf f d1 g h d2
  let k<-r.1.truth
  let e1:=(e.set i ((e.at i).giv (.dct r.2.1))).set j ((e.at j).giv (.dct r.2.2))
  if(k != neg)then exS T cf a e1 else exS T cf b e1):=rfl
theorem GC{i:Nat}:exS T cf (.newD i) e=.ok (.nx (e.set i (.o (.dct [])))):=rfl
theorem Aw{i:Nat}{x:E}:exS T cf (.ext i x) e=(do
 match<-evE T cf x e with
 |.lst b=>do
  let a<-(e.at i).own
  aC (bJ T x&&decide (a.length+b.length<=big)) (.ok (.nx (e.set i (.o (.lst (a++b))))))
 |_=>.no):=rfl
theorem GD  : exS T cf (.never) e=(.no):=rfl
theorem Ax{x:E}:exS T cf (.exp x) e=(do let _<-evE T cf x e;.ok (.nx e)):=rfl
theorem Ay{i:Nat}{x:E}:exS T cf (.asgN i x) e=(do let d<-evE T cf x e;aC (nA T x e&&(d.isNon||d.flatL)) (.ok (.nx (e.set i (.n d))))):=rfl
theorem Az{x:E}:exS T cf (.retK x) e=(do let d<-evE T cf x e;let r<-uI d;.ok (.rt r true)):=rfl
end
section
variable{T:Tab}{cf:Nat->List D->Res D}{e:Nv}
end
section
variable{T:Tab}{cf:Nat->List D->Res D}
theorem BA{x:S}{e:Nv}{z:Str×D}(h:exX T cf x e=some z):∀o,exS T cf x e≠.ok o:=nomatch h
end
end Tr
namespace Tr
open PySem PySem.Spec PyProof.Rows L2 Builtin.Str
theorem BB{x y:Str}(h:x.cps.toList=y.cps.toList):x=y:=by
 cases x;cases y
 simp only[Str.mk.injEq]
 exact Eb.mp h
theorem GE{α:Type}(xs:List α)(a b:Nat)(hb:b<=xs.length):((aD (b-a)).map λk=>a+k).filterMap (xs[·]?)=(xs.drop a).take (b-a):=by
 generalize hn:b-a=n
 induction n generalizing a with
 |zero=>simp
 |succ n ih=>
  have ha:a<xs.length:=by lia
  rw[zN,aK,gT,cB,tD ha,List.take_succ_cons]
  simp only[Nat.add_zero,bD ha]
  congr 1
  rw[<-ih (a+1) (by lia)]
  congr 1
  apply iK
  intro k _
  simp only[Function.comp]
  lia
theorem GF{a b:Int}{p q:Nat}(ha:a=p)(hb:b=q):sliceRange a b 1=(aD (q-p)).map λk=>p+k:=by
 subst ha hb
 unfold sliceRange
 simp only[show(1:Int)>0 by decide,if_true]
 have hc:(if(p:Int)<(q:Int)then((q:Int)-(p:Int)+1-1)/1 else 0).toNat=q-p:=by
  rw[Int.ediv_one]
  split<;>lia
 rw[hc]
 apply iK
 intro k _
 lia
theorem GG(n:Nat)(lo hi:Option Int):strSliceIndices lo hi 1 n=(aD (sIx n n hi-sIx n 0 lo)).map λk=>sIx n 0 lo+k:=by
 unfold strSliceIndices
 refine GF ?_ ?_
 ·cases lo with
  |none=>rfl
  |some v=>
   simp only[show(1:Int)>0 by decide,if_true,sIx]
   split<;>lia
 ·cases hi with
  |none=>rfl
  |some v=>
   simp only[show(1:Int)>0 by decide,if_true,sIx]
   split<;>lia
theorem BC(n d:Nat)(hd:d<=n)(o:Option Int):sIx n d o<=n:=by
 cases o with
 |none=>exact hd
 |some v=>
  simp only[sIx]
  split<;>lia
theorem GH(x:Str)(lo hi:Option Int):Txt.slice x lo hi=iN x lo hi:=by
 have hl:x.cps.toList.length=x.length:=by simp[Str.length]
 unfold Txt.slice
 rw[GG]
 have e:(List.filterMap (x.cps[·]?) ((aD (sIx x.length x.length hi-sIx x.length 0 lo)).map λk=>sIx x.length 0 lo+k))=cut x.cps.toList lo hi:=by
  have:=GE x.cps.toList (sIx x.length 0 lo) (sIx x.length x.length hi) (by rw[hl];exact BC _ _ (aS _) _)
  unfold cut
  rw[hl,<-this]
  congr 1
  funext k
  simp
 split
 ·rename_i c
  simp only[beq_self_eq_true,Bool.true_and,aE,cC,beq_iff_eq]at c
  refine BB ?_
  show _=(cut x.cps.toList lo hi).toArray.toList
  have h1:=BC x.length x.length (aS _) hi
  unfold cut
  by_cases hz:x.length=0
  ·have:x.cps.toList=[]:=Ec (by lia)
   rw[this];simp
  ·have h0:sIx x.length 0 lo=0:=by lia
   have h2:sIx x.length x.length hi=x.length:=by lia
   rw[hl,h0,h2,oX,tF,<-hl,mD (aS _)]
 ·rw[e];rfl
theorem BD{x y:Str}{b:Bool}(h:uG x y=.ok b):(!(occurrences y x 0 y.length 1).isEmpty)=b:=by
 unfold uG at h
 split at h
 ·rename_i c hc
  cases h
  have ex:x=⟨#[c]⟩:=BB (by rw[hc])
  rw[ex]
  exact StrLaws.found_one y c
 ·cases h
section
variable{X:Cx}
theorem BE{v:Value}{o:Option Int}(h:IsPart v o):∃p:Option (Int×Tok),v=partValue p/\p.map (·.1)=o:=by
 cases h with
 |none=>exact⟨none,rfl,rfl⟩
 |int i t=>exact⟨some (i,t),rfl,rfl⟩
theorem sl_str:SlR X (λx lo hi H Q=>∃z,x=.str z/\z.length<=sizeLine/\Q (.str (iN z lo hi)) H):=by
 intro pins s σ H x v vl vu lo hi sl Q I rx hs pl pu h
 obtain⟨z,rfl,hz,q⟩:=h
 obtain⟨t,rfl⟩:=rx
 obtain⟨p,rfl,rfl⟩:=BE pl
 obtain⟨p',rfl,rfl⟩:=BE pu
 refine⟨"str", _,PySem.F.slot_str_getitem.lookup,typeIs_str _ _ _,wpAny_getItem_str_slice (l:=p) (u:=p') (st:=none) hs rfl ?_⟩
 refine post_val_or_str ⟨bX (Txt.slice_le z _ _) hz,λt' k=>?_⟩
 refine⟨.str _,H,I.tok k,⟨t',?_⟩,q⟩
 rw[<-GH]
 rfl
theorem GI:cZ X (.type "int") (λxs H Q=>∃z,xs=[.str z]/\uE z.cps.toList=true/\z.length<=640/\Q (.int (uD z.cps.toList)) H):=by
 intro pins s σ H xs us Q I r h
 obtain⟨z,rfl,hd,hl,q⟩:=h
 obtain⟨u,rfl,rx⟩:=gH r
 obtain⟨t,rfl⟩:=rx
 unfold uE at hd
 rw[aF,gE]at hd
 have had:PySem.NumText.AllDigits z.cps.toList:=λc hc=>by
  have:=hd.2 c hc
  simpa using this
 have hne:z.cps.toList≠[]:=by
  have:=hd.1
  intro e
  rw[e]at this
  cases this
 have hn:=PySem.intText_digits had hne (by lia)
 exact PySem.W.KIN.call_text (n:=((uD z.cps.toList:Nat):Int)) hn hl ⟨.int _,H,I.tok _,⟨_,rfl⟩,q⟩
noncomputable def Its(x:Str):It:=⟨λi _=>i<x.cps.size,λi H v H'=>H'=H/\∃c,x.cps[i]?=some c/\v=.str ⟨#[c]⟩,λi _=>x.cps.size<=i⟩
theorem BF{P:Program}{w:World}{K:PySem.W.Frag}{tg:Expr}(ty:String)(it:Addr)(x:Str)(t:Tok)
 (hty:["enumerate", "zip", "dict_itemiterator", "dict_reverseitemiterator", "odict_iterator", "itertools.zip_longest", "itertools.pairwise"].contains ty=false)
 (W:∀A:Around,A.handled=none->Walks P w A it [it] [it] x.cps.size (SignAt x) (λi h=>h.IsStrIter it ty x t i))
 (en:∀(A:Around)(s:Shared)(i:Nat)(Q:Option Value->Shared->Prop)(E:Value->Shared->Prop),A.handled=none->s.heap.IsStrIter it ty x t i->x.cps[i]?=none->(∀h',Heap.ExtBut it s.heap h'->Q none {s with heap:=h' })->wpAny (model P w) A (pyNext (.ref it)) Q E s)
 (sf:∀(A:Around)(s:Shared)(i:Nat)(Q:Value->Shared->Prop)(E:Value->Shared->Prop),s.heap.IsStrIter it ty x t i->Q (.ref it) s->wpAny (model P w) A (pyIter (.ref it)) Q E s) :
 Turn P w K tg (Its x) [it] it (λi h=>h.IsStrIter it ty x t i) where
 mem:=by simp
 obj:=λi h st b hb=>by
  have e:b=it:=by simpa using hb
  subst e
  obtain⟨o,e,c,d⟩:=st
  exact⟨o,e,λv z=>by rw[d]at z;cases z⟩
 keep:=λi h h' st k=>let ⟨o,e,c⟩:=st;⟨o,k it (by simp) o e,c⟩
 item:=by
  intro X hP hw hK hc i pins s σ H E I hf st hg
  subst hP hw hK
  obtain⟨f0,f1,f2,f3,f4,f5⟩:=hf it (by simp)
  refine(W X.A (I.ok.hd hc)).item i s _ _ hg st λv h' tk hv st' kk=>?_
  obtain⟨c,u,hx,rfl⟩:=hv
  have I1:Inv X pins σ H {s with heap:=h',toks:=tk}:=I.turned (λb o hb e=>kk b o (by simpa using hb) e) f0 f1 f3 f4 f5
  obtain⟨o,e,cc,d⟩:=id st'
  exact⟨_,rfl,mN (s:={s with heap:=h',toks:=tk}) e cc d hty ⟨.str ⟨#[c]⟩,H,I1,⟨u,rfl⟩,⟨rfl,c,hx,rfl⟩,st',λb hb=>(hf b hb).1⟩⟩
 done:=by
  intro X hP hw hK hc i pins s σ H E I hf st hg
  subst hP hw hK
  obtain⟨f0,f1,f2,f3,f4,f5⟩:=hf it (by simp)
  have hn:x.cps[i]?=none:=by
   have:x.cps.size<=i:=hg
   simpa using this
  exact en X.A s i _ _ (I.ok.hd hc) st hn λh' eb=>⟨rfl,I.turned (t':=s.toks) (λb o hb e=>eb b o hb e) f0 f1 f3 f4 f5⟩
 self:=λA i s Q E st h=>sf A s i Q E st h
theorem pi_str{pins:List (Addr×Obj)}{s:Shared}{σ:L2.St}{H:Hp}{tg:Expr}{R:It->Hp->Prop}{x:Str}{t:Tok}(I:Inv X pins σ H s)(h:R (Its x) H) :
 wpAny (model X.prog X.w) X.A (pyIter (.str x t)) (PIE X pins σ tg R) X.xe s:=by
 have fp:∀b∈[s.heap.objs.size],gG X pins H b:=λb hb=>by
  rcases aV.mp hb with rfl|hb
  ·exact I.fpOk (aS _) (I.hok.fresh (aS _))
  ·cases hb
 cases ha:x.cps.all (· < 128)
 ·refine wpAny_pyIter_wide ha ?_
  exact⟨s.heap.objs.size,[s.heap.objs.size],_,Its x,H,rfl,I.kept (t':=s.toks) λb u e=>Heap.get?_push_of_some _ e,BF "str_iterator" _ x t (by decide) (λA hA=>Walks.strWide hA _ x t) (λA s i Q E hA st hx k=>wpAny_pyNext_wide_end hA st hx k) (λA s i Q E st k=>wpAny_pyIter_striter_wide st k),⟨_,Heap.get?_push_size _ rfl,rfl,rfl⟩,fp,h⟩
 ·refine wpAny_pyIter_ascii ha ?_
  exact⟨s.heap.objs.size,[s.heap.objs.size],_,Its x,H,rfl,I.kept (t':=s.toks) λb u e=>Heap.get?_push_of_some _ e,BF "str_ascii_iterator" _ x t (by decide) (λA hA=>Walks.strAscii hA _ x t) (λA s i Q E hA st hx k=>wpAny_pyNext_ascii_end hA st hx k) (λA s i Q E st k=>wpAny_pyIter_striter_ascii st k),⟨_,Heap.get?_push_size _ rfl,rfl,rfl⟩,fp,h⟩
end
end Tr
namespace Tr
open PySem PySem.Spec PyProof.Rows L2
section
variable{prog:Program}{w:World}{A:Around}{E:Value->Shared->Prop}{s:Shared}
end
end Tr
namespace Tr
open PySem PySem.Spec PyProof.Rows L2 PySem.SeqAt
noncomputable def ModS (K:PySem.W.Frag) (a:Addr) (ss:List Str):Prop:=∃(o:Obj) (its:Array Value) (n:Nat),K.lookup a=some o/\o.cls=.type "tuple" /\ o.dict=none/\o.data=.seq its n/\Vals (ss.map V.str) its.toList
end Tr
namespace Tr
open PySem PySem.Spec PyProof.Rows L2
noncomputable def met(val:Nat->Key):Nat->List Key
 |0=>[]
 |i+1=>if(met val i).any (λx=>decide (x=val i))then met val i else met val i++[val i]
section
variable{prog:Program}{w:World}{A:Around}{R:Result->Shared->Prop}{I:Addr}{fp wr:List Addr}{G:Array GenState->Array GenState->Prop}{n:Nat}{P:Nat->Value->Prop}{St:Nat->Shared->Prop}
end
section
variable{prog:Program}{w:World}{A:Around}{E:Value->Shared->Prop}{s:Shared}
end
section
variable{prog:Program}{w:World}{A:Around}{E:Value->Shared->Prop}{s:Shared}
end
theorem vals_ints:∀{ns:List Int} {its:List Value},Vals (ns.map V.int) its->∃xs:List (Int×Tok),its=xs.map (λp=>Value.int p.1 p.2)/\xs.map (·.1)=ns
 |[],_,h=>by cases h;exact⟨[],rfl,rfl⟩
 |n::ns,_,h=>by
  cases h with
  |cons r rr=>
   obtain⟨t,rfl⟩:=r
   obtain⟨xs,rfl,e⟩:=vals_ints rr
   exact⟨(n,t)::xs,rfl,by rw[aK,e]⟩
section
variable{prog:Program}{w:World}{A:Around}{R:Result->Shared->Prop}{it:Addr}{fp wr:List Addr}{n:Nat}{P:Nat->Value->Prop}{St:Nat->Heap->Prop}
end
section
variable{prog:Program}{w:World}{A:Around}{E:Value->Shared->Prop}{s:Shared}
end
section
variable{prog:Program}{w:World}{A:Around}{R:Result->Shared->Prop}{I:Addr}{fp wr:List Addr}{G:Array GenState->Array GenState->Prop}{n:Nat}{P:Nat->Value->Prop}{St:Nat->Shared->Prop}
end
section
variable{prog:Program}{w:World}{A:Around}{E:Value->Shared->Prop}{s:Shared}
end
section
variable{prog:Program}{w:World}{A:Around}{E:Value->Shared->Prop}{s:Shared}
end
section
variable{prog:Program}{w:World}{A:Around}{E:Value->Shared->Prop}{s:Shared}
end
section
variable{prog:Program}{w:World}{A:Around}{E:Value->Shared->Prop}{s:Shared}
end
section
variable{prog:Program}{w:World}{A:Around}{E:Value->Shared->Prop}{s:Shared}
end
section
variable{prog:Program}{w:World}{A:Around}{E:Value->Shared->Prop}{s:Shared}{l:Addr}{xs:Array (Int×Tok)}
end
theorem uL:∀{vs:List Value} {ns:List Int},IntsAre vs ns->Vals (ns.map V.int) vs
 |_,_,.nil=>.nil
 |_,_,.cons n t h=>.cons ⟨t,rfl⟩ (uL h)
section
variable{prog:Program}{w:World}{A:Around}{E:Value->Shared->Prop}{s:Shared}{l:Addr}{its:List Value}
end
end Tr
namespace Tr
open PySem
end Tr
namespace Tr
open PySem PySem.Spec PyProof.Rows L2
section
variable{prog:Program}{w:World}{A:Around}{E:Value->Shared->Prop}{s:Shared}
end
section
variable{prog:Program}{w:World}{A:Around}{E:Value->Shared->Prop}{s:Shared}
end
section
variable{prog:Program}{w:World}{A:Around}{E:Value->Shared->Prop}{s:Shared}
end
section
variable{prog:Program}{w:World}{A:Around}{R:Result->Shared->Prop}{I:Addr}{fp wr:List Addr}{G:Array GenState->Array GenState->Prop}{n:Nat}{P:Nat->Value->Prop}{St:Nat->Shared->Prop}
end
section
variable{prog:Program}{w:World}{A:Around}{E:Value->Shared->Prop}{s:Shared}
end
section
variable{prog:Program}{w:World}{A:Around}{E:Value->Shared->Prop}{s:Shared}
end
theorem BG:∀{as:List Addr} {its:List Value},Vals (as.map V.ref) its->its=as.map Value.ref
 |[],its,r=>by cases r;rfl
 |a::as,its,r=>by
  cases r with
  |cons r1 r=>rw[BG r,show _=Value.ref a from r1];rfl
end Tr
namespace Tr
open PySem PySem.Spec PyProof.Rows L2 PySem.SeqAt
end Tr
namespace Tr
open PySem PySem.Spec PyProof.Rows L2
theorem uM:∀{ns:List Int} {vs:List Value},Vals (ns.map V.int) vs->IntsAre vs ns
 |[],vs,r=>by cases r;exact .nil
 |n::ns,vs,r=>by
  cases r with
  |cons r1 r=>
   obtain⟨t,rfl⟩:=r1
   exact .cons _ _ (uM r)
theorem GJ {X:Cx}:cZ X (.builtin "sorted") (λvs H Q=>∃(a:Addr) (ns:List Int),vs=[.ref a]/\SqL X.K H a (ns.map V.int)/\ns.length<64/\∀(l:Addr) (ns':List Int),H l=none->ns'.Perm ns->ns'.Pairwise (·<=·)->Q (.ref l) (upd H l (.lst (ns'.map V.int)))):=by
 intro pins s σ H vs us Q I rv h
 obtain⟨a,ns,rfl,hS,h64,q⟩:=h
 obtain⟨u,rfl,ru⟩:=rv.one
 cases ru
 obtain⟨its,r,pl,hz⟩:=I.list hS
 have hI:=uM r
 have hl:its.length=ns.length:=by rw[<-r.length,aE]
 refine sorted_ints pl.isList hI (by lia) λout ns' a1 a2 a3=>?_
 obtain⟨e,he⟩:=sortedAll_at s.heap its out
 have hge:s.heap.objs.size<=s.heap.objs.size+1:=oY _
 refine⟨.ref (s.heap.objs.size+1),_,I.laid (t':=s.toks) (λb o x=>sortedAll_old x) hge ?_,rfl,q _ ns' (I.hok.fresh hge) a2 a3⟩
 have hv:=uL a1
 refine⟨by rw[aE,a2.length_eq,sizeLine_eq];lia,out.toList,e,hv,by simpa using he⟩
theorem kv_get{ps:List (Key×V)}{vs:List (Key×Value)}(r:KV ps vs){i:Nat}{k:Key}{v:V}(h:ps[i]?=some (k,v)):∃u,vs[i]?=some (k,u):=by
 have e:=congrArg (λl=>l[i]?) r.keys
 simp only[bT,h]at e
 cases hv:vs[i]? with
 |none=>rw[hv]at e;cases e
 |some q=>
  rw[hv]at e
  injection e with e
  exact⟨q.2,by rw[show k=q.1 from e]⟩
theorem GK{P:Program}{w:World}{k:Key}{u:Value}(h:(bW P w).is k u=true):RelV (kV k) u:=by
 rcases gZ h with⟨i,t,rfl,rfl⟩|⟨x,t,rfl,rfl⟩
 ·exact⟨t,rfl⟩
 ·exact⟨t,rfl⟩
theorem BH{X:Cx}{pins:List (Addr×Obj)}{σ:L2.St}{H:Hp}{s:Shared}{a:Addr}{ps:List (Key×V)}(I:Inv X pins σ H s)(h:H a=some (.dK ps)) :
 ∃o es ep,o.data=.dict es ep/\Inv X pins σ (L2.upd H a (.frz o (.dK ps))) s:=by
 have hk:=(show ObjOk X.prog X.w H s.heap a (.dK ps)from I.hok a _ h)
 obtain⟨e2,e3,vs,e4,o,es,ep,g1,g2,g3,g4⟩:=id hk
 have ne:∀{b u},H b=some u->u≠.dK ps->b≠a:=λx1 x2 z=>by rw[z,h]at x1;cases x1;exact x2 rfl
 refine⟨o,es,ep,g3,?_⟩
 refine I.step (h':=s.heap) (g':=s.gens) (d':=s.drawn) (t':=s.toks) (ch:=[]) (λb hb=>by cases hb) (λb u _ _ _ x1 _=>x1) (λb u _ _ _ x1 _=>⟨u.slots,x1⟩) (λb u _ x1 x2=>?_) (λb u _ x1=>⟨u,x1⟩) (λb xs x1=>?_) (λb v w x1=>?_) (λb ps x1=>⟨#[],?_⟩) (λm x1=>x1) (λb v x1=>?_) I.bare
 ·rw[aH (λz=>by rw[z,h]at x2;cases x2)];exact x2
 ·rw[aH (ne x1 (λz=>by cases z))];exact x1
 ·rw[aH (ne x1 (λz=>by cases z))];exact x1
 ·rw[aH (ne x1 (λz=>by cases z))];simpa using x1
 ·by_cases z:b=a
  ·rw[z,bM]at x1
   cases x1
   rw[z]
   exact⟨g1,e2,e3,vs,e4,o,es,ep,g1,g2,g3,g4⟩
  ·rw[aH z]at x1
   exact(I.hok b v x1).stay (λc u _ y1=>y1) (λc y1=>by rw[aH (ne y1 (λz=>by cases z))];exact y1) (λc xs y1=>by rw[aH (ne y1 (λz=>by cases z))];exact y1) λc ob u y1=>by rw[aH (ne y1 (λz=>by cases z))];exact y1
noncomputable def RawD(h:Heap)(d:Addr)(es:Array DictEntry)(ep:Nat):Prop:=∃o,h.get? d=some o/\o.ExactDict/\o.data=.dict es ep
section
variable{prog:Program}{w:World}{A:Around}{E:Value->Shared->Prop}{s:Shared}{d it:Addr}{es:Array DictEntry}{ep i:Nat}
theorem RawD.ty (h:RawD s.heap d es ep):s.TypeIs (.ref d) "dict" := let ⟨o,a,b,_⟩:=h;⟨o,a,b.1⟩
theorem GL{Q:Value->Shared->Prop}(nd:(d==sysModules)=false)(h:RawD s.heap d es ep)
 (q:Q (.ref s.heap.objs.size) {s with heap:=s.heap.push {cls:=.type "dict_keyiterator", data:=.fields #[.ref d,.int 0 0,.int es.size 0,.int ep 0] } }):wpAny (model prog w) A (pyIter (.ref d)) Q E s:=by
 have ty:=h.ty
 obtain⟨o,g1,g2,g3⟩:=h
 apply wpAny_pyIter_slot ty F.slot_dict_iter
 apply wpAny_call_entry F.slot_dict_iter ty F.entry_dict_iter _ (F.args_dict_iter_1 _)
 unfold Builtin.«dict.__iter__»;apply wpAny_bind;unfold Builtin.Dict.dictSlotNone;apply wpAny_bind;apply wpAny_notOrdered_dict ty
 apply(wpAny_pure _:wpAny _ _ (pure (Value.ref d)) _ _ s);show wpAny _ _ (Builtin.Dict.showsAll d>>=_) _ _ s
 unfold Builtin.Dict.showsAll;rw[if_neg (by rw[nd];exact aO)];apply wpAny_bind;apply wpAny_pure
 apply wpAny_bind;apply wpAny_dictEntries g1 g3;apply wpAny_bind;apply wpAny_dictEpoch g1 g3
 refine wpAny_bind (wpAny_newObj_type ?_ (by size_fits));apply wpAny_pure
 exact⟨_,rfl, "dict_keyiterator", _,⟨_,Heap.get?_push_size _ rfl,rfl⟩,F.slot_dict_keyiterator_next.lookup,by simpa[rawInt]using q⟩
theorem GM{Q:Option Value->Shared->Prop}{en:DictEntry}(hi:s.heap.IsKeyIter it d i es.size ep)(h:RawD s.heap d es ep)(hx:es[i]?=some en)
 (q:∀h',h'.IsKeyIter it d (i+1) es.size ep->Heap.SameBut it s.heap h'->Q (some en.key) {s with heap:=h' }):wpAny (model prog w) A (pyNext (.ref it)) Q E s:=by
 obtain⟨u,k1,k2,k3⟩:=id hi
 obtain⟨o,g1,g2,g3⟩:=h
 unfold pyNext;apply wpAny_bind;apply wpAny_attempt;apply wpAny_callSpecial?_slot (name:=Str.ofString "__next__") hi.typeIs F.slot_dict_keyiterator_next
 apply wpAny_call_entry F.slot_dict_keyiterator_next hi.typeIs F.entry_dict_keyiterator_next _ (F.args_dict_keyiterator_next_1 _)
 apply wpAny_bind;apply wpAny_pure;apply wpAny_bind;apply wpAny_bind
 first|(apply wpAny_bind;apply wpAny_typeNameOfWhole_keyiter hi.typeIs;apply wpAny_pure)|(apply wpAny_bind;apply wpAny_typeNameOf_keyiter hi.typeIs;apply wpAny_pure)
 apply wpAny_bind;apply wpAny_fieldsOf k1 k3
 have no:Builtin.Dict_items.ownsTuple "dict_keyiterator" = false:=by decide
 simp only[no,mF,if_false];show wpAny _ _ (if(Value.ref d==Value.none)=true then _ else _) _ _ s
 rw[if_neg (show ¬((Value.ref d==Value.none)=true)from aO)];apply wpAny_bind;apply wpAny_pure
 apply wpAny_bind;apply wpAny_dictEntries g1 g3;rw[if_neg (by simp)];apply wpAny_bind;apply wpAny_pure
 apply wpAny_bind;apply wpAny_dictEpoch g1 g3;rw[if_neg (by simp)];apply wpAny_pure
 simp only[show ¬((i:Int)<0)from by lia,if_false,kY,hx]
 apply wpAny_bind
 first|(apply wpAny_bind;apply wpAny_typeNameOfWhole_keyiter hi.typeIs;apply wpAny_pure)|(apply wpAny_bind;apply wpAny_typeNameOf_keyiter hi.typeIs;apply wpAny_pure)
 apply wpAny_bind;apply wpAny_isOneOf_keyiter hi.typeIs;show wpAny _ _ (setField (.ref it) 1 (rawInt ((i:Int)+1))>>=_) _ _ s
 apply wpAny_bind;apply wpAny_setField k1 k3 (by simp)
 have hi2:(s.heap.update it (Obj.mapFields (·.setIfInBounds 1 (rawInt ((i:Int)+1))))).IsKeyIter it d (i+1) es.size ep:=⟨_,Heap.get?_update_self _ k1 (Obj.isFreed_of_fields (Obj.data_mapFields k3 _)),(Obj.cls_mapFields ..).trans k2,by rw[Obj.data_mapFields k3];simp[rawInt]⟩
 apply wpAny_bind;apply wpAny_holding;apply wpAny_bind
 apply wpAny_isOneOf_keyiter (s:={s with heap:=s.heap.update it (Obj.mapFields (·.setIfInBounds 1 (rawInt ((i:Int)+1)))) }) hi2.typeIs
 show wpAny _ _ (pure en.key) _ _ _;apply wpAny_pure;apply wpAny_pure;exact⟨_,rfl,wpAny_pure (q _ hi2 (Heap.SameBut.update ..))⟩
theorem GN{Q:Option Value->Shared->Prop}(hh:A.handled=none)(hi:s.heap.IsKeyIter it d i es.size ep)(h:RawD s.heap d es ep)(hx:es[i]?=none)
 (q:∀h',Heap.ExtBut it s.heap h'->Q none {s with heap:=h' }):wpAny (model prog w) A (pyNext (.ref it)) Q E s:=by
 obtain⟨u,k1,k2,k3⟩:=id hi
 obtain⟨o,g1,g2,g3⟩:=h
 unfold pyNext;apply wpAny_bind;apply wpAny_attempt;apply wpAny_callSpecial?_slot (name:=Str.ofString "__next__") hi.typeIs F.slot_dict_keyiterator_next
 apply wpAny_call_entry F.slot_dict_keyiterator_next hi.typeIs F.entry_dict_keyiterator_next _ (F.args_dict_keyiterator_next_1 _)
 apply wpAny_bind;apply wpAny_pure;apply wpAny_bind;apply wpAny_bind
 first|(apply wpAny_bind;apply wpAny_typeNameOfWhole_keyiter hi.typeIs;apply wpAny_pure)|(apply wpAny_bind;apply wpAny_typeNameOf_keyiter hi.typeIs;apply wpAny_pure)
 apply wpAny_bind;apply wpAny_fieldsOf k1 k3
 have no:Builtin.Dict_items.ownsTuple "dict_keyiterator" = false:=by decide
 simp only[no,mF,if_false];show wpAny _ _ (if(Value.ref d==Value.none)=true then _ else _) _ _ s
 rw[if_neg (show ¬((Value.ref d==Value.none)=true)from aO)];apply wpAny_bind;apply wpAny_pure
 apply wpAny_bind;apply wpAny_dictEntries g1 g3;rw[if_neg (by simp)];apply wpAny_bind;apply wpAny_pure
 apply wpAny_bind;apply wpAny_dictEpoch g1 g3;rw[if_neg (by simp)];apply wpAny_pure
 simp only[show ¬((i:Int)<0)from by lia,if_false,kY,hx]
 apply wpAny_bind
 first|(apply wpAny_bind;apply wpAny_typeNameOfWhole_keyiter hi.typeIs;apply wpAny_pure)|(apply wpAny_bind;apply wpAny_typeNameOf_keyiter hi.typeIs;apply wpAny_pure)
 show wpAny _ _ (setField (.ref it) 0 .none>>=_) _ _ s;apply wpAny_bind;apply wpAny_setField k1 k3 (by simp)
 show wpAny _ _ (newExc (.type "StopIteration") []>>=_) _ _ _;apply wpAny_bind;simp only[newExc,newTuple]
 refine wpAny_bind (wpAny_newObj_type ?_ (by size_fits));refine wpAny_bind (m:=firstArgMember _ _) (wpAny_of_eq (a:=Value.none) (by first|rfl|(simp only[firstArgMember];rfl)) ?_)
 refine wpAny_newObj_type ?_ (by size_fits);simp only[raiseNew];apply wpAny_bind;apply wpAny_handled;rw[show A.in1.handled=none from hh]
 refine wpAny_bind (wpAny_pure (wpAny_throw ?_));refine wpAny_bind (wpAny_isInstance (b:=true) (T := "StopIteration") ⟨_,Heap.get?_push_size _ rfl,rfl⟩ isSubtype_stop ?_)
 exact wpAny_pure (q _ (((Heap.SameBut.update ..).extBut.push _).push _))
end
theorem GO{X:Cx}{pins:List (Addr×Obj)}{σ:L2.St}{H:Hp}{s:Shared}{a:Addr}{ps:List (List Key×V)}(I:Inv X pins σ H s)(h:H a=some (.dT ps)) :
 ∃o es ep,o.data=.dict es ep/\Inv X pins σ (L2.upd H a (.frz o (.dT ps))) s:=by
 have hk:=(show ObjOk X.prog X.w H s.heap a (.dT ps)from I.hok a _ h)
 obtain⟨e2,e3,xs,e4,o,es,ep,g1,g2,g3,g4⟩:=id hk
 have ne:∀{b u},H b=some u->u≠.dT ps->b≠a:=λx1 x2 z=>by rw[z,h]at x1;cases x1;exact x2 rfl
 refine⟨o,es,ep,g3,?_⟩
 refine I.step (h':=s.heap) (g':=s.gens) (d':=s.drawn) (t':=s.toks) (ch:=[]) (λb hb=>by cases hb) (λb u _ _ _ x1 _=>x1) (λb u _ _ _ x1 _=>⟨u.slots,x1⟩) (λb u _ x1 x2=>?_) (λb u _ x1=>⟨u,x1⟩) (λb xs x1=>?_) (λb v w x1=>?_) (λb ps x1=>⟨#[],?_⟩) (λm x1=>x1) (λb v x1=>?_) I.bare
 ·rw[aH (λz=>by rw[z,h]at x2;cases x2)];exact x2
 ·rw[aH (ne x1 (λz=>by cases z))];exact x1
 ·rw[aH (ne x1 (λz=>by cases z))];exact x1
 ·rw[aH (ne x1 (λz=>by cases z))];simpa using x1
 ·by_cases z:b=a
  ·rw[z,bM]at x1
   cases x1
   rw[z]
   exact⟨g1,e2,e3,xs,KT.keeps e4 λc ys ec=>by rw[aH (ne ec (λz=>by cases z))];exact ec,o,es,ep,g1,g2,g3,g4⟩
  ·rw[aH z]at x1
   exact(I.hok b v x1).stay (λc u _ y1=>y1) (λc y1=>by rw[aH (ne y1 (λz=>by cases z))];exact y1) (λc xs y1=>by rw[aH (ne y1 (λz=>by cases z))];exact y1) λc ob u y1=>by rw[aH (ne y1 (λz=>by cases z))];exact y1
noncomputable def BI(H:Hp)(a:Addr)(o:Obj)(n:Nat)(i:Nat)(x:Option V):Prop:=
 (∃ps:List (Key×V),H a=some (.frz o (.dK ps))/\ps.length=n/\x=(ps[i]?).map λq=>kV q.1) \/
 (∃ps:List (List Key×V),H a=some (.frz o (.dT ps))/\ps.length=n/\((ps[i]?=none/\x=none)\/∃q b,ps[i]?=some q/\x=some (.ref b)/\H b=some (.tup (q.1.map kV))))
noncomputable def Itk(a:Addr)(o:Obj)(n:Nat):It:=
 ⟨λi H=>(∃ps:List (Key×V),H a=some (.frz o (.dK ps))/\ps.length=n/\i<n)\/∃ps:List (List Key×V),H a=some (.frz o (.dT ps))/\ps.length=n/\i<n,λi H x H'=>H'=H/\BI H a o n i (some x),
  λi H=>((∃ps:List (Key×V),H a=some (.frz o (.dK ps))/\ps.length=n)\/∃ps:List (List Key×V),H a=some (.frz o (.dT ps))/\ps.length=n)/\n<=i⟩
section
variable{X:Cx}{pins:List (Addr×Obj)}{σ:L2.St}{H:Hp}{s:Shared}{a:Addr}{o:Obj}{es:Array DictEntry}{ep:Nat}
theorem uN{ps:List (Key×V)}(I:Inv X pins σ H s)(h:H a=some (.frz o (.dK ps)))(hd:o.data=.dict es ep):RawD s.heap a es ep/\(a==sysModules)=false/\es.size=ps.length/\∀(i:Nat)(q:Key×V),ps[i]?=some q->∃en:DictEntry,es[i]?=some en/\RelV (kV q.1) en.key:=by
 obtain⟨e1,e2,e3,vs,e4,o',es',ep',g1,g2,g3,g4,g5,g6⟩:=(show ObjOk X.prog X.w H s.heap a (.frz o (.dK ps))from I.hok a _ h)
 rw[e1]at g1
 cases g1
 rw[hd]at g3
 cases g3
 have hl:=e4.length
 have hs:es.size=ps.length:=by rw[hl,<-g5.length];simp
 refine⟨⟨o,e1,g2,hd⟩,e3,hs,λi q hq=>?_⟩
 obtain⟨u,hu⟩:=kv_get e4 (k:=q.1) (v:=q.2) hq
 have hi:i<es.size:=by
  rw[hs]
  by_cases z:i<ps.length
  ·exact z
  ·rw[oZ (by lia)]at hq;cases hq
 exact⟨es[i],Array.getElem?_eq_getElem hi,GK (g5.get? (e:=es[i]) (by simp[hi]) hu).1⟩
theorem uO{ps:List (List Key×V)}(I:Inv X pins σ H s)(h:H a=some (.frz o (.dT ps)))(hd:o.data=.dict es ep):RawD s.heap a es ep/\(a==sysModules)=false/\es.size=ps.length/\∀(i:Nat)(q:List Key×V),ps[i]?=some q->∃(en:DictEntry)(b:Addr),es[i]?=some en/\en.key=.ref b/\H b=some (.tup (q.1.map kV)):=by
 obtain⟨e1,e2,e3,xs,e4,o',es',ep',g1,g2,g3,g4,g5⟩:=(show ObjOk X.prog X.w H s.heap a (.frz o (.dT ps))from I.hok a _ h)
 rw[e1]at g1
 cases g1
 rw[hd]at g3
 cases g3
 have hl:=Paired.length e4
 have hs:es.size=ps.length:=by rw[hl,<-oR,g4,aE]
 refine⟨⟨o,e1,g2,hd⟩,e3,hs,λi q hq=>?_⟩
 have get:∀{l:List (List Key×V)} {m:List (List Key×Addr×Value)},KT H l m->∀{i:Nat} {q:List Key×V},l[i]?=some q->∃z,m[i]?=some z/\H z.2.1=some (.tup (q.1.map kV)):=by
  intro l m k
  induction k with
  |nil=>intro i q z;simp at z
  |cons hq t ih=>
   intro i q z
   cases i with
   |zero=>cases z;exact⟨_,rfl,hq.2.1⟩
   |succ j=>exact ih (by simpa using z)
 obtain⟨z,hz,ht⟩:=get e4 hq
 refine⟨entryOfKey (tupleKind (bW X.prog X.w)) z,z.2.1,?_,rfl,ht⟩
 rw[<-LH,g4,bT,hz];rfl
end
theorem GP{P:Program}{w:World}{K:PySem.W.Frag}{tg:Expr}{o:Obj}{es:Array DictEntry}{ep:Nat}(hd:o.data=.dict es ep)(a it:Addr)(n:Nat)(hn:es.size=n) :
 Turn P w K tg (Itk a o n) [it] it (λi h=>h.IsKeyIter it a i n ep) where
 mem:=by simp
 obj:=λi h st b hb=>by
  have e:b=it:=by simpa using hb
  subst e
  obtain⟨o,e,c,d⟩:=st
  exact⟨o,e,λv z=>by rw[d]at z;cases z⟩
 keep:=λi h h' st k=>by
  obtain⟨u,h1,h2⟩:=st
  exact⟨u,k it (by simp) u h1,h2⟩
 item:=by
  intro X hP hw hK hc i pins s σ H E I hf st hg
  subst hP hw hK hn
  obtain⟨f0,f1,f2,f3,f4,f5⟩:=hf it (by simp)
  have fin:∀en,RawD s.heap a es ep->es[i]?=some en->(∃x,RelV x en.key/\BI H a o es.size i (some x))->wpAny (model X.prog X.w) X.A (pyNext (.ref it)) (λr s1=>∃u,r=some u /\
   wpAny (model X.prog X.w) X.A (letOwnedTupleGo tg (.ref it) u) (λ_ s2=>∃x H',Inv X pins σ H' s2/\RelV x u/\(Itk a o es.size).yld i H x H'/\s2.heap.IsKeyIter it a (i+1) es.size ep/\∀b∈[it],H' b=none) E s1) E s:=by
   intro en rw' hx ⟨x,r1,r2⟩
   refine GM st rw' hx λh' st2 sb=>?_
   have I1:Inv X pins σ H {s with heap:=h' }:=I.turned (t':=s.toks) (λb o hb e=>(sb.2 b hb).trans e) f0 f1 f3 f4 f5
   obtain⟨o',e,c,d⟩:=id st2
   exact⟨_,rfl,mN (s:={s with heap:=h' }) e c d (by decide) ⟨x,H,I1,r1,⟨rfl,r2⟩,st2,λb hb=>(hf b hb).1⟩⟩
  rcases hg with⟨ps,h1,h2,h3⟩|⟨ps,h1,h2,h3⟩
  ·obtain⟨x1,x2,x3,x4⟩:=uN I h1 hd
   obtain⟨en,y1,y2⟩:=x4 i ps[i] (bD (by lia))
   exact fin en x1 y1 ⟨_,y2,.inl ⟨ps,h1,h2,by rw[bD (by lia)];rfl⟩⟩
  ·obtain⟨x1,x2,x3,x4⟩:=uO I h1 hd
   obtain⟨en,b,y1,y2,y3⟩:=x4 i ps[i] (bD (by lia))
   exact fin en x1 y1 ⟨.ref b,by rw[y2];rfl,.inr ⟨ps,h1,h2,.inr ⟨_,b,bD (by lia),rfl,y3⟩⟩⟩
 done:=by
  intro X hP hw hK hc i pins s σ H E I hf st hg
  subst hP hw hK hn
  obtain⟨f0,f1,f2,f3,f4,f5⟩:=hf it (by simp)
  obtain⟨hg,hi⟩:=hg
  have rw':RawD s.heap a es ep:=by
   rcases hg with⟨ps,h1,h2⟩|⟨ps,h1,h2⟩
   ·exact(uN I h1 hd).1
   ·exact(uO I h1 hd).1
  exact GN (I.ok.hd hc) st rw' (Array.getElem?_eq_none hi) λh' eb=>⟨rfl,I.turned (t':=s.toks) (λb o hb e=>eb b o hb e) f0 f1 f3 f4 f5⟩
 self:=λ_ _ _ _ _ st h=>wpAny_pyIter_keyiter st h
section
variable{prog:Program}{w:World}{A:Around}{E:Value->Shared->Prop}{s:Shared}{l:Addr}{its:List Value}{n:Nat}
theorem GQ {k:Int} {t:Tok} {Q:Value->Shared->Prop} {dd:Option Addr} {sl:Array (Option Value)} (hl:s.heap.get? l=some {cls:=.type "list", dict:=dd,data:=.seq its.toArray n,slots:=sl}) (h1:its.length=1) (hk:0<=k/\k<=1000)
 (h:Q (.ref s.heap.objs.size) {s with heap:=s.heap.push {cls:=.type "list", data:=.seq (aU k.toNat its).flatten.toArray} }):wpAny (model prog w) A (binaryOp .Mult (.ref l) (.int k t)) Q E s:=by
 have hsz:its.toArray.size=1:=by rw[bG];exact h1
 have hne:its.toArray.isEmpty=false:=by
  cases its with
  |nil=>cases h1
  |cons _ _=>rfl
 have hf:List.foldl (λx1 x2=>x1++x2) #[] (aU (if its.toArray.isEmpty=true then 0 else k.toNat) its.toArray)=(aU k.toNat its).flatten.toArray:=by
  rw[hne,if_neg aO]
  have:=A4 its k.toNat []
  rw[zO]at this
  exact this
 have ty:s.TypeIs (.ref l) "list" := ⟨_,hl,rfl⟩
 apply wpAny_binaryOp_repeat_ref (T := "list") (U := "int") (by decide) ty (λs'=>typeIs_int s' k t) PySem.noFill_list_mul PySem.F.fills_int_mul PySem.F.slot_int_rmul PySem.repeat_list PySem.F.slot_int_index.lookup
 apply call_meets PySem.F.slot_int_rmul (typeIs_int s k t) PySem.F.entry_int_rmul (PySem.F.args_int_rmul_2 _ _) (lm_int_rmul_list_any k t l its.toArray n dd sl)
 refine⟨hl,rfl,ty,call_meets PySem.F.slot_list_mul ty PySem.F.entry_list_mul (PySem.F.args_list_mul_2 _ _) (lm_list_mul_any l its.toArray n dd sl k t (by simp[Builtin.List.listFitsIndex];lia) (by rw[hsz];lia) (by rw[hsz];simp[Builtin.List.listTooLong,sizeLine];lia)) ⟨hl,?_⟩⟩
 rw[hf]
 exact h
end
section
variable{prog:Program}{w:World}{A:Around}{E:Value->Shared->Prop}{s:Shared}{r:Addr}{a b c:Int}{t u v:Tok}{n:Nat}
end
end Tr
namespace Tr
open PySem PySem.Spec PyProof.Rows L2 PySem.W
section
variable{α β:Type}
end
section
variable{P:Program}{w:World}{H H':Hp}{h h':Heap}{a:Addr}{o:HO}
end
noncomputable def CXE(P:Program)(w:World):CXT:=λouter H s E ev s'=>∃(ea:Addr)(cls a0:Value)(H':Hp)(B:Heap),ev=.ref ea/\s'.os=s.os/\AllBare s'.gens/\Un (frs outer) [] H H' s.heap s'.heap/\HOk P w H' s'.heap /\
 s.heap.get? ea=none/\H' ea=none/\Heap.FlyingW B outer ea cls a0 s'.heap/\(∀b o,s.heap.get? b=some o->b∉frs outer->∃u,B.get? b=some u)/\(∀b o,H' b=some o->∃u,B.get? b=some u)/\∃od,(∃oe,s'.heap.get? ea=some oe/\oe.dict=od)/\E cls od H'
theorem uP{P:Program}{w:World}{X:Cx}:pJ (CXE P w) X E0:=by
 intro _ _ _ _ _ _ _ h
 obtain⟨_,_,_,_,_,_,_,_,_,_,_,_,_,_,_,_,_,z⟩:=h
 exact z.elim
section
variable{P:Program}{w:World}{K:PySem.W.Frag}{mg:Str->Option Value}{base:Heap}{N:List Str}{qual:Str}{scope:Scope}{f:Addr}{cd:Value}{A:Around}{outer:List Env}{s₀:Shared}{H₀:Hp}{E:XK}
end
noncomputable abbrev bmV:List Value:=[.type "ValueError", .type "Exception", .type "BaseException", .type "object"]
section
variable{M:Model}{A:Around}{E:Value->Shared->Prop}{h:Heap}{g:Array GenState}{d:Drawn}{t:Nat}{os:OsState}
variable{nm q:Str}{C N:Addr}{bs bm:List Value}{hdct:Bool}{sn:List Str}{sub:List Value}{ab:Bool}{col:Option Bool}{dd:Option Addr}{k0 k1 k2 k3 k5:Option Value}{newId:String}
variable{nm' q':Str}{C' N':Addr}{bs' bm':List Value}{hdct':Bool}{sn':List Str}{sub':List Value}{ab':Bool}{col':Option Bool}{dd':Option Addr}{k0' k1' k2' k3' k5':Option Value}{newId':String}
end
section
variable{X:Cx}{pins:List (Addr×Obj)}{σ:L2.St}{H:Hp}{s:Shared}
end
section
variable{X:Cx}{pins:List (Addr×Obj)}{σ:L2.St}{H:Hp}{s s':Shared}
end
noncomputable abbrev newV:String := "ValueError.__new__"
noncomputable def cvK(K:PySem.W.Frag)(c:Str):Value:=match nsIn K mainGlobals c with
 |some (some v)=>v
 |_=>.none
structure ClsIs(K:PySem.W.Frag)(mg:Str->Option Value)(c:Str)(C:Addr):Prop where
 bound:mg c=some (.ref C)
 cv:cvK K c=.ref C
 exc:excIn K C bmV newV=true
end Tr
namespace Tr
open PySem PySem.Spec PyProof.Rows L2 PySem.W Builtin Builtin.ObjectAttr Builtin.Getset_descriptor
section
variable{prog:Program}{w:World}{A:Around}{E:Value->Shared->Prop}{K:PySem.W.Frag}{a C:Addr}{o:Obj}
end
end Tr
namespace Tr
open PySem PySem.Spec PyProof.Rows L2 PySem.W
section
variable{X:Cx}{pins:List (Addr×Obj)}{σ:L2.St}{H:Hp}{s:Shared}
end
section
variable{X:Cx}{body:List Stmt}{pos:Pos}{h₀:ExceptHandler}{hs:List ExceptHandler}
end
section
variable{prog:Program}{w:World}{A:Around}{E:Value->Shared->Prop}{h:Heap}{g:Array GenState}{d:Drawn}{t:Nat}{os:OsState}
variable{nm q:Str}{C N:Addr}{bs bm bmB:List Value}{hdct:Bool}{sn:List Str}{sub:List Value}{ab:Bool}{col:Option Bool}{dd:Option Addr}{k0 k1 k2 k3 k5:Option Value}{B Bn newId nid initId inN:String}{bmN:List Value}
end
section
variable{prog:Program}{w:World}{A:Around}{E:Value->Shared->Prop}{s:Shared}{env:Env}
variable{nm q:Str}{C N:Addr}{bs bm bmB:List Value}{hdct:Bool}{sn:List Str}{sub:List Value}{ab:Bool}{col:Option Bool}{dd:Option Addr}{k0 k1 k2 k3 k5:Option Value}{B Bn newId nid initId inN:String}{bmN:List Value}
end
end Tr
namespace Tr
open PySem PySem.Spec PyProof.Rows L2 PySem.W Builtin Builtin.ObjectAttr
section
variable{prog:Program}{w:World}{A:Around}{E:Value->Shared->Prop}{K:PySem.W.Frag}{h:Heap}{g:Array GenState}{d:Drawn}{tok:Nat}{os:OsState}
variable{nm q:Str}{C N x t:Addr}{bs bm:List Value}{sn:List Str}{sub:List Value}{ab:Bool}{col:Option Bool}{dd:Option Addr}{k0 k1 k2 k3 k5:Option Value}{newId:String}{name:Str}{v:Value}
end
end Tr
namespace Tr
open PySem PySem.Spec PyProof.Rows L2 PySem.W Builtin Builtin.ObjectAttr Builtin.Getset_descriptor
section
variable{prog:Program}{w:World}{A:Around}{E:Value->Shared->Prop}{K:PySem.W.Frag}{a C dx:Addr}{o:Obj}{name:Str}{v:Value}{m:Str->Option Value}
variable{nm q:Str}{N:Addr}{bs bm:List Value}{sn:List Str}{sub:List Value}{ab:Bool}{col:Option Bool}{dd:Option Addr}{k0 k1 k2 k3 k5:Option Value}{newId:String}
end
end Tr
namespace Tr
open PySem PySem.Spec PyProof.Rows L2 PySem.W
noncomputable def initIn(K:PySem.W.Frag)(C fI:Addr):Bool:=match K.lookup C with
 |some ⟨.type "type", _,.cls cd,sl⟩=>(match cd.mro,sl.toList with
  |.ref C'::bm,[_,_,_,_,some (.builtin n),_]=>C'==C&&(n==newV&&(!cd.hasDel&&(tailIn K bmV bm&&(nsOkIn K cd.ns&&(nsIn K cd.ns "__init__" == some (some (.ref fI))&&cd.hasDict)))))
  |_,_=>false)
 |_=>false
structure InitCls(K:PySem.W.Frag)(C fI:Addr)(f:Str):Prop where
 obj:initIn K C fI=true
 sa:findIn K (.ref C) "__setattr__" = some (some (.builtin "object.__setattr__"))
 no:findIn K (.ref C) f=some none
section
variable{X:Cx}
end
end Tr
namespace Tr
open PySem PySem.Spec PyProof.Rows L2
noncomputable def ModL(K:PySem.W.Frag)(a:Addr)(xs:List V):Prop:=
 ∃(o:Obj) (its:Array Value) (n:Nat),K.lookup a=some o/\o.cls=.type "list" /\ o.dict=none/\o.data=.seq its n/\its.size<=sizeLine/\Vals xs its.toList
noncomputable def ModT(K:PySem.W.Frag)(a:Addr)(xs:List V):Prop:=(∃ss:List Str,ss≠[]/\xs=ss.map V.str) /\
 ∃(o:Obj) (its:Array Value) (n:Nat),K.lookup a=some o/\o.cls=.type "tuple" /\ o.data=.seq its n/\its.size<=sizeLine/\Vals xs its.toList
noncomputable def TupV(K:PySem.W.Frag)(H:Hp)(a:Addr)(xs:List V):Prop:=H a=some (.tup xs)\/ModT K a xs
theorem TupV.sq{K:PySem.W.Frag}{H:Hp}{a:Addr}{xs:List V}(h:TupV K H a xs):SqT K H a xs:=h.imp (λq=>.inl q) λq=>q.2
mutual
noncomputable def RD(K:PySem.W.Frag)(H:Hp)(O:Addr->Prop):D->V->Prop
 |.non,v=>v=.non
 |.bl b,v=>v=.bl b
 |.int i,v=>v=.int i
 |.str x,v=>v=.str x
 |.tup ds,v=>∃a xs,v=.ref a/\TupV K H a xs/\RDs K H O ds xs
 |.lst ds,v=>∃a xs,v=.ref a/\((¬O a/\Rd H a (.lst xs))\/ModL K a xs)/\RDs K H O ds xs
 |.dct kvs,v=>∃a ps,v=.ref a/\(∃o,H a=some (.frz o (.dK ps)))/\RDk K H O kvs ps
 |.tdc kvs,v=>∃a ps,v=.ref a/\(∃o,H a=some (.frz o (.dT ps)))/\RDt K H O kvs ps
noncomputable def RDs(K:PySem.W.Frag)(H:Hp)(O:Addr->Prop):List D->List V->Prop
 |[],xs=>xs=[]
 |d::ds,xs=>∃v r,xs=v::r/\RD K H O d v/\RDs K H O ds r
noncomputable def RDk(K:PySem.W.Frag)(H:Hp)(O:Addr->Prop):List (Sum Int Str×D)->List (Key×V)->Prop
 |[],xs=>xs=[]
 |(k,d)::ds,xs=>∃v r,xs=(k,v)::r/\RD K H O d v/\RDk K H O ds r
noncomputable def RDt(K:PySem.W.Frag)(H:Hp)(O:Addr->Prop):List (List (Sum Int Str)×D)->List (List Key×V)->Prop
 |[],xs=>xs=[]
 |(k,d)::ds,xs=>∃v r,xs=(k,v)::r/\RD K H O d v/\RDt K H O ds r
end
noncomputable def OwnAt(K:PySem.W.Frag)(H:Hp)(O:Addr->Prop)(a:Addr):D->Prop
 |.lst ds=>∃xs,H a=some (.lst xs)/\RDs K H O ds xs
 |.dct kvs=>∃ps,H a=some (.dK ps)/\RDk K H O kvs ps
 |.tdc kvs=>∃ps,H a=some (.dT ps)/\RDt K H O kvs ps
 |_=>False
noncomputable def RR(K:PySem.W.Frag)(H:Hp)(O:Addr->Prop)(d:D)(v:V):Prop:=
 RD K H O d v\/∃a,v=.ref a/\OwnAt K H O a d
noncomputable def RRs(K:PySem.W.Frag)(H:Hp)(O:Addr->Prop):List D->List V->Prop
 |[],xs=>xs=[]
 |d::ds,xs=>∃v r,xs=v::r/\RR K H O d v/\RRs K H O ds r
section
variable{K:PySem.W.Frag}{H H':Hp}{O O':Addr->Prop}
mutual
theorem RD.map(ht:∀a xs,TupV K H a xs->TupV K H' a xs)(hl:∀a xs,¬O a->Rd H a (.lst xs)->¬O' a/\Rd H' a (.lst xs))(hd:∀a o u,H a=some (.frz o u)->H' a=some (.frz o u)):∀{d:D} {v:V},RD K H O d v->RD K H' O' d v
 |.non,_,h=>h
 |.bl _,_,h=>h
 |.int _,_,h=>h
 |.str _,_,h=>h
 |.tup ds,v,h=>by
  obtain⟨a,xs,e,s,r⟩:=h
  exact⟨a,xs,e,ht a xs s,RDs.map ht hl hd r⟩
 |.lst ds,v,h=>by
  obtain⟨a,xs,e,s,r⟩:=h
  refine⟨a,xs,e,?_,RDs.map ht hl hd r⟩
  rcases s with⟨s1,s2⟩|s
  ·exact .inl (hl a xs s1 s2)
  ·exact .inr s
 |.dct kvs,v,h=>by
  obtain⟨a,ps,e,⟨o,s⟩,r⟩:=h
  exact⟨a,ps,e,⟨o,hd a _ _ s⟩,RDk.map ht hl hd r⟩
 |.tdc kvs,v,h=>by
  obtain⟨a,ps,e,⟨o,s⟩,r⟩:=h
  exact⟨a,ps,e,⟨o,hd a _ _ s⟩,RDt.map ht hl hd r⟩
theorem RDs.map(ht:∀a xs,TupV K H a xs->TupV K H' a xs)(hl:∀a xs,¬O a->Rd H a (.lst xs)->¬O' a/\Rd H' a (.lst xs))(hd:∀a o u,H a=some (.frz o u)->H' a=some (.frz o u)):∀{ds:List D} {vs:List V},RDs K H O ds vs->RDs K H' O' ds vs
 |[],_,h=>h
 |d::ds,vs,h=>by
  obtain⟨v,r,e,h1,h2⟩:=h
  exact⟨v,r,e,RD.map ht hl hd h1,RDs.map ht hl hd h2⟩
theorem RDk.map(ht:∀a xs,TupV K H a xs->TupV K H' a xs)(hl:∀a xs,¬O a->Rd H a (.lst xs)->¬O' a/\Rd H' a (.lst xs))(hd:∀a o u,H a=some (.frz o u)->H' a=some (.frz o u)):∀{ds:List (Sum Int Str×D)} {vs:List (Key×V)},RDk K H O ds vs->RDk K H' O' ds vs
 |[],_,h=>h
 |(k,d)::ds,vs,h=>by
  obtain⟨v,r,e,h1,h2⟩:=h
  exact⟨v,r,e,RD.map ht hl hd h1,RDk.map ht hl hd h2⟩
theorem RDt.map(ht:∀a xs,TupV K H a xs->TupV K H' a xs)(hl:∀a xs,¬O a->Rd H a (.lst xs)->¬O' a/\Rd H' a (.lst xs))(hd:∀a o u,H a=some (.frz o u)->H' a=some (.frz o u)):∀{ds:List (List (Sum Int Str)×D)} {vs:List (List Key×V)},RDt K H O ds vs->RDt K H' O' ds vs
 |[],_,h=>h
 |(k,d)::ds,vs,h=>by
  obtain⟨v,r,e,h1,h2⟩:=h
  exact⟨v,r,e,RD.map ht hl hd h1,RDt.map ht hl hd h2⟩
end
theorem Rd.same(s:Same H H'){a:Addr}{u:HO}(h:Rd H a u):Rd H' a u:=by
 rcases h with h|⟨o,h⟩
 ·exact .inl (s _ _ h)
 ·exact .inr ⟨o,s _ _ h⟩
theorem TupV.same(s:Same H H'){a:Addr}{xs:List V}(h:TupV K H a xs):TupV K H' a xs:=h.imp (λq=>s _ _ q) id
theorem RD.same(s:Same H H'){d:D}{v:V}(h:RD K H O d v):RD K H' O d v:=RD.map (λ_ _ q=>TupV.same s q) (λ_ _ n q=>⟨n,Rd.same s q⟩) (λ_ _ _ q=>s _ _ q) h
theorem RDk.same(s:Same H H'){d:List (Sum Int Str×D)}{v:List (Key×V)}(h:RDk K H O d v):RDk K H' O d v:=RDk.map (λ_ _ q=>TupV.same s q) (λ_ _ n q=>⟨n,Rd.same s q⟩) (λ_ _ _ q=>s _ _ q) h
theorem RDt.same(s:Same H H'){d:List (List (Sum Int Str)×D)}{v:List (List Key×V)}(h:RDt K H O d v):RDt K H' O d v:=RDt.map (λ_ _ q=>TupV.same s q) (λ_ _ n q=>⟨n,Rd.same s q⟩) (λ_ _ _ q=>s _ _ q) h
theorem RDs.same(s:Same H H'){d:List D}{v:List V}(h:RDs K H O d v):RDs K H' O d v:=RDs.map (λ_ _ q=>TupV.same s q) (λ_ _ n q=>⟨n,Rd.same s q⟩) (λ_ _ _ q=>s _ _ q) h
theorem RD.weak(s:∀a,O' a->O a){d:D}{v:V}(h:RD K H O d v):RD K H O' d v:=RD.map (λ_ _ q=>q) (λa _ n q=>⟨λz=>n (s a z),q⟩) (λ_ _ _ q=>q) h
theorem RDk.weak(s:∀a,O' a->O a){d:List (Sum Int Str×D)}{v:List (Key×V)}(h:RDk K H O d v):RDk K H O' d v:=RDk.map (λ_ _ q=>q) (λa _ n q=>⟨λz=>n (s a z),q⟩) (λ_ _ _ q=>q) h
theorem RDt.weak(s:∀a,O' a->O a){d:List (List (Sum Int Str)×D)}{v:List (List Key×V)}(h:RDt K H O d v):RDt K H O' d v:=RDt.map (λ_ _ q=>q) (λa _ n q=>⟨λz=>n (s a z),q⟩) (λ_ _ _ q=>q) h
theorem RDs.weak(s:∀a,O' a->O a){d:List D}{v:List V}(h:RDs K H O d v):RDs K H O' d v:=RDs.map (λ_ _ q=>q) (λa _ n q=>⟨λz=>n (s a z),q⟩) (λ_ _ _ q=>q) h
noncomputable def cX(O:Addr->Prop)(p:Addr):Addr->Prop:=λa=>O a\/a=p
noncomputable def pQ(O:Addr->Prop)(p:Addr):Addr->Prop:=λa=>O a/\a≠p
theorem Rd.ne{p a:Addr}{u:HO}(hp:H p=none)(h:Rd H a u):a≠p:=by
 rcases h with h|⟨o,h⟩<;>exact gF h hp
theorem RD.new{p:Addr}(hp:H p=none){d:D}{v:V}(h:RD K H O d v):RD K H (cX O p) d v:=
 RD.map (λ_ _ q=>q) (λa _ n q=>⟨λz=>z.elim n (Rd.ne hp q),q⟩) (λ_ _ _ q=>q) h
theorem RDk.new{p:Addr}(hp:H p=none){d:List (Sum Int Str×D)}{v:List (Key×V)}(h:RDk K H O d v):RDk K H (cX O p) d v:=
 RDk.map (λ_ _ q=>q) (λa _ n q=>⟨λz=>z.elim n (Rd.ne hp q),q⟩) (λ_ _ _ q=>q) h
theorem RDt.new{p:Addr}(hp:H p=none){d:List (List (Sum Int Str)×D)}{v:List (List Key×V)}(h:RDt K H O d v):RDt K H (cX O p) d v:=
 RDt.map (λ_ _ q=>q) (λa _ n q=>⟨λz=>z.elim n (Rd.ne hp q),q⟩) (λ_ _ _ q=>q) h
theorem RDs.new{p:Addr}(hp:H p=none){d:List D}{v:List V}(h:RDs K H O d v):RDs K H (cX O p) d v:=
 RDs.map (λ_ _ q=>q) (λa _ n q=>⟨λz=>z.elim n (Rd.ne hp q),q⟩) (λ_ _ _ q=>q) h
noncomputable def gJ:HO->Prop
 |.lst _=>True
 |.dK _=>True
 |.dT _=>True
 |_=>False
theorem dQ{p:Addr}{o o':HO}(hO:O p)(hp:H p=some o)(hm:gJ o):(∀a xs,TupV K H a xs->TupV K (upd H p o') a xs)/\(∀a xs,¬O a->Rd H a (.lst xs)->¬O a/\Rd (upd H p o') a (.lst xs))/\∀a o1 u,H a=some (.frz o1 u)->upd H p o' a=some (.frz o1 u):=by
 refine⟨λa xs h=>?_,λa xs n h=>⟨n,?_⟩,λa o1 u h=>?_⟩
 ·rcases h with h|h
  ·exact .inl (by rw[aH (pC h hp (by intro z;subst z;exact hm))];exact h)
  ·exact .inr h
 ·have e:a≠p:=λz=>n (z▸hO)
  rcases h with h|⟨o,h⟩
  ·exact .inl (by rw[aH e];exact h)
  ·exact .inr ⟨o,by rw[aH e];exact h⟩
 ·rw[aH (pC h hp (by intro z;subst z;exact hm))];exact h
theorem RD.updM{p:Addr}{o o':HO}(hO:O p)(hp:H p=some o)(hm:gJ o){d:D}{v:V}(h:RD K H O d v):RD K (L2.upd H p o') O d v:=RD.map (dQ (K:=K) hO hp hm).1 (dQ (K:=K) hO hp hm).2.1 (dQ (K:=K) hO hp hm).2.2 h
theorem RDs.updM{p:Addr}{o o':HO}(hO:O p)(hp:H p=some o)(hm:gJ o){d:List D}{v:List V}(h:RDs K H O d v):RDs K (L2.upd H p o') O d v:=RDs.map (dQ (K:=K) hO hp hm).1 (dQ (K:=K) hO hp hm).2.1 (dQ (K:=K) hO hp hm).2.2 h
theorem RDk.updM{p:Addr}{o o':HO}(hO:O p)(hp:H p=some o)(hm:gJ o){d:List (Sum Int Str×D)}{v:List (Key×V)}(h:RDk K H O d v):RDk K (L2.upd H p o') O d v:=RDk.map (dQ (K:=K) hO hp hm).1 (dQ (K:=K) hO hp hm).2.1 (dQ (K:=K) hO hp hm).2.2 h
theorem RDt.updM{p:Addr}{o o':HO}(hO:O p)(hp:H p=some o)(hm:gJ o){d:List (List (Sum Int Str)×D)}{v:List (List Key×V)}(h:RDt K H O d v):RDt K (L2.upd H p o') O d v:=RDt.map (dQ (K:=K) hO hp hm).1 (dQ (K:=K) hO hp hm).2.1 (dQ (K:=K) hO hp hm).2.2 h
theorem RD.upd{p:Addr}{ys zs:List V}(hO:O p)(hp:H p=some (.lst ys)){d:D}{v:V}(h:RD K H O d v):RD K (L2.upd H p (.lst zs)) O d v:=RD.updM hO hp trivial h
theorem RDs.upd{p:Addr}{ys zs:List V}(hO:O p)(hp:H p=some (.lst ys)){d:List D}{v:List V}(h:RDs K H O d v):RDs K (L2.upd H p (.lst zs)) O d v:=RDs.updM hO hp trivial h
mutual
theorem RD.flat:∀{d:D} {v:V},d.flat=true->RD K H O d v->RD K H O' d v
 |.non,_,_,h=>h
 |.bl _,_,_,h=>h
 |.int _,_,_,h=>h
 |.str _,_,_,h=>h
 |.tup ds,v,f,h=>by
  obtain⟨a,xs,e,s,r⟩:=h
  rw[D.flat]at f
  exact⟨a,xs,e,s,RDs.flat f r⟩
 |.lst ds,v,f,_=>by rw[D.flat]at f;cases f
 |.dct _,_,f,_=>by rw[D.flat]at f;cases f
 |.tdc _,_,f,_=>by rw[D.flat]at f;cases f
theorem RDs.flat:∀{ds:List D} {vs:List V},D.flats ds=true->RDs K H O ds vs->RDs K H O' ds vs
 |[],_,_,h=>h
 |d::ds,vs,f,h=>by
  obtain⟨v,r,e,h1,h2⟩:=h
  rw[D.flats,aF]at f
  exact⟨v,r,e,RD.flat f.1 h1,RDs.flat f.2 h2⟩
end
theorem RDs.length:∀{ds:List D} {vs:List V},RDs K H O ds vs->vs.length=ds.length
 |[],_,h=>by rw[RDs]at h;rw[h];rfl
 |d::ds,vs,h=>by
  obtain⟨v,r,e,_,h2⟩:=h
  rw[e,aW,aW,RDs.length h2]
theorem RDs.get:∀{ds:List D} {vs:List V} {i:Nat} {d:D},RDs K H O ds vs->ds[i]?=some d->∃v,vs[i]?=some v/\RD K H O d v
 |[],_,_,_,_,e=>by simp at e
 |d::ds,vs,0,d',h,e=>by
  obtain⟨v,r,rfl,h1,_⟩:=h
  simp at e;subst e
  exact⟨v,rfl,h1⟩
 |d::ds,vs,i+1,d',h,e=>by
  obtain⟨v,r,rfl,_,h2⟩:=h
  obtain⟨w,h3,h4⟩:=RDs.get (i:=i) h2 (by simpa using e)
  exact⟨w,by simpa using h3,h4⟩
theorem RDs.append:∀{ds es:List D} {vs ws:List V},RDs K H O ds vs->RDs K H O es ws->RDs K H O (ds++es) (vs++ws)
 |[],_,_,_,h,g=>by rw[RDs]at h;subst h;exact g
 |d::ds,es,vs,ws,h,g=>by
  obtain⟨v,r,rfl,h1,h2⟩:=h
  exact⟨v,r++ws,rfl,h1,RDs.append h2 g⟩
theorem RDs.drop:∀{ds:List D} {vs:List V} (n:Nat),RDs K H O ds vs->RDs K H O (ds.drop n) (vs.drop n)
 |_,_,0,h=>h
 |[],_,n+1,h=>by rw[RDs]at h;subst h;exact rfl
 |d::ds,vs,n+1,h=>by
  obtain⟨v,r,rfl,_,h2⟩:=h
  exact RDs.drop n h2
theorem RDs.take:∀{ds:List D} {vs:List V} (n:Nat),RDs K H O ds vs->RDs K H O (ds.take n) (vs.take n)
 |_,_,0,_=>by simp[RDs]
 |[],_,n+1,h=>by rw[RDs]at h;subst h;simp[RDs]
 |d::ds,vs,n+1,h=>by
  obtain⟨v,r,rfl,h1,h2⟩:=h
  exact⟨v,r.take n,rfl,h1,RDs.take n h2⟩
theorem RDs.cut{ds:List D}{vs:List V}(lo hi:Option Int)(h:RDs K H O ds vs):RDs K H O (Tr.cut ds lo hi) (jJ vs lo hi):=by
 have e:=RDs.length h
 unfold Tr.cut jJ
 rw[e]
 exact RDs.take _ (RDs.drop _ h)
theorem RDs.cons{d:D}{v:V}{ds:List D}{vs:List V}(h:RD K H O d v)(r:RDs K H O ds vs):RDs K H O (d::ds) (v::vs):=⟨v,vs,rfl,h,r⟩
theorem RDs.nil:RDs K H O [] []:=rfl
theorem RDk.length:∀{ds:List (Sum Int Str×D)} {vs:List (Key×V)},RDk K H O ds vs->vs.length=ds.length
 |[],_,h=>by rw[RDk]at h;rw[h];rfl
 |(k,d)::ds,vs,h=>by
  obtain⟨v,r,e,_,h2⟩:=h
  rw[e,aW,aW,RDk.length h2]
theorem RDt.length:∀{ds:List (List (Sum Int Str)×D)} {vs:List (List Key×V)},RDt K H O ds vs->vs.length=ds.length
 |[],_,h=>by rw[RDt]at h;rw[h];rfl
 |(k,d)::ds,vs,h=>by
  obtain⟨v,r,e,_,h2⟩:=h
  rw[e,aW,aW,RDt.length h2]
theorem RD.rr{d:D}{v:V}(h:RD K H O d v):RR K H O d v:=.inl h
theorem RDs.rr:∀{ds:List D} {vs:List V},RDs K H O ds vs->RRs K H O ds vs
 |[],_,h=>h
 |d::ds,vs,h=>by
  obtain⟨v,r,e,h1,h2⟩:=h
  exact⟨v,r,e,.inl h1,RDs.rr h2⟩
theorem OwnAt.map(hs:∀{d v},RDs K H O d v->RDs K H' O' d v)(hk:∀{d v},RDk K H O d v->RDk K H' O' d v)(hk2:∀{d v},RDt K H O d v->RDt K H' O' d v){a:Addr}(ho:∀o,gJ o->H a=some o->H' a=some o):∀{d:D},OwnAt K H O a d->OwnAt K H' O' a d
 |.lst ds,⟨xs,h1,h2⟩=>⟨xs,ho _ trivial h1,hs h2⟩
 |.dct ds,⟨xs,h1,h2⟩=>⟨xs,ho _ trivial h1,hk h2⟩
 |.tdc ds,⟨xs,h1,h2⟩=>⟨xs,ho _ trivial h1,hk2 h2⟩
 |.non,h | .bl _,h | .int _,h | .str _,h | .tup _,h=>h.elim
theorem OwnAt.same(s:Same H H'){a:Addr}{d:D}(h:OwnAt K H O a d):OwnAt K H' O a d:=OwnAt.map (λq=>q.same s) (λq=>q.same s) (λq=>q.same s) (λ_ _ q=>s _ _ q) h
theorem OwnAt.new{p:Addr}(hp:H p=none){a:Addr}{d:D}(h:OwnAt K H O a d):OwnAt K H (cX O p) a d:=OwnAt.map (λq=>q.new hp) (λq=>q.new hp) (λq=>q.new hp) (λ_ _ q=>q) h
theorem OwnAt.weak(s:∀a,O' a->O a){a:Addr}{d:D}(h:OwnAt K H O a d):OwnAt K H O' a d:=OwnAt.map (λq=>q.weak s) (λq=>q.weak s) (λq=>q.weak s) (λ_ _ q=>q) h
theorem OwnAt.updM{p:Addr}{o o':HO}(hO:O p)(hp:H p=some o)(hm:gJ o){a:Addr}(hne:a≠p){d:D}(h:OwnAt K H O a d):OwnAt K (L2.upd H p o') O a d:=OwnAt.map (λq=>q.updM hO hp hm) (λq=>q.updM hO hp hm) (λq=>q.updM hO hp hm) (λ_ _ q=>by rw[aH hne];exact q) h
theorem OwnAt.obj{a:Addr}:∀{d:D},OwnAt K H O a d->∃o,H a=some o/\gJ o
 |.lst ds,⟨xs,h1,h2⟩=>⟨_,h1,trivial⟩
 |.dct ds,⟨xs,h1,h2⟩=>⟨_,h1,trivial⟩
 |.tdc ds,⟨xs,h1,h2⟩=>⟨_,h1,trivial⟩
 |.non,h | .bl _,h | .int _,h | .str _,h | .tup _,h=>h.elim
theorem OwnAt.rd{a:Addr}(hn:¬O a):∀{d:D},d.isDct=false->OwnAt K H O a d->RD K H O d (.ref a)
 |.lst ds,_,⟨xs,h1,h2⟩=>⟨a,xs,rfl,.inl ⟨hn,.inl h1⟩,h2⟩
 |.dct ds,z,_=>by cases z
 |.tdc ds,z,_=>by cases z
 |.non,_,h | .bl _,_,h | .int _,_,h | .str _,_,h | .tup _,_,h=>h.elim
theorem RR.same(s:Same H H'){d:D}{v:V}(h:RR K H O d v):RR K H' O d v:=by
 rcases h with h|⟨a,e,h⟩
 ·exact .inl (h.same s)
 ·exact .inr ⟨a,e,h.same s⟩
theorem RR.lst{ds:List D}{v:V}(h:RR K H O (.lst ds) v):∃a xs,v=.ref a/\SqL K H a xs/\RDs K H O ds xs:=by
 rcases h with⟨a,xs,e,s,r⟩|⟨a,e,xs,h1,h2⟩
 ·refine⟨a,xs,e,?_,r⟩
  rcases s with⟨_,s⟩|s
  ·exact .inl s
  ·exact .inr s
 ·exact⟨a,xs,e,.of h1,h2⟩
theorem RR.dct{kvs:List (Sum Int Str×D)}{v:V}(h:RR K H O (.dct kvs) v):∃a ps,v=.ref a/\Rd H a (.dK ps)/\RDk K H O kvs ps:=by
 rcases h with⟨a,ps,e,s,r⟩|⟨a,e,ps,h1,h2⟩
 ·exact⟨a,ps,e,.inr s,r⟩
 ·exact⟨a,ps,e,.inl h1,h2⟩
theorem RR.tdc{kvs:List (List (Sum Int Str)×D)}{v:V}(h:RR K H O (.tdc kvs) v):∃a ps,v=.ref a/\Rd H a (.dT ps)/\RDt K H O kvs ps:=by
 rcases h with⟨a,ps,e,s,r⟩|⟨a,e,ps,h1,h2⟩
 ·exact⟨a,ps,e,.inr s,r⟩
 ·exact⟨a,ps,e,.inl h1,h2⟩
theorem RR.tupV{ds:List D}{v:V}(h:RR K H O (.tup ds) v):∃a xs,v=.ref a/\TupV K H a xs/\RDs K H O ds xs:=by
 rcases h with h|⟨a,e,h⟩
 ·exact h
 ·exact h.elim
theorem RR.tup{ds:List D}{v:V}(h:RR K H O (.tup ds) v):∃a xs,v=.ref a/\SqT K H a xs/\RDs K H O ds xs:=by
 obtain⟨a,xs,e,q,r⟩:=h.tupV
 exact⟨a,xs,e,q.sq,r⟩
noncomputable def D.still:D->Bool
 |.lst _=>false
 |.dct _=>false
 |.tdc _=>false
 |_=>true
theorem RR.rd{d:D}{v:V}(h:RR K H O d v)(n:d.still=true):RD K H O d v:=by
 rcases h with h|⟨a,e,h⟩
 ·exact h
 ·cases d with
  |lst _=>cases n
  |dct _=>cases n
  |tdc _=>cases n
  |non=>exact h.elim
  |bl _=>exact h.elim
  |int _=>exact h.elim
  |str _=>exact h.elim
  |tup _=>exact h.elim
end
noncomputable def NV(K:PySem.W.Frag)(H:Hp)(O:Addr->Prop)(d:D)(v:V):Prop:=(d=.non/\v=.non)\/∃ds a xs,d=.lst ds/\D.flats ds=true/\v=.ref a/\H a=some (.lst xs)/\¬O a/\RDs K H O ds xs
theorem NV.map{K:PySem.W.Frag}{H H':Hp}{O O':Addr->Prop}(hs:∀{d v},RDs K H O d v->RDs K H' O' d v)(hn:∀a xs,¬O a->H a=some (.lst xs)->¬O' a/\H' a=some (.lst xs)){d:D}{v:V}(h:NV K H O d v):NV K H' O' d v:=by
 rcases h with h|⟨ds,a,xs,h1,h2,h3,h4,h5,h6⟩
 ·exact .inl h
 ·obtain⟨h7,h8⟩:=hn a xs h5 h4
  exact .inr ⟨ds,a,xs,h1,h2,h3,h8,h7,hs h6⟩
theorem NV.rd{K:PySem.W.Frag}{H:Hp}{O:Addr->Prop}{d:D}{v:V}(h:NV K H O d v):RD K H O d v:=by
 rcases h with⟨rfl,rfl⟩|⟨ds,a,xs,rfl,h2,rfl,h4,h5,h6⟩
 ·exact rfl
 ·exact⟨a,xs,rfl,.inl ⟨h5,.inl h4⟩,h6⟩
noncomputable def kV:Sum Int Str->V
 |.inl i=>.int i
 |.inr x=>.str x
noncomputable def RS(K:PySem.W.Frag)(H:Hp)(O:Addr->Prop)(own:Option Addr):Sl->Option V->Prop
 |.no,_=>True
 |.v d,ov=>∃v,ov=some v/\RD K H O d v
 |.o d,ov=>∃a,own=some a/\ov=some (.ref a)/\OwnAt K H O a d
 |.t ds,ov=>∃t p ys vs a r,own=some p/\ov=some (.ref t)/\(∃ks:List (Sum Int Str),ds=ks.map hF++.lst a::r/\TupV K H t (ks.map kV++.ref p::vs))/\H p=some (.lst ys)/\RDs K H O a ys/\RDs K H O r vs
 |.n d,ov=>∃v,ov=some v/\NV K H O d v
 |.r a d,ov=>own=some a/\ov=some (.ref a)/\OwnAt K H O a d
noncomputable def bY(σ:L2.St)(i:Nat):Option V:=(σ[i]?).join
noncomputable def retX:Stmt->Option Expr
 |.Return e _=>e
 |_=>none
noncomputable def kwX:Expr->Option Expr
 |.Call _ _ [k] _=>some k.value
 |_=>none
noncomputable def lamX:Expr->Option Pos
 |.Lambda _ _ _ p=>some p
 |_=>none
noncomputable def lH(b:List Stmt):Option Pos:=(b.getLast?.bind retX).bind λe=>(kwX e).bind lamX
noncomputable def pR(K:PySem.W.Frag)(c:Value):Option Addr:=match c with
 |.ref c=>match K.lookup c with
  |some o=>match o.data with
   |.fields vs=>match(vs[11]?:Option Value)with
    |some (.ref P)=>some P
    |_=>none
   |_=>none
  |none=>none
 |_=>none
noncomputable def BJ:FuncBody->List Stmt
 |.stmts b=>b
 |_=>[]
noncomputable def lamTab(K:PySem.W.Frag)(o:Obj):Option (Addr×Pos×Str):=match o.data with
 |.func fd=>(lH (BJ fd.body)).bind λp=>(pR K fd.code).map λP=>(P,p,fd.qualname ++ ".<locals>." ++ "<lambda>")
 |_=>none
noncomputable def nE(K:PySem.W.Frag):List (Addr×Pos×Str):=K.filterMap λq=>lamTab K q.2
noncomputable def BmK (K:PySem.W.Frag) (H:Hp):Prop:=∃(bm:Addr) (ob:Obj),PySem.W.nsIn K mainGlobals "__builtins__" = some (some (.ref bm))/\H bm=some (.frz ob (.own bm))/\ob.cls=.type "module" /\ ob.dict=some builtinsNs/\ob.data=.plain/\bm≠builtinsNs
noncomputable def TabK(K:PySem.W.Frag)(H:Hp):Prop:=(∀t∈nE K,H t.1=some (.ctab t.2.1 t.2.2))/\(nE K≠[]->BmK K H)
theorem TabK.same{K:PySem.W.Frag}{H H':Hp}(h:TabK K H)(s:Same H H'):TabK K H':=
 ⟨λt ht=>s _ _ (h.1 t ht),λn=>let ⟨bm,ob,h1,h2,h3⟩:=h.2 n;⟨bm,ob,h1,s _ _ h2,h3⟩⟩
noncomputable abbrev Trk(K:PySem.W.Frag)(H:Hp)(O:Addr->Prop):Prop:=(∀a,O a->∃o,H a=some o)/\TabK K H
set_option genInjectivity false in
structure Fm(K:PySem.W.Frag)(H₀:Hp)(O₀:Addr->Prop)(H:Hp)(O:Addr->Prop)(own:Nat->Option Addr)(e:Nv)(σ:L2.St):Prop where
 len:e.length=σ.length
 sl:∀i,RS K H O (own i) (e.at i) (bY σ i)
 inj:∀i j a,own i=some a->own j=some a->i=j
 same:Same H₀ H
 sub:∀a,O₀ a->O a
 trk0:Trk K H₀ O₀
 trk:∀a,O a->∃o,H a=some o
 new:∀i a,own i=some a->O a/\H₀ a=none
 nw:∀i d a,e.at i=.n d->bY σ i=some (.ref a)->H₀ a=none
section
variable{K:PySem.W.Frag}{H₀ H H':Hp}{O₀ O O':Addr->Prop}{own:Nat->Option Addr}{e:Nv}{σ:L2.St}
theorem RS.same(s:Same H H'){o:Option Addr}{x:Sl}{ov:Option V}(h:RS K H O o x ov):RS K H' O o x ov:=by
 cases x with
 |no=>trivial
 |v d=>obtain⟨v,e,r⟩:=h;exact⟨v,e,r.same s⟩
 |o d=>obtain⟨a,e1,e2,h⟩:=h;exact⟨a,e1,e2,h.same s⟩
 |r a d=>exact⟨h.1,h.2.1,h.2.2.same s⟩
 |t ds=>obtain⟨t,p,ys,vs,a,r,e1,e2,⟨ks,e3,h1⟩,h2,h3,h4⟩:=h;exact⟨t,p,ys,vs,a,r,e1,e2,⟨ks,e3,TupV.same s h1⟩,s _ _ h2,h3.same s,h4.same s⟩
 |n d=>obtain⟨v,e,r⟩:=h;exact⟨v,e,r.map (λq=>q.same s) λa xs z q=>⟨z,s _ _ q⟩⟩
theorem Fm.tab(F:Fm K H₀ O₀ H O own e σ):TabK K H:=F.trk0.2.same F.same
theorem Fm.grow(F:Fm K H₀ O₀ H O own e σ)(s:Same H H'):Fm K H₀ O₀ H' O own e σ:=
 ⟨F.len,λi=>(F.sl i).same s,F.inj,F.same.trans s,F.sub,F.trk0,λa h=>let ⟨xs,q⟩:=F.trk a h;⟨xs,s _ _ q⟩,F.new,F.nw⟩
end
section
variable{K:PySem.W.Frag}{H₀ H H':Hp}{O₀ O O':Addr->Prop}{own:Nat->Option Addr}{e:Nv}{σ:L2.St}
theorem iT{e:Nv}{i:Nat}{x:Sl}(h:i<e.length):Nv.at (e.set i x) i=x:=by
 unfold Nv.at;rw[sY h];rfl
theorem eY{e:Nv}{i j:Nat}{x:Sl}(h:i≠j):Nv.at (e.set i x) j=Nv.at e j:=by
 unfold Nv.at;rw[sZ h]
theorem hW{e:Nv}{i:Nat}(h:¬i<e.length):Nv.at e i=.no:=by
 unfold Nv.at;rw[oZ (by lia)];rfl
theorem pS{σ:L2.St}{i:Nat}{v:V}(h:i<σ.length):bY (σ.set i (some v)) i=some v:=by
 unfold bY;rw[sY h];rfl
theorem nF{σ:L2.St}{i j:Nat}{v:Option V}(h:i≠j):bY (σ.set i v) j=bY σ j:=by
 unfold bY;rw[sZ h]
theorem BL{H₀:Hp}{e:Nv}{σ:L2.St}{i:Nat}{x:Sl}{ov:Option V}(hx:∀d,x≠.n d)(h:∀j d a,e.at j=.n d->bY σ j=some (.ref a)->H₀ a=none):∀j d a,Nv.at (e.set i x) j=.n d->bY (σ.set i ov) j=some (.ref a)->H₀ a=none:=λj d a h1 h2=>by
 by_cases z:i=j
 ·subst z
  by_cases hi:i<e.length
  ·rw[iT hi]at h1;exact absurd h1 (hx d)
  ·rw[hW (by rw[dY];exact hi)]at h1;cases h1
 ·rw[eY z]at h1;rw[nF z]at h2;exact h j d a h1 h2
theorem pT{H₀:Hp}{e:Nv}{σ:L2.St}{i:Nat}{x:Sl}(hx:∀d,x≠.n d)(h:∀j d a,e.at j=.n d->bY σ j=some (.ref a)->H₀ a=none):∀j d a,Nv.at (e.set i x) j=.n d->bY σ j=some (.ref a)->H₀ a=none:=λj d a h1 h2=>by
 by_cases z:i=j
 ·subst z
  by_cases hi:i<e.length
  ·rw[iT hi]at h1;exact absurd h1 (hx d)
  ·rw[hW (by rw[dY];exact hi)]at h1;cases h1
 ·rw[eY z]at h1;exact h j d a h1 h2
theorem eA{σ:L2.St}{i:Nat}{v:V}(h:bY σ i=some v):σ[i]?=some (some v):=by
 unfold bY at h
 cases q:σ[i]? with
 |none=>rw[q]at h;cases h
 |some o=>rw[q]at h;cases o with
  |none=>cases h
  |some w=>cases h;rfl
theorem RS.map(ht:∀{d v},RD K H O d v->RD K H' O' d v)(hs:∀{d v},RDs K H O d v->RDs K H' O' d v)(hk:∀{d v},RDk K H O d v->RDk K H' O' d v)(hk2:∀{d v},RDt K H O d v->RDt K H' O' d v){o:Option Addr}(ho:∀a u,o=some a->gJ u->H a=some u->H' a=some u){x:Sl}{ov:Option V}(h:RS K H O o x ov)(hn:∀a xs,¬O a->H a=some (.lst xs)->¬O' a/\H' a=some (.lst xs))(hq:∀a xs,TupV K H a xs->TupV K H' a xs:=by first|exact λ_ _ q=>q|exact λ_ _ q=>TupV.same (by assumption) q):RS K H' O' o x ov:=by
 cases x with
 |no=>trivial
 |v d=>obtain⟨v,e,r⟩:=h;exact⟨v,e,ht r⟩
 |o d=>obtain⟨a,e1,e2,h⟩:=h;exact⟨a,e1,e2,h.map hs hk hk2 λu hm q=>ho a u e1 hm q⟩
 |t ds=>obtain⟨t,p,ys,vs,a,r,e1,e2,⟨ks,e3,h1⟩,h2,h3,h4⟩:=h;exact⟨t,p,ys,vs,a,r,e1,e2,⟨ks,e3,hq _ _ h1⟩,ho p _ e1 trivial h2,hs h3,hs h4⟩
 |n d=>obtain⟨v,e,r⟩:=h;exact⟨v,e,r.map hs hn⟩
 |r a d=>exact⟨h.1,h.2.1,h.2.2.map hs hk hk2 λu hm q=>ho a u h.1 hm q⟩
theorem BM{p:Addr}(hp:H p=none)(s:Same H H'):∀a xs,¬O a->H a=some (.lst xs)->¬cX O p a/\H' a=some (.lst xs):=λa xs n q=>⟨λz=>z.elim n (gF q hp),s _ _ q⟩
theorem pU{p:Addr}{o':HO}(hO:O p):∀a xs,¬O a->H a=some (.lst xs)->¬O a/\upd H p o' a=some (.lst xs):=λa xs n q=>⟨n,by
 have ne:a≠p:=λz=>n (z▸hO)
 rw[aH ne];exact q⟩
theorem GR(w:∀a,O' a->O a):∀a xs,¬O a->H a=some (.lst xs)->¬O' a/\H a=some (.lst xs):=λa xs n q=>⟨λz=>n (w a z),q⟩
theorem Fm.setV(F:Fm K H₀ O₀ H O own e σ)(i:Nat){d:D}{v:V}(r:RD K H O d v):Fm K H₀ O₀ H O (λj=>if j=i then none else own j) (e.set i (.v d)) (σ.set i (some v)) where
 len:=by rw[dY,dY];exact F.len
 sl:=λj=>by
  by_cases h:i=j
  ·subst h
   by_cases hi:i<e.length
   ·rw[iT hi,pS (by rw[<-F.len];exact hi)];exact⟨v,rfl,r⟩
   ·rw[hW (by rw[dY];exact hi)];trivial
  ·rw[eY h,nF h,if_neg (Ne.symm h)];exact F.sl j
 inj:=λj k a h1 h2=>by
  by_cases h:j=i
  ·rw[if_pos h]at h1;cases h1
  ·by_cases h':k=i
   ·rw[if_pos h']at h2;cases h2
   ·rw[if_neg h]at h1;rw[if_neg h']at h2;exact F.inj j k a h1 h2
 same:=F.same
 sub:=F.sub
 trk0:=F.trk0
 trk:=F.trk
 new:=λj a h1=>by
  by_cases h:j=i
  ·rw[if_pos h]at h1;cases h1
  ·rw[if_neg h]at h1;exact F.new j a h1
 nw:=BL (λ_ z=>by cases z) F.nw
theorem Fm.setN(F:Fm K H₀ O₀ H O own e σ)(i:Nat){d:D}{v:V}(r:NV K H O d v)(h0:∀a,v=.ref a->H₀ a=none):Fm K H₀ O₀ H O (λj=>if j=i then none else own j) (e.set i (.n d)) (σ.set i (some v)) where
 len:=by rw[dY,dY];exact F.len
 sl:=λj=>by
  by_cases h:i=j
  ·subst h
   by_cases hi:i<e.length
   ·rw[iT hi,pS (by rw[<-F.len];exact hi)];exact⟨v,rfl,r⟩
   ·rw[hW (by rw[dY];exact hi)];trivial
  ·rw[eY h,nF h,if_neg (Ne.symm h)];exact F.sl j
 inj:=(F.setV i r.rd).inj
 same:=F.same
 sub:=F.sub
 trk0:=F.trk0
 trk:=F.trk
 new:=(F.setV i r.rd).new
 nw:=λj d' a h1 h2=>by
  by_cases z:i=j
  ·subst z
   by_cases hi:i<e.length
   ·rw[pS (by rw[<-F.len];exact hi)]at h2
    exact h0 a (fJ.inj h2)
   ·rw[hW (by rw[dY];exact hi)]at h1;cases h1
  ·rw[eY z]at h1;rw[nF z]at h2;exact F.nw j d' a h1 h2
theorem Fm.setO(F:Fm K H₀ O₀ H O own e σ)(s:Same H H')(i:Nat){d:D}{p:Addr}(hp:H p=none)(r:OwnAt K H' (cX O p) p d) :
 Fm K H₀ O₀ H' (cX O p) (λj=>if j=i then some p else own j) (e.set i (.o d)) (σ.set i (some (.ref p))) where
 len:=by rw[dY,dY];exact F.len
 sl:=λj=>by
  by_cases h:i=j
  ·subst h
   rw[if_pos rfl]
   by_cases hi:i<e.length
   ·rw[iT hi,pS (by rw[<-F.len];exact hi)];exact⟨p,rfl,rfl,r⟩
   ·rw[hW (by rw[dY];exact hi)];trivial
  ·rw[eY h,nF h,if_neg (Ne.symm h)]
   exact RS.map (λq=>(q.new hp).same s) (λq=>(q.new hp).same s) (λq=>(q.new hp).same s) (λq=>(q.new hp).same s) (λa u _ _ q=>s _ _ q) (F.sl j) (BM hp s)
 inj:=λj k a h1 h2=>by
  have no:∀j,own j≠some p:=λj q=>by
   obtain⟨xs,w⟩:=F.trk p (F.new j p q).1
   rw[hp]at w;cases w
  by_cases h:j=i
  ·rw[if_pos h]at h1
   cases h1
   by_cases h':k=i
   ·rw[h,h']
   ·rw[if_neg h']at h2;exact absurd h2 (no k)
  ·rw[if_neg h]at h1
   by_cases h':k=i
   ·rw[if_pos h']at h2;cases h2;exact absurd h1 (no j)
   ·rw[if_neg h']at h2;exact F.inj j k a h1 h2
 same:=F.same.trans s
 sub:=λa h=>.inl (F.sub a h)
 trk0:=F.trk0
 trk:=λa h=>by
  rcases h with h|h
  ·obtain⟨ys,q⟩:=F.trk a h
   exact⟨ys,s _ _ q⟩
  ·subst h
   obtain⟨o,h1,_⟩:=r.obj
   exact⟨o,h1⟩
 new:=λj a h1=>by
  by_cases h:j=i
  ·rw[if_pos h]at h1;cases h1;exact⟨.inr rfl,F.same.free hp⟩
  ·rw[if_neg h]at h1;exact⟨.inl (F.new j a h1).1,(F.new j a h1).2⟩
 nw:=BL (λ_ z=>by cases z) F.nw
theorem Fm.mutA(F:Fm K H₀ O₀ H O own e σ)(i:Nat){d:D}(hi:e.at i=.o d):∃p,bY σ i=some (.ref p)/\OwnAt K H O p d/\O p /\
 ∀d' o',(∀o,H p=some o->OwnAt K (upd H p o') O p d')->Fm K H₀ O₀ (upd H p o') O own (e.set i (.o d')) σ:=by
 have q:=F.sl i
 rw[hi]at q
 obtain⟨p,e1,e2,h1⟩:=q
 obtain⟨o,ho,hm⟩:=h1.obj
 have hn:=F.new i p e1
 refine⟨p,e2,h1,hn.1,λd' o' r=>?_⟩
 have hlen:i<e.length:=by
  by_cases h:i<e.length
  ·exact h
  ·rw[hW h]at hi;cases hi
 refine⟨by rw[dY];exact F.len,λj=>?_,F.inj,λb u hb=>?_,F.sub,F.trk0,λa ha=>?_,F.new,pT (λ_ z=>by cases z) F.nw⟩
 ·by_cases h:i=j
  ·subst h
   rw[iT hlen,e2]
   exact⟨p,e1,rfl,r o ho⟩
  ·rw[eY h]
   refine RS.map (λq=>q.updM hn.1 ho hm) (λq=>q.updM hn.1 ho hm) (λq=>q.updM hn.1 ho hm) (λq=>q.updM hn.1 ho hm) (λa u ea _ q=>?_) (F.sl j) (pU hn.1) (dQ (K:=K) hn.1 ho hm).1
   have:a≠p:=λz=>h (F.inj i j p e1 (z▸ea))
   rw[aH this];exact q
 ·rw[aH (λz=>by rw[z,hn.2]at hb;cases hb)];exact F.same b u hb
 ·by_cases h:a=p
  ·subst h;exact⟨_,bM⟩
  ·obtain⟨ys,q⟩:=F.trk a ha
   exact⟨ys,by rw[aH h];exact q⟩
theorem Fm.mut(F:Fm K H₀ O₀ H O own e σ)(i:Nat){ds:List D}(hi:e.at i=.o (.lst ds)):∃p xs,bY σ i=some (.ref p)/\H p=some (.lst xs)/\RDs K H O ds xs/\O p /\
 ∀ds' xs',RDs K H O ds' xs'->Fm K H₀ O₀ (upd H p (.lst xs')) O own (e.set i (.o (.lst ds'))) σ:=by
 obtain⟨p,e2,⟨xs,h1,h2⟩,hO,k⟩:=F.mutA i hi
 exact⟨p,xs,e2,h1,h2,hO,λds' xs' r=>k (.lst ds') (.lst xs') λ_ _=>⟨xs',bM,r.upd hO h1⟩⟩
theorem Fm.seal(F:Fm K H₀ O₀ H O own e σ)(i:Nat){d:D}(hi:e.at i=.o d)(hd:d.isDct=false):∃O' own',Fm K H₀ O₀ H O' own' (e.set i (.v d)) σ/\∀a,O' a->O a:=by
 have q:=F.sl i
 rw[hi]at q
 obtain⟨p,e1,e2,h1⟩:=q
 have hn:=F.new i p e1
 have hlen:i<e.length:=by
  by_cases h:i<e.length
  ·exact h
  ·rw[hW h]at hi;cases hi
 refine⟨pQ O p,λj=>if j=i then none else own j,⟨by rw[dY];exact F.len,λj=>?_,λj k a q1 q2=>?_,F.same,λa ha=>⟨F.sub a ha,λz=>?_⟩,F.trk0,λa ha=>F.trk a ha.1,λj a q1=>?_,pT (λ_ z=>by cases z) F.nw⟩,λa ha=>ha.1⟩
 ·by_cases h:i=j
  ·subst h
   rw[iT hlen,e2]
   exact⟨.ref p,rfl,OwnAt.rd (λz=>z.2 rfl) hd (h1.weak λ_ z=>z.1)⟩
  ·rw[eY h,if_neg (Ne.symm h)]
   exact RS.map (λq=>q.weak λ_ z=>z.1) (λq=>q.weak λ_ z=>z.1) (λq=>q.weak λ_ z=>z.1) (λq=>q.weak λ_ z=>z.1) (λa ys _ _ q=>q) (F.sl j) (GR λ_ z=>z.1)
 ·by_cases h:j=i
  ·rw[if_pos h]at q1;cases q1
  ·by_cases h':k=i
   ·rw[if_pos h']at q2;cases q2
   ·rw[if_neg h]at q1;rw[if_neg h']at q2;exact F.inj j k a q1 q2
 ·obtain⟨o,w⟩:=F.trk0.1 a ha
  rw[z,hn.2]at w;cases w
 ·by_cases h:j=i
  ·rw[if_pos h]at q1;cases q1
  ·rw[if_neg h]at q1
   exact⟨⟨(F.new j a q1).1,λz=>h (F.inj j i p (z▸q1) e1)⟩,(F.new j a q1).2⟩
theorem Fm.sealD(F:Fm K H₀ O₀ H O own e σ)(i:Nat){d:D}(hi:e.at i=.o d)(hd:d.isDct=true):∃p u,H p=some u/\((∃ps,u=.dK ps)\/∃ps,u=.dT ps)/\bY σ i=some (.ref p)/\(O p/\gJ u) /\
 ∀ob,(∃own',Fm K H₀ O₀ (upd H p (.frz ob u)) (pQ O p) own' (e.set i (.v d)) σ)/\RD K (upd H p (.frz ob u)) (pQ O p) d (.ref p):=by
 have q:=F.sl i
 rw[hi]at q
 obtain⟨p,e1,e2,h1⟩:=q
 have hn:=F.new i p e1
 have hlen:i<e.length:=by
  by_cases h:i<e.length
  ·exact h
  ·rw[hW h]at hi;cases hi
 obtain⟨u,hu,hm⟩:=h1.obj
 have hk:((∃ps,u=.dK ps)\/∃ps,u=.dT ps)/\∀ob,RD K (upd H p (.frz ob u)) (pQ O p) d (.ref p):=by
  cases d with
  |dct kvs=>
   obtain⟨ps,g1,g2⟩:=h1
   rw[g1]at hu
   cases hu
   exact⟨.inl ⟨ps,rfl⟩,λob=>⟨p,ps,rfl,⟨ob,bM⟩,(g2.updM hn.1 g1 trivial).weak λ_ z=>z.1⟩⟩
  |tdc kvs=>
   obtain⟨ps,g1,g2⟩:=h1
   rw[g1]at hu
   cases hu
   exact⟨.inr ⟨ps,rfl⟩,λob=>⟨p,ps,rfl,⟨ob,bM⟩,(g2.updM hn.1 g1 trivial).weak λ_ z=>z.1⟩⟩
  |_=>cases hd
 refine⟨p,u,hu,hk.1,e2,⟨hn.1,hm⟩,λob=>⟨⟨λj=>if j=i then none else own j,⟨by rw[dY];exact F.len,λj=>?_,λj k a q1 q2=>?_,λb w hb=>?_,λa ha=>⟨F.sub a ha,λz=>?_⟩,F.trk0,λa ha=>?_,λj a q1=>?_,pT (λ_ z=>by cases z) F.nw⟩⟩,hk.2 ob⟩⟩
 ·by_cases h:i=j
  ·subst h
   rw[iT hlen,e2]
   exact⟨.ref p,rfl,hk.2 ob⟩
  ·rw[eY h,if_neg (Ne.symm h)]
   refine RS.map (λq=>(q.updM hn.1 hu hm).weak λ_ z=>z.1) (λq=>(q.updM hn.1 hu hm).weak λ_ z=>z.1) (λq=>(q.updM hn.1 hu hm).weak λ_ z=>z.1) (λq=>(q.updM hn.1 hu hm).weak λ_ z=>z.1) (λa w ea _ q=>?_) (F.sl j) (λa xs n q=>?_) (dQ (K:=K) hn.1 hu hm).1
   ·have:a≠p:=λz=>h (F.inj i j p e1 (z▸ea))
    rw[aH this];exact q
   ·obtain⟨_,z2⟩:=pU (o':=.frz ob u) hn.1 a xs n q
    exact⟨λz=>n z.1,z2⟩
 ·by_cases h:j=i
  ·rw[if_pos h]at q1;cases q1
  ·by_cases h':k=i
   ·rw[if_pos h']at q2;cases q2
   ·rw[if_neg h]at q1;rw[if_neg h']at q2;exact F.inj j k a q1 q2
 ·rw[aH (λz=>by rw[z,hn.2]at hb;cases hb)];exact F.same b w hb
 ·obtain⟨o,w⟩:=F.trk0.1 a ha
  rw[z,hn.2]at w;cases w
 ·obtain⟨o,w⟩:=F.trk a ha.1
  exact⟨o,by rw[aH ha.2];exact w⟩
 ·by_cases h:j=i
  ·rw[if_pos h]at q1;cases q1
  ·rw[if_neg h]at q1
   exact⟨⟨(F.new j a q1).1,λz=>h (F.inj j i p (z▸q1) e1)⟩,(F.new j a q1).2⟩
theorem Fm.val(F:Fm K H₀ O₀ H O own e σ){i:Nat}{d:D}(h:(e.at i).val=.ok d):∃v,σ[i]?=some (some v)/\RD K H O d v:=by
 have q:=F.sl i
 cases z:e.at i with
 |no=>rw[z]at h;cases h
 |o d=>rw[z]at h;cases h
 |t d=>rw[z]at h;cases h
 |r a d=>rw[z]at h;cases h
 |n d'=>
  rw[z]at h q
  cases h
  obtain⟨v,e1,r⟩:=q
  exact⟨v,eA e1,r.rd⟩
 |v d'=>
  rw[z]at h q
  cases h
  obtain⟨v,e1,r⟩:=q
  exact⟨v,eA e1,r⟩
theorem Fm.any(F:Fm K H₀ O₀ H O own e σ){i:Nat}{d:D}(h:(e.at i).any=.ok d):∃v,σ[i]?=some (some v)/\RR K H O d v:=by
 have q:=F.sl i
 cases z:e.at i with
 |no=>rw[z]at h;cases h
 |t d=>rw[z]at h;cases h
 |o d'=>
  rw[z]at h q
  cases h
  obtain⟨a,e1,e2,h1⟩:=q
  exact⟨.ref a,eA e2,.inr ⟨a,rfl,h1⟩⟩
 |r a d'=>
  rw[z]at h q
  cases h
  exact⟨.ref a,eA q.2.1,.inr ⟨a,rfl,q.2.2⟩⟩
 |n d'=>
  rw[z]at h q
  cases h
  obtain⟨v,e1,r⟩:=q
  exact⟨v,eA e1,.inl r.rd⟩
 |v d'=>
  rw[z]at h q
  cases h
  obtain⟨v,e1,r⟩:=q
  exact⟨v,eA e1,.inl r⟩
theorem Sl.own_ok{x:Sl}{a:List D}(h:x.own=.ok a):x=.o (.lst a):=by
 unfold Sl.own at h
 split at h
 ·cases h;rfl
 ·cases h
theorem Sl.ownA_ok{x:Sl}{a:D}(h:x.ownA=.ok a):x=.o a:=by
 unfold Sl.ownA at h
 split at h
 ·cases h;rfl
 ·cases h
end
noncomputable def NewL(K:PySem.W.Frag)(H H':Hp)(O:Addr->Prop)(d:D)(v:V):Prop:=d.still=false->∃a,v=.ref a/\H a=none/\OwnAt K H' (cX O a) a d
theorem NewL.back{K:PySem.W.Frag}{H1 H H':Hp}{O:Addr->Prop}{d:D}{v:V}(s:Same H1 H)(n:NewL K H H' O d v):NewL K H1 H' O d v:=λz=>by
 obtain⟨a,h1,h2,h3⟩:=n z
 exact⟨a,h1,s.free h2,h3⟩
theorem NewL.same{K:PySem.W.Frag}{H H1 H':Hp}{O:Addr->Prop}{d:D}{v:V}(s:Same H1 H')(n:NewL K H H1 O d v):NewL K H H' O d v:=λz=>by
 obtain⟨a,h1,h2,h3⟩:=n z
 exact⟨a,h1,h2,h3.same s⟩
theorem NewL.weak{K:PySem.W.Frag}{H H':Hp}{O O':Addr->Prop}{d:D}{v:V}(s:∀a,O' a->O a)(n:NewL K H H' O d v):NewL K H H' O' d v:=λz=>by
 obtain⟨a,h1,h2,h3⟩:=n z
 exact⟨a,h1,h2,h3.weak λb hb=>hb.imp (s b) id⟩
theorem NewL.still{K:PySem.W.Frag}{H H':Hp}{O:Addr->Prop}{d:D}{v:V}(h:d.still=true):NewL K H H' O d v:=λz=>by rw[h]at z;cases z
noncomputable def NewR(K:PySem.W.Frag)(H H':Hp)(O:Addr->Prop)(d:D)(v:V):Prop:=NewL K H H' O d v/\∀(ks:List (Sum Int Str))(a r:List D),d=.tup (ks.map hF++.lst a::r)->∃t p ys vs,v=.ref t/\TupV K H' t (ks.map kV++.ref p::vs)/\H p=none/\H' p=some (.lst ys)/\RDs K H' (cX O p) a ys/\RDs K H' (cX O p) r vs
theorem GS(ks:List (Sum Int Str))(a r:List D):mZ (ks.map hF++.lst a::r)=true:=by
 induction ks with
 |nil=>rfl
 |cons k ks ih=>cases k<;>exact ih
theorem NewR.of{K:PySem.W.Frag}{H H':Hp}{O:Addr->Prop}{d:D}{v:V}(n:NewL K H H' O d v)(h:jM d=false):NewR K H H' O d v:=⟨n,λks a r z=>by
 subst z
 have h:mZ _=false:=h
 rw[GS]at h;cases h⟩
section
variable(T:Tab)(cf:Nat->List D->Res D)(K:PySem.W.Frag)(H₀:Hp)(O₀:Addr->Prop)
noncomputable def tE(x:E):TE:=λσ H Q=>∃O own e d,Fm K H₀ O₀ H O own e σ/\evE T cf x e=.ok d/\∀v H',Same H H'->RD K H' O d v->(bJ T x=true->NewL K H H' O d v)->Q v H'
noncomputable def tR(x:E):TE:=λσ H Q=>∃O own e d,Fm K H₀ O₀ H O own e σ/\evE T cf x e=.ok d/\∀v H',Same H H'->RR K H' O d v->Q v H'
noncomputable def tT(x:E):TT:=λσ H Q=>∃O own e d k,Fm K H₀ O₀ H O own e σ/\evE T cf x e=.ok d/\d.truth=.ok k/\∀H',Same H H'->Q k H'
noncomputable def NewAs(H H':Hp)(O:Addr->Prop)(x:E)(ds:List D)(vs:List V):Prop:=∀j d v,bJ T (Ae x j)=true->ds[j]?=some d->vs[j]?=some v->NewL K H H' O d v
noncomputable def tAv(x:E):TA:=λσ H Q=>∃O own e ds,Fm K H₀ O₀ H O own e σ/\evA T cf x e=.ok ds/\∀vs H',Same H H'->RDs K H' O ds vs->NewAs T K H H' O x ds vs->Q vs H'
noncomputable def tAr(x:E):TA:=λσ H Q=>∃O own e ds,Fm K H₀ O₀ H O own e σ/\evA T cf x e=.ok ds/\∀vs H',Same H H'->RRs K H' O ds vs->Q vs H'
end
section
variable(T:Tab)(cf:Nat->List D->Res D)(X:Cx)
noncomputable def SE(x:E)(p:Expr):Prop:=∀H₀ O₀,PE X p (tE T cf X.K H₀ O₀ x)
noncomputable def SR(x:E)(p:Expr):Prop:=∀H₀ O₀,PE X p (tR T cf X.K H₀ O₀ x)
noncomputable def ST(x:E)(p:Expr):Prop:=∀H₀ O₀,PT X p (tT T cf X.K H₀ O₀ x)
noncomputable def SAv(x:E)(p:List Expr):Prop:=∀H₀ O₀,PA X p (tAv T cf X.K H₀ O₀ x)
noncomputable def SAr(x:E)(p:List Expr):Prop:=∀H₀ O₀,PA X p (tAr T cf X.K H₀ O₀ x)
end
section
variable{T:Tab}{cf:Nat->List D->Res D}{X:Cx}{x y z:E}{p q r:Expr}{pos:Pos}
theorem PE.imp{t t':TE}(h:∀σ H Q,t' σ H Q->t σ H Q)(hp:PE X p t):PE X p t':=λpins s σ H Q I q=>hp pins s σ H Q I (h σ H Q q)
theorem PT.imp{t t':TT}(h:∀σ H Q,t' σ H Q->t σ H Q)(hp:PT X p t):PT X p t':=λpins s σ H Q I q=>hp pins s σ H Q I (h σ H Q q)
theorem SE.sr(h:SE T cf X x p):SR T cf X x p:=λH₀ O₀=>PE.imp (λσ H Q ⟨O,own,e,d,F,ev,q⟩=>⟨O,own,e,d,F,ev,λv H' s r _=>q v H' s r.rr⟩) (h H₀ O₀)
theorem SAv.sr{ps:List Expr}(h:SAv T cf X x ps):SAr T cf X x ps:=λH₀ O₀ pos pins s σ H Q I ⟨O,own,e,ds,F,ev,q⟩=>h H₀ O₀ pos pins s σ H Q I ⟨O,own,e,ds,F,ev,λvs H' s r _=>q vs H' s r.rr⟩
theorem se_var {i:Nat} {n:Str} (hN:X.N[i]?=some n) (hv:Vis X.env.scope n) (hd:(n==("__debug__" : Str))=false) (hc:(n==("__classdict__" : Str))=false):SE T cf X (.var i) (.Name n pos):=λH₀ O₀=>
 PE.imp (λσ H Q ⟨O,own,e,d,F,ev,q⟩=>by
  obtain⟨v,h1,h2⟩:=F.val (i:=i) (by rw[uJ]at ev;exact ev)
  exact⟨v,h1,q v H (Same.refl H) h2 (λz=>by cases z)⟩) (eP hN hv hd hc)
theorem BN {i:Nat} {n:Str} (hN:X.N[i]?=some n) (hv:Vis X.env.scope n) (hd:(n==("__debug__" : Str))=false) (hc:(n==("__classdict__" : Str))=false):SR T cf X (.rd i) (.Name n pos):=λH₀ O₀=>
 PE.imp (λσ H Q ⟨O,own,e,d,F,ev,q⟩=>by
  obtain⟨v,h1,h2⟩:=F.any (i:=i) (by rw[Ag]at ev;exact ev)
  exact⟨v,h1,q v H (Same.refl H) h2⟩) (eP hN hv hd hc)
noncomputable def uQ:D->Const->Bool
 |.non,.none=>true
 |.bl a,.bool b=>a==b
 |.int i,.int j=>i==j
 |.str a,.str b=>a==b
 |_,_=>false
theorem se_con{d:D}{c:Const}{k:Nat}(h:uQ d c=true):SE T cf X (.con d) (.Constant c k pos):=λH₀ O₀=>by
 have fin:∀{v:V} {σ:L2.St} {H:Hp} {Q:VK},(∀H O,RD X.K H O d v)->tE T cf X.K H₀ O₀ (.con d) σ H Q->Q v H:=λhv ⟨O,own,e,d',F,ev,q⟩=>by
  rw[uK]at ev;cases ev
  exact q _ _ (Same.refl _) (hv _ _) (λz=>by cases z)
 cases d<;>cases c<;>first
  |(exact absurd (show false=true from h) aO)
  |(exact PE.imp (λσ H Q w=>fin (v:=.non) (λ_ _=>rfl) w) pe_non)
  |(have e:=eq_of_beq (show _==_ from h);subst e;first
   |exact PE.imp (λσ H Q w=>fin (λ_ _=>rfl) w) pe_bl
   |exact PE.imp (λσ H Q w=>fin (λ_ _=>rfl) w) pe_int
   |exact PE.imp (λσ H Q w=>fin (λ_ _=>rfl) w) pe_str)
noncomputable def BO(X:Cx)(n:Str)(d:D):Prop:=∃v u,X.mg n=some u/\RelV v u/\∀H O,RD X.K H O d v
theorem GT {g:Nat} {n:Str} (hg:Gl X n) (h:BO X n (T.glob g)) (hd:(n==("__debug__" : Str))=false):SE T cf X (.glob g) (.Name n pos):=λH₀ O₀=>by
 obtain⟨v,u,hm,r,hv⟩:=h
 refine PE.imp (λσ H Q hq=>?_) (Er (v:=v) hg hm r hd)
 obtain⟨O,own,e,d,F,ev,q⟩:=hq
 rw[Fv]at ev;cases ev
 exact q v H (Same.refl H) (hv H O) (λz=>by cases z)
noncomputable def rD2(K:PySem.W.Frag)(f:D->D->Res D)(fr:Bool):R2:=λx y H Q=>∃O d1 d2 d,RR K H O d1 x/\RR K H O d2 y/\f d1 d2=.ok d/\(∀a,O a->∃o,H a=some o)/\∀v H',Same H H'->RD K H' O d v->(fr=true->NewL K H H' O d v)->Q v H'
theorem uR{w:E}{pe:Expr}{f:D->D->Res D}(hw:∀e,evE T cf w e=(do let a<-evE T cf x e;let b<-evE T cf y e;f a b))
 (hop:∀{ta tb:TE},PE X p ta->PE X q tb->PE X pe (tOp (rD2 X.K f (bJ T w)) ta tb)) (ha:SR T cf X x p) (hb:SR T cf X y q):SE T cf X w pe:=λH₀ O₀=>by
 refine PE.imp (λσ H Q hq=>?_) (hop (ha H₀ O₀) (hb H₀ O₀))
 obtain⟨O,own,e,d,F,ev,k⟩:=hq
 rw[hw]at ev
 obtain⟨d1,e1,ev⟩:=Res.bind_ok ev
 obtain⟨d2,e2,ev⟩:=Res.bind_ok ev
 refine⟨O,own,e,d1,F,e1,λv1 H1 s1 r1=>?_⟩
 refine⟨O,own,e,d2,F.grow s1,e2,λv2 H2 s2 r2=>?_⟩
 refine⟨O,d1,d2,d,r1.same s2,r2,ev,λa ha=>?_,λv H' s3 r3 n3=>?_⟩
 ·exact(F.grow (s1.trans s2)).trk a ha
 ·exact k v H' ((s1.trans s2).trans s3) r3 λfr=>(n3 fr).back (s1.trans s2)
end
noncomputable abbrev no:Addr->Prop:=λ_=>False
section
variable{X:Cx}{pins:List (Addr×Obj)}{σ:L2.St}{H:Hp}{s:Shared}
theorem pV(I:Inv X pins σ H s){a:Addr}{xs ys:List V}(h1:SqL X.K H a xs)(h2:SqT X.K H a ys):False:=by
 obtain⟨its,_,pl,_⟩:=I.list h1
 obtain⟨its',_,pt,_⟩:=I.tuple h2
 exact SeqAt.ne_of_list_tuple pl.isList pt rfl
theorem RD.sql{K:PySem.W.Frag}{O:Addr->Prop}{ds:List D}{v:V}(h:RD K H O (.lst ds) v):∃a xs,v=.ref a/\SqL K H a xs/\RDs K H O ds xs:=RR.lst (.inl h)
theorem BP (I:Inv X pins σ H s) {a:Addr} {ps:List (Key×V)} (h:Rd H a (.dK ps)):∃o,s.heap.get? a=some o/\o.cls=.type "dict" := by
 obtain⟨_,_,vs,_,o,es,ep,e,c,_⟩:=(show ObjOk X.prog X.w H s.heap a (.dK ps)from mT I.hok h)
 exact⟨o,e,c.1⟩
theorem pW(I:Inv X pins σ H s){a:Addr}{ps:List (Key×V)}{xs:List V}(h:Rd H a (.dK ps))(h2:SqL X.K H a xs):False:=by
 obtain⟨its,_,pl,_⟩:=I.list h2
 obtain⟨o,e,c⟩:=BP I h
 obtain⟨o',e',c',_⟩:=pl.isList
 rw[e]at e';cases e'
 rw[c]at c'
 injection c' with z
 exact absurd z (by decide)
theorem pX(I:Inv X pins σ H s){a:Addr}{ps:List (Key×V)}{xs:List V}(h:Rd H a (.dK ps))(h2:SqT X.K H a xs):False:=by
 obtain⟨its,_,pl,_⟩:=I.tuple h2
 obtain⟨o,e,c⟩:=BP I h
 obtain⟨o',e',c',_⟩:=pl
 rw[e]at e';cases e'
 rw[c]at c'
 injection c' with z
 exact absurd z (by decide)
theorem BQ (I:Inv X pins σ H s) {a:Addr} {ps:List (List Key×V)} (h:Rd H a (.dT ps)):∃o,s.heap.get? a=some o/\o.cls=.type "dict" := by
 obtain⟨_,_,vs,_,o,es,ep,e,c,_⟩:=(show ObjOk X.prog X.w H s.heap a (.dT ps)from mT I.hok h)
 exact⟨o,e,c.1⟩
theorem pY(I:Inv X pins σ H s){a:Addr}{ps:List (List Key×V)}{xs:List V}(h:Rd H a (.dT ps))(h2:SqL X.K H a xs):False:=by
 obtain⟨its,_,pl,_⟩:=I.list h2
 obtain⟨o,e,c⟩:=BQ I h
 obtain⟨o',e',c',_⟩:=pl.isList
 rw[e]at e';cases e'
 rw[c]at c'
 injection c' with z
 exact absurd z (by decide)
theorem pZ(I:Inv X pins σ H s){a:Addr}{ps:List (List Key×V)}{xs:List V}(h:Rd H a (.dT ps))(h2:SqT X.K H a xs):False:=by
 obtain⟨its,_,pl,_⟩:=I.tuple h2
 obtain⟨o,e,c⟩:=BQ I h
 obtain⟨o',e',c',_⟩:=pl
 rw[e]at e';cases e'
 rw[c]at c'
 injection c' with z
 exact absurd z (by decide)
mutual
theorem RD.inj(I:Inv X pins σ H s):∀{d d':D} {v:V},RD X.K H no d v->RD X.K H no d' v->d=d'
 |.non,d',v,h,h'=>by cases (show v=.non from h);cases d'<;>first|(obtain⟨a,xs,e,_⟩:=h';cases e;done)|rfl|(cases h';done)
 |.bl b,d',v,h,h'=>by cases (show v=.bl b from h);cases d'<;>first|(obtain⟨a,xs,e,_⟩:=h';cases e;done)|rfl|(cases h';rfl)|(cases h';done)
 |.int b,d',v,h,h'=>by cases (show v=.int b from h);cases d'<;>first|(obtain⟨a,xs,e,_⟩:=h';cases e;done)|rfl|(cases h';rfl)|(cases h';done)
 |.str b,d',v,h,h'=>by cases (show v=.str b from h);cases d'<;>first|(obtain⟨a,xs,e,_⟩:=h';cases e;done)|rfl|(cases h';rfl)|(cases h';done)
 |.tup ds,d',v,h,h'=>by
  obtain⟨a,xs,e,q,r⟩:=h
  subst e
  cases d' with
  |tup ds'=>
   obtain⟨a',xs',e,q',r'⟩:=h'
   cases e
   have:=I.tuple_inj q.sq q'.sq
   subst this
   rw[RDs.inj I r r']
  |lst ds'=>
   obtain⟨a',xs',e,q',r'⟩:=RD.sql h'
   cases e
   exact(pV I q' q.sq).elim
  |non=>cases h'
  |bl _=>cases h'
  |int _=>cases h'
  |str _=>cases h'
  |dct _=>
   obtain⟨a',xs',e,q',r'⟩:=h'
   cases e
   exact(pX I (.inr q') q.sq).elim
  |tdc _=>
   obtain⟨a',xs',e,q',r'⟩:=h'
   cases e
   exact(pZ I (.inr q') q.sq).elim
 |.lst ds,d',v,h,h'=>by
  obtain⟨a,xs,e,q,r⟩:=RD.sql h
  subst e
  cases d' with
  |lst ds'=>
   obtain⟨a',xs',e,q',r'⟩:=RD.sql h'
   cases e
   have:=I.list_inj q q'
   subst this
   rw[RDs.inj I r r']
  |tup ds'=>
   obtain⟨a',xs',e,q',r'⟩:=h'
   cases e
   exact(pV I q q'.sq).elim
  |non=>cases h'
  |bl _=>cases h'
  |int _=>cases h'
  |str _=>cases h'
  |dct _=>
   obtain⟨a',xs',e,q',r'⟩:=h'
   cases e
   exact(pW I (.inr q') q).elim
  |tdc _=>
   obtain⟨a',xs',e,q',r'⟩:=h'
   cases e
   exact(pY I (.inr q') q).elim
 |.dct kvs,d',v,h,h'=>by
  obtain⟨a,xs,e,q,r⟩:=h
  subst e
  cases d' with
  |dct kvs'=>
   obtain⟨a',xs',e,q',r'⟩:=h'
   cases e
   obtain⟨o1,q⟩:=q
   obtain⟨o2,q'⟩:=q'
   have:=q.symm.trans q'
   cases this
   rw[RDk.inj I r r']
  |tup ds'=>
   obtain⟨a',xs',e,q',r'⟩:=h'
   cases e
   exact(pX I (.inr q) q'.sq).elim
  |lst ds'=>
   obtain⟨a',xs',e,q',r'⟩:=RD.sql h'
   cases e
   exact(pW I (.inr q) q').elim
  |non=>cases h'
  |bl _=>cases h'
  |int _=>cases h'
  |str _=>cases h'
  |tdc _=>
   obtain⟨a',xs',e,q',r'⟩:=h'
   cases e
   obtain⟨o1,q⟩:=q
   obtain⟨o2,q'⟩:=q'
   have:=q.symm.trans q'
   cases this
 |.tdc kvs,d',v,h,h'=>by
  obtain⟨a,xs,e,q,r⟩:=h
  subst e
  cases d' with
  |tdc kvs'=>
   obtain⟨a',xs',e,q',r'⟩:=h'
   cases e
   obtain⟨o1,q⟩:=q
   obtain⟨o2,q'⟩:=q'
   have:=q.symm.trans q'
   cases this
   rw[RDt.inj I r r']
  |tup ds'=>
   obtain⟨a',xs',e,q',r'⟩:=h'
   cases e
   exact(pZ I (.inr q) q'.sq).elim
  |lst ds'=>
   obtain⟨a',xs',e,q',r'⟩:=RD.sql h'
   cases e
   exact(pY I (.inr q) q').elim
  |non=>cases h'
  |bl _=>cases h'
  |int _=>cases h'
  |str _=>cases h'
  |dct _=>
   obtain⟨a',xs',e,q',r'⟩:=h'
   cases e
   obtain⟨o1,q⟩:=q
   obtain⟨o2,q'⟩:=q'
   have:=q.symm.trans q'
   cases this
theorem RDs.inj(I:Inv X pins σ H s):∀{ds ds':List D} {vs:List V},RDs X.K H no ds vs->RDs X.K H no ds' vs->ds=ds'
 |[],[],_,_,_=>rfl
 |[],_::_,_,h,h'=>by
  rw[RDs]at h;subst h
  obtain⟨_,_,e,_⟩:=h';cases e
 |_::_,[],_,h,h'=>by
  rw[RDs]at h';subst h'
  obtain⟨_,_,e,_⟩:=h;cases e
 |d::ds,d'::ds',vs,h,h'=>by
  obtain⟨v,r,rfl,h1,h2⟩:=h
  obtain⟨v',r',e,h1',h2'⟩:=h'
  cases e
  rw[RD.inj I h1 h1',RDs.inj I h2 h2']
theorem RDk.inj(I:Inv X pins σ H s):∀{ds ds':List (Sum Int Str×D)} {vs:List (Key×V)},RDk X.K H no ds vs->RDk X.K H no ds' vs->ds=ds'
 |[],[],_,_,_=>rfl
 |[],_::_,_,h,h'=>by
  rw[RDk]at h;subst h
  obtain⟨_,_,e,_⟩:=h';cases e
 |_::_,[],_,h,h'=>by
  rw[RDk]at h';subst h'
  obtain⟨_,_,e,_⟩:=h;cases e
 |(k,d)::ds,(k',d')::ds',vs,h,h'=>by
  obtain⟨v,r,rfl,h1,h2⟩:=h
  obtain⟨v',r',e,h1',h2'⟩:=h'
  cases e
  rw[RD.inj I h1 h1',RDk.inj I h2 h2']
theorem RDt.inj(I:Inv X pins σ H s):∀{ds ds':List (List (Sum Int Str)×D)} {vs:List (List Key×V)},RDt X.K H no ds vs->RDt X.K H no ds' vs->ds=ds'
 |[],[],_,_,_=>rfl
 |[],_::_,_,h,h'=>by
  rw[RDt]at h;subst h
  obtain⟨_,_,e,_⟩:=h';cases e
 |_::_,[],_,h,h'=>by
  rw[RDt]at h';subst h'
  obtain⟨_,_,e,_⟩:=h;cases e
 |(k,d)::ds,(k',d')::ds',vs,h,h'=>by
  obtain⟨v,r,rfl,h1,h2⟩:=h
  obtain⟨v',r',e,h1',h2'⟩:=h'
  cases e
  rw[RD.inj I h1 h1',RDt.inj I h2 h2']
end
noncomputable def fQ(xs ys:List D)(j:Nat):Bool:=match xs[j]?,ys[j]? with
 |some x,some y=>D.eqb x y
 |_,_=>false
theorem GU(x y:D)(xs ys:List D)(j:Nat):fQ (x::xs) (y::ys) (j+1)=fQ xs ys j:=by simp[fQ]
theorem nG:∀xs ys:List D,xs.length=ys.length->(aD xs.length).all (fQ xs ys)=D.eqs xs ys
 |[],[],_=>rfl
 |[],_::_,h=>by simp at h
 |_::_,[],h=>by simp at h
 |x::xs,y::ys,h=>by
  rw[aW,zN,pA,List.all_map,uA,<-nG xs ys (by simpa using h)]
  congr 1
theorem nH:∀xs ys:List D,xs.length≠ys.length->D.eqs xs ys=false
 |[],[],h=>by simp at h
 |[],_::_,_=>rfl
 |_::_,[],_=>rfl
 |x::xs,y::ys,h=>by rw[uA,nH xs ys (by simpa using h),LF]
theorem uS{xs ys:List D}:((aD (min xs.length ys.length)).all (fQ xs ys)&&xs.length==ys.length)=D.eqs xs ys:=by
 by_cases h:xs.length=ys.length
 ·rw[<-nG xs ys h,h,Nat.min_self];simp
 ·rw[nH xs ys h];simp[h]
class Fr1 (u:HO):Prop where
 no:∀o v,u≠.frz o v
noncomputable instance{ps:List (Key×V)}:Fr1 (.dK ps):=⟨λo v z=>by cases z⟩
noncomputable instance{ps:List (List Key×V)}:Fr1 (.dT ps):=⟨λo v z=>by cases z⟩
inductive Sees(X:Cx)(H:Hp)(s:Shared):D->Value->Prop
 |non:Sees X H s .non .none
 |bl (b):Sees X H s (.bl b) (.bool b)
 |int (i t):Sees X H s (.int i) (.int i t)
 |str (x t):Sees X H s (.str x) (.str x t)
 |tup (ds:List D) (a:Addr) (xs:List V) (its:List Value):SqT X.K H a xs->RDs X.K H no ds xs->Vals xs its->IsTup s.heap a its.toArray->Sees X H s (.tup ds) (.ref a)
 |lst (ds:List D) (a:Addr) (xs:List V) (its:List Value):SqL X.K H a xs->RDs X.K H no ds xs->Vals xs its->PlainL s.heap a its.toArray->Sees X H s (.lst ds) (.ref a)
 |dct (ds:List (Sum Int Str×D)) (a:Addr) (ps:List (Key×V)):Rd H a (.dK ps)->RDk X.K H no ds ps->Sees X H s (.dct ds) (.ref a)
 |tdc (ds:List (List (Sum Int Str)×D)) (a:Addr) (ps:List (List Key×V)):Rd H a (.dT ps)->RDt X.K H no ds ps->Sees X H s (.tdc ds) (.ref a)
theorem nI(I:Inv X pins σ H s){d:D}{v:V}{u:Value}(h:RD X.K H no d v)(r:RelV v u):Sees X H s d u:=by
 cases d with
 |non=>cases (show v=.non from h);cases r;exact .non
 |bl b=>cases (show v=.bl b from h);cases r;exact .bl b
 |int i=>cases (show v=.int i from h);obtain⟨t,rfl⟩:=r;exact .int i t
 |str x=>cases (show v=.str x from h);obtain⟨t,rfl⟩:=r;exact .str x t
 |tup ds=>
  obtain⟨a,xs,rfl,q,w⟩:=h
  cases r
  obtain⟨its,r1,p1,_⟩:=I.tuple q.sq
  exact .tup ds a xs its q.sq w r1 p1
 |lst ds=>
  obtain⟨a,xs,rfl,q,w⟩:=RD.sql h
  cases r
  obtain⟨its,r1,p1,_⟩:=I.list q
  exact .lst ds a xs its q w r1 p1
 |dct ds=>
  obtain⟨a,ps,rfl,q,w⟩:=h
  cases r
  exact .dct ds a ps (.inr q) w
 |tdc ds=>
  obtain⟨a,ps,rfl,q,w⟩:=h
  cases r
  exact .tdc ds a ps (.inr q) w
theorem uT(I:Inv X pins σ H s){O:Addr->Prop}{d:D}{v:V}{u:Value}(h:RR X.K H O d v)(r:RelV v u):Sees X H s d u:=by
 have w:∀{a:Addr},no a->O a:=λz=>z.elim
 rcases h with h|⟨a,rfl,h⟩
 ·exact nI I (h.weak λ_ z=>z.elim) r
 ·cases r
  cases d with
  |lst ds=>exact nI I (OwnAt.rd (O:=no) (λz=>z) rfl (h.weak λ_ z=>z.elim)) rfl
  |dct ds=>
   obtain⟨ps,h1,h2⟩:=h
   exact .dct ds a ps (.inl h1) (h2.weak λ_ z=>z.elim)
  |tdc ds=>
   obtain⟨ps,h1,h2⟩:=h
   exact .tdc ds a ps (.inl h1) (h2.weak λ_ z=>z.elim)
  |_=>exact h.elim
theorem qA{a:Addr}{u u':HO}[Fr1 u][Fr1 u'](h:Rd H a u)(h':Rd H a u'):u=u':=by
 rcases h with h|⟨o,h⟩
 ·rcases h' with h'|⟨o',h'⟩
  ·exact fJ.inj (h.symm.trans h')
  ·have e:=fJ.inj (h.symm.trans h')
   exact(Fr1.no (u:=u) o' u' e).elim
 ·rcases h' with h'|⟨o',h'⟩
  ·have e:=fJ.inj (h'.symm.trans h)
   exact(Fr1.no (u:=u') o u e).elim
  ·have e:=fJ.inj (h.symm.trans h')
   cases e;rfl
theorem fR{ds:List D}{xs:List V}{its:List Value}(w:RDs X.K H no ds xs)(r:Vals xs its):its.length=ds.length:=by rw[<-r.length,w.length]
noncomputable def nJ(X:Cx)(H:Hp)(s:Shared)(n:Nat):Prop:=∀(ds1 ds2:List D)(A:Around)(us1 us2:List Value)(xs1 xs2:List V),RDs X.K H no ds1 xs1->Vals xs1 us1->RDs X.K H no ds2 xs2->Vals xs2 us2->D.pls n ds1=true->D.pls n ds2=true->A.units+n<cLine ->
 ∀j (h1:j<us1.length) (h2:j<us2.length),SeqAt.EqAt A.in1 s us1[j] us2[j] (fQ ds1 ds2 j)
noncomputable def uU(X:Cx)(H:Hp)(s:Shared)(n:Nat):Prop:=∀(d1 d2:D)(A:Around)(u1 u2:Value),Sees X H s d1 u1->Sees X H s d2 u2->D.pl n d1=true->D.pl n d2=true->A.units+n<cLine->SeqAt.EqAt A s u1 u2 (D.eqb d1 d2)
theorem BR(I:Inv X pins σ H s){n:Nat}(it:nJ X H s n):uU X H s n:=by
 intro d1 d2 A u1 u2 h1 h2 f1 f2 hu
 have hu':A.units<cLine:=by lia
 have nd2:∀ds,d2≠.dct ds:=λds z=>by rw[z]at f2;cases f2
 have nt2:∀ds,d2≠.tdc ds:=λds z=>by rw[z]at f2;cases f2
 cases h1 with
 |dct ds a ps q w=>cases f1
 |tdc ds a ps q w=>cases f1
 |non=>cases h2 with
  |non=>exact SeqAt.EqAt.same _
  |bl b=>exact SeqAt.EqAt.none_bool b
  |int b t=>exact SeqAt.EqAt.none_int b t
  |str b t=>exact SeqAt.EqAt.none_str b t
  |tup ds a xs its q w r p=>exact SeqAt.EqAt.none_tuple p hu'
  |lst ds a xs its q w r p=>exact SeqAt.EqAt.none_list p.isList hu'
  |dct ds a ps q w=>exact absurd rfl (nd2 ds)
  |tdc ds a ps q w=>exact absurd rfl (nt2 ds)
 |bl x=>cases h2 with
  |non=>exact SeqAt.EqAt.bool_none x
  |bl b=>exact SeqAt.EqAt.bool_bool x b
  |int b t=>exact SeqAt.EqAt.bool_int x b t
  |str b t=>exact SeqAt.EqAt.bool_str x b t
  |tup ds a xs its q w r p=>exact SeqAt.EqAt.bool_tuple x p hu'
  |lst ds a xs its q w r p=>exact SeqAt.EqAt.bool_list x p.isList hu'
  |dct ds a ps q w=>exact absurd rfl (nd2 ds)
  |tdc ds a ps q w=>exact absurd rfl (nt2 ds)
 |int x t'=>cases h2 with
  |non=>exact SeqAt.EqAt.int_none x t'
  |bl b=>exact SeqAt.EqAt.int_bool x t' b
  |int b t=>exact SeqAt.EqAt.int_int x t' b t
  |str b t=>exact SeqAt.EqAt.int_str x t' b t
  |tup ds a xs its q w r p=>exact SeqAt.EqAt.int_tuple x t' p hu'
  |lst ds a xs its q w r p=>exact SeqAt.EqAt.int_list x t' p.isList hu'
  |dct ds a ps q w=>exact absurd rfl (nd2 ds)
  |tdc ds a ps q w=>exact absurd rfl (nt2 ds)
 |str x t'=>cases h2 with
  |non=>exact SeqAt.EqAt.str_none x t'
  |bl b=>exact SeqAt.EqAt.str_bool x t' b
  |int b t=>exact SeqAt.EqAt.str_int x t' b t
  |str b t=>exact SeqAt.EqAt.str_str x t' b t
  |tup ds a xs its q w r p=>exact SeqAt.EqAt.str_tuple x t' p hu'
  |lst ds a xs its q w r p=>exact SeqAt.EqAt.str_list x t' p.isList hu'
  |dct ds a ps q w=>exact absurd rfl (nd2 ds)
  |tdc ds a ps q w=>exact absurd rfl (nt2 ds)
 |tup ds1 a1 xs1 its1 q1 w1 r1 p1=>cases h2 with
  |non=>exact SeqAt.EqAt.tuple_none p1 hu'
  |bl b=>exact SeqAt.EqAt.tuple_bool b p1 hu'
  |int b t=>exact SeqAt.EqAt.tuple_int b t p1 hu'
  |str b t=>exact SeqAt.EqAt.tuple_str b t p1 hu'
  |lst ds a xs its q w r p=>exact SeqAt.EqAt.tuple_list p1 p.isList hu'
  |dct ds a ps q w=>exact absurd rfl (nd2 ds)
  |tdc ds a ps q w=>exact absurd rfl (nt2 ds)
  |tup ds2 a2 xs2 its2 q2 w2 r2 p2=>
   by_cases ha:a1=a2
   ·subst ha
    have:=I.tuple_inj q1 q2
    subst this
    have:=RDs.inj I w1 w2
    subst this
    rw[D.eqb_refl n _ f1]
    exact SeqAt.EqAt.same _
   ·rw[pL,<-uS,<-fR w1 r1,<-fR w2 r2]
    have z:=SeqAt.EqAt.of_refs ha (SeqAt.RcAt.tuples (A:=A) (e:=fQ ds1 ds2) p1 p2 hu' λj j1 j2=>by
     have:=it ds1 ds2 A its1 its2 xs1 xs2 w1 r1 w2 r2 f1 f2 hu j (by simpa using j1) (by simpa using j2)
     simpa using this)
    simpa using z
 |lst ds1 a1 xs1 its1 q1 w1 r1 p1=>cases h2 with
  |non=>exact SeqAt.EqAt.list_none p1.isList hu'
  |bl b=>exact SeqAt.EqAt.list_bool b p1.isList hu'
  |int b t=>exact SeqAt.EqAt.list_int b t p1.isList hu'
  |str b t=>exact SeqAt.EqAt.list_str b t p1.isList hu'
  |tup ds a xs its q w r p=>exact SeqAt.EqAt.list_tuple p1.isList p hu'
  |dct ds a ps q w=>exact absurd rfl (nd2 ds)
  |tdc ds a ps q w=>exact absurd rfl (nt2 ds)
  |lst ds2 a2 xs2 its2 q2 w2 r2 p2=>
   by_cases ha:a1=a2
   ·subst ha
    have:=I.list_inj q1 q2
    subst this
    have:=RDs.inj I w1 w2
    subst this
    rw[D.eqb_refl n _ f1]
    exact SeqAt.EqAt.same _
   ·have l1:=fR w1 r1
    have l2:=fR w2 r2
    rw[pM]
    by_cases hl:ds1.length=ds2.length
    ·rw[<-nG ds1 ds2 hl,<-l1]
     have z:=SeqAt.EqAt.of_refs ha (SeqAt.RcAt.lists (A:=A) (e:=fQ ds1 ds2) p1.isList p2.isList (by simp only[bG];lia) hu' λj j1 j2=>by
      have:=it ds1 ds2 A its1 its2 xs1 xs2 w1 r1 w2 r2 f1 f2 hu j (by simpa using j1) (by simpa using j2)
      simpa using this)
     simpa using z
    ·rw[nH ds1 ds2 hl]
     exact SeqAt.EqAt.of_refs ha (SeqAt.RcAt.lists_lengths p1.isList p2.isList (by simp only[bG,bne_iff_ne,ne_eq];lia) hu')
theorem GV:nJ X H s 0:=by
 intro ds1 ds2 A us1 us2 xs1 xs2 w1 r1 w2 r2 f1 f2 hu j h1 h2
 cases ds1 with
 |nil=>
  rw[RDs]at w1;subst w1
  cases r1
  exact absurd h1 (zP _)
 |cons d ds=>cases f1
theorem GW(I:Inv X pins σ H s){n:Nat}(ih:uU X H s n):nJ X H s (n+1):=by
 intro ds1
 induction ds1 with
 |nil=>
  intro ds2 A us1 us2 xs1 xs2 w1 r1 w2 r2 f1 f2 hu j h1 h2
  rw[RDs]at w1;subst w1
  cases r1
  exact absurd h1 (zP _)
 |cons d1 ds1 ih2=>
  intro ds2 A us1 us2 xs1 xs2 w1 r1 w2 r2 f1 f2 hu j h1 h2
  cases ds2 with
  |nil=>
   rw[RDs]at w2;subst w2
   cases r2
   exact absurd h2 (zP _)
  |cons d2 ds2=>
   obtain⟨v1,y1,rfl,e1,w1⟩:=w1
   obtain⟨v2,y2,rfl,e2,w2⟩:=w2
   cases r1 with
   |cons a1 r1=>
    cases r2 with
    |cons a2 r2=>
     rw[uB,aF]at f1 f2
     cases j with
     |zero=>exact ih d1 d2 A.in1 _ _ (nI I e1 a1) (nI I e2 a2) f1.1 f2.1 (by show A.units+1+n<cLine;lia)
     |succ j=>
      rw[GU]
      exact ih2 ds2 A _ _ _ _ w1 r1 w2 r2 f1.2 f2.2 hu j (LI h1) (LI h2)
theorem uV(I:Inv X pins σ H s):∀n,nJ X H s n
 |0=>GV
 |n+1=>GW I (BR I (uV I n))
theorem eqAt_D(I:Inv X pins σ H s)(n:Nat):uU X H s n:=BR I (uV I n)
theorem qC(I:Inv X pins σ H s)(n:Nat):nJ X H s n:=uV I n
end
theorem cG{H:Hp}{p:Addr}(h:H p=none)(o:HO):Same H (upd H p o):=λb u q=>by rw[aH (gF q h)];exact q
section
variable{K:PySem.W.Frag}{H:Hp}{O:Addr->Prop}{p:Addr}{ds:List D}{xs:List V}
theorem jN(w:RDs K H O ds xs)(hp:H p=none)(tr:∀a,O a->∃o,H a=some o):RD K (upd H p (.lst xs)) O (.lst ds) (.ref p)/\NewL K H (upd H p (.lst xs)) O (.lst ds) (.ref p):=by
 have nO:¬O p:=λz=>by
  obtain⟨o,q⟩:=tr p z
  rw[hp]at q;cases q
 exact⟨⟨p,xs,rfl,.inl ⟨nO,.inl bM⟩,w.same (cG hp _)⟩,λ_=>⟨p,rfl,hp,xs,bM,(w.new hp).same (cG hp _)⟩⟩
theorem GX{ds:List (Sum Int Str×D)}{ps:List (Key×V)}(w:RDk K H O ds ps)(hp:H p=none):OwnAt K (upd H p (.dK ps)) (cX O p) p (.dct ds):=⟨ps,bM,(w.new hp).same (cG hp _)⟩
theorem nK(w:RDs K H O ds xs)(hp:H p=none):RD K (upd H p (.tup xs)) O (.tup ds) (.ref p):=⟨p,xs,rfl,.inl bM,w.same (cG hp _)⟩
end
section
variable{X:Cx}{pins:List (Addr×Obj)}{σ:L2.St}{H:Hp}{s:Shared}
theorem rcAt_D(I:Inv X pins σ H s){n:Nat}{d1 d2:D}{A:Around}{u1 u2:Value}(h1:Sees X H s d1 u1)(h2:Sees X H s d2 u2)(f1:D.pl n d1=true)(f2:D.pl n d2=true)(hu:A.units+n<cLine):SeqAt.RcAt A s u1 u2 (D.eqb d1 d2):=by
 have hu':A.units<cLine:=by lia
 have nd2:∀ds,d2≠.dct ds:=λds z=>by rw[z]at f2;cases f2
 have nt2:∀ds,d2≠.tdc ds:=λds z=>by rw[z]at f2;cases f2
 cases h1 with
 |dct ds a ps q w=>cases f1
 |tdc ds a ps q w=>cases f1
 |non=>cases h2 with
  |non=>exact SeqAt.RcAt.none_none
  |bl b=>exact SeqAt.RcAt.none_bool b
  |int b t=>exact SeqAt.RcAt.none_int b t
  |str b t=>exact SeqAt.RcAt.none_str b t
  |tup ds a xs its q w r p=>exact SeqAt.RcAt.none_tuple p hu'
  |lst ds a xs its q w r p=>exact SeqAt.RcAt.none_list p.isList hu'
  |dct ds a ps q w=>exact absurd rfl (nd2 ds)
  |tdc ds a ps q w=>exact absurd rfl (nt2 ds)
 |bl x=>cases h2 with
  |non=>exact SeqAt.RcAt.bool_none x
  |bl b=>exact SeqAt.RcAt.bool_bool x b
  |int b t=>exact SeqAt.RcAt.bool_int x b t
  |str b t=>exact SeqAt.RcAt.bool_str x b t
  |tup ds a xs its q w r p=>exact SeqAt.RcAt.bool_tuple x p hu'
  |lst ds a xs its q w r p=>exact SeqAt.RcAt.bool_list x p.isList hu'
  |dct ds a ps q w=>exact absurd rfl (nd2 ds)
  |tdc ds a ps q w=>exact absurd rfl (nt2 ds)
 |int x t'=>cases h2 with
  |non=>exact SeqAt.RcAt.int_none x t'
  |bl b=>exact SeqAt.RcAt.int_bool x t' b
  |int b t=>exact SeqAt.RcAt.int_int x t' b t
  |str b t=>exact SeqAt.RcAt.int_str x t' b t
  |tup ds a xs its q w r p=>exact SeqAt.RcAt.int_tuple x t' p hu'
  |lst ds a xs its q w r p=>exact SeqAt.RcAt.int_list x t' p.isList hu'
  |dct ds a ps q w=>exact absurd rfl (nd2 ds)
  |tdc ds a ps q w=>exact absurd rfl (nt2 ds)
 |str x t'=>cases h2 with
  |non=>exact SeqAt.RcAt.str_none x t'
  |bl b=>exact SeqAt.RcAt.str_bool x t' b
  |int b t=>exact SeqAt.RcAt.str_int x t' b t
  |str b t=>exact SeqAt.RcAt.str_str x t' b t
  |tup ds a xs its q w r p=>exact SeqAt.RcAt.str_tuple x t' p hu'
  |lst ds a xs its q w r p=>exact SeqAt.RcAt.str_list x t' p.isList hu'
  |dct ds a ps q w=>exact absurd rfl (nd2 ds)
  |tdc ds a ps q w=>exact absurd rfl (nt2 ds)
 |tup ds1 a1 xs1 its1 q1 w1 r1 p1=>cases h2 with
  |non=>exact SeqAt.RcAt.tuple_none p1 hu'
  |bl b=>exact SeqAt.RcAt.tuple_bool b p1 hu'
  |int b t=>exact SeqAt.RcAt.tuple_int b t p1 hu'
  |str b t=>exact SeqAt.RcAt.tuple_str b t p1 hu'
  |lst ds a xs its q w r p=>exact SeqAt.RcAt.tuple_list p1 p.isList hu'
  |dct ds a ps q w=>exact absurd rfl (nd2 ds)
  |tdc ds a ps q w=>exact absurd rfl (nt2 ds)
  |tup ds2 a2 xs2 its2 q2 w2 r2 p2=>
   rw[pL,<-uS,<-fR w1 r1,<-fR w2 r2]
   have z:=SeqAt.RcAt.tuples (A:=A) (e:=fQ ds1 ds2) p1 p2 hu' λj j1 j2=>by
    have:=qC I n ds1 ds2 A its1 its2 xs1 xs2 w1 r1 w2 r2 f1 f2 hu j (by simpa using j1) (by simpa using j2)
    simpa using this
   simpa using z
 |lst ds1 a1 xs1 its1 q1 w1 r1 p1=>cases h2 with
  |non=>exact SeqAt.RcAt.list_none p1.isList hu'
  |bl b=>exact SeqAt.RcAt.list_bool b p1.isList hu'
  |int b t=>exact SeqAt.RcAt.list_int b t p1.isList hu'
  |str b t=>exact SeqAt.RcAt.list_str b t p1.isList hu'
  |tup ds a xs its q w r p=>exact SeqAt.RcAt.list_tuple p1.isList p hu'
  |dct ds a ps q w=>exact absurd rfl (nd2 ds)
  |tdc ds a ps q w=>exact absurd rfl (nt2 ds)
  |lst ds2 a2 xs2 its2 q2 w2 r2 p2=>
   have l1:=fR w1 r1
   have l2:=fR w2 r2
   rw[pM]
   by_cases hl:ds1.length=ds2.length
   ·rw[<-nG ds1 ds2 hl,<-l1]
    have z:=SeqAt.RcAt.lists (A:=A) (e:=fQ ds1 ds2) p1.isList p2.isList (by simp only[bG];lia) hu' λj j1 j2=>by
     have:=qC I n ds1 ds2 A its1 its2 xs1 xs2 w1 r1 w2 r2 f1 f2 hu j (by simpa using j1) (by simpa using j2)
     simpa using this
    simpa using z
   ·rw[nH ds1 ds2 hl]
    exact SeqAt.RcAt.lists_lengths p1.isList p2.isList (by simp only[bG,bne_iff_ne,ne_eq];lia) hu'
theorem GY(I:Inv X pins σ H s){n:Nat}{d1 d2:D}{A:Around}{u1 u2:Value}(h1:Sees X H s d1 u1)(h2:Sees X H s d2 u2)(f1:D.pl n d1=true)(f2:D.pl n d2=true)(hu:A.units+n<cLine):SeqAt.RcNeAt A s u1 u2 (!D.eqb d1 d2):=by
 have hu':A.units<cLine:=by lia
 have nd2:∀ds,d2≠.dct ds:=λds z=>by rw[z]at f2;cases f2
 have nt2:∀ds,d2≠.tdc ds:=λds z=>by rw[z]at f2;cases f2
 cases h1 with
 |dct ds a ps q w=>cases f1
 |tdc ds a ps q w=>cases f1
 |non=>cases h2 with
  |non=>exact SeqAt.RcNeAt.none_none
  |bl b=>exact SeqAt.RcNeAt.none_bool b
  |int b t=>exact SeqAt.RcNeAt.none_int b t
  |str b t=>exact SeqAt.RcNeAt.none_str b t
  |tup ds a xs its q w r p=>exact SeqAt.RcNeAt.none_tuple p hu'
  |lst ds a xs its q w r p=>exact SeqAt.RcNeAt.none_list p.isList hu'
  |dct ds a ps q w=>exact absurd rfl (nd2 ds)
  |tdc ds a ps q w=>exact absurd rfl (nt2 ds)
 |bl x=>cases h2 with
  |non=>exact SeqAt.RcNeAt.bool_none x
  |bl b=>exact SeqAt.RcNeAt.bool_bool x b
  |int b t=>exact SeqAt.RcNeAt.bool_int x b t
  |str b t=>exact SeqAt.RcNeAt.bool_str x b t
  |tup ds a xs its q w r p=>exact SeqAt.RcNeAt.bool_tuple x p hu'
  |lst ds a xs its q w r p=>exact SeqAt.RcNeAt.bool_list x p.isList hu'
  |dct ds a ps q w=>exact absurd rfl (nd2 ds)
  |tdc ds a ps q w=>exact absurd rfl (nt2 ds)
 |int x t'=>cases h2 with
  |non=>exact SeqAt.RcNeAt.int_none x t'
  |bl b=>exact SeqAt.RcNeAt.int_bool x t' b
  |int b t=>exact SeqAt.RcNeAt.int_int x t' b t
  |str b t=>exact SeqAt.RcNeAt.int_str x t' b t
  |tup ds a xs its q w r p=>exact SeqAt.RcNeAt.int_tuple x t' p hu'
  |lst ds a xs its q w r p=>exact SeqAt.RcNeAt.int_list x t' p.isList hu'
  |dct ds a ps q w=>exact absurd rfl (nd2 ds)
  |tdc ds a ps q w=>exact absurd rfl (nt2 ds)
 |str x t'=>cases h2 with
  |non=>exact SeqAt.RcNeAt.str_none x t'
  |bl b=>exact SeqAt.RcNeAt.str_bool x t' b
  |int b t=>exact SeqAt.RcNeAt.str_int x t' b t
  |str b t=>exact SeqAt.RcNeAt.str_str x t' b t
  |tup ds a xs its q w r p=>exact SeqAt.RcNeAt.str_tuple x t' p hu'
  |lst ds a xs its q w r p=>exact SeqAt.RcNeAt.str_list x t' p.isList hu'
  |dct ds a ps q w=>exact absurd rfl (nd2 ds)
  |tdc ds a ps q w=>exact absurd rfl (nt2 ds)
 |tup ds1 a1 xs1 its1 q1 w1 r1 p1=>cases h2 with
  |non=>exact SeqAt.RcNeAt.tuple_none p1 hu'
  |bl b=>exact SeqAt.RcNeAt.tuple_bool b p1 hu'
  |int b t=>exact SeqAt.RcNeAt.tuple_int b t p1 hu'
  |str b t=>exact SeqAt.RcNeAt.tuple_str b t p1 hu'
  |lst ds a xs its q w r p=>exact SeqAt.RcNeAt.tuple_list p1 p.isList hu'
  |dct ds a ps q w=>exact absurd rfl (nd2 ds)
  |tdc ds a ps q w=>exact absurd rfl (nt2 ds)
  |tup ds2 a2 xs2 its2 q2 w2 r2 p2=>
   rw[pL,<-uS,<-fR w1 r1,<-fR w2 r2]
   have z:=SeqAt.RcNeAt.tuples (A:=A) (e:=fQ ds1 ds2) p1 p2 hu' λj j1 j2=>by
    have:=qC I n ds1 ds2 A its1 its2 xs1 xs2 w1 r1 w2 r2 f1 f2 hu j (by simpa using j1) (by simpa using j2)
    simpa using this
   simpa using z
 |lst ds1 a1 xs1 its1 q1 w1 r1 p1=>cases h2 with
  |non=>exact SeqAt.RcNeAt.list_none p1.isList hu'
  |bl b=>exact SeqAt.RcNeAt.list_bool b p1.isList hu'
  |int b t=>exact SeqAt.RcNeAt.list_int b t p1.isList hu'
  |str b t=>exact SeqAt.RcNeAt.list_str b t p1.isList hu'
  |tup ds a xs its q w r p=>exact SeqAt.RcNeAt.list_tuple p1.isList p hu'
  |dct ds a ps q w=>exact absurd rfl (nd2 ds)
  |tdc ds a ps q w=>exact absurd rfl (nt2 ds)
  |lst ds2 a2 xs2 its2 q2 w2 r2 p2=>
   have l1:=fR w1 r1
   have l2:=fR w2 r2
   rw[pM]
   by_cases hl:ds1.length=ds2.length
   ·rw[<-nG ds1 ds2 hl,<-l1]
    have z:=SeqAt.RcNeAt.lists (A:=A) (e:=fQ ds1 ds2) p1.isList p2.isList (by simp only[bG];lia) hu' λj j1 j2=>by
     have:=qC I n ds1 ds2 A its1 its2 xs1 xs2 w1 r1 w2 r2 f1 f2 hu j (by simpa using j1) (by simpa using j2)
     simpa using this
    simpa using z
   ·rw[nH ds1 ds2 hl]
    exact SeqAt.RcNeAt.lists_lengths p1.isList p2.isList (by simp only[bG,bne_iff_ne,ne_eq];lia) hu'
end
section
variable{X:Cx}
theorem fS:big=sizeLine:=by rw[sizeLine_eq];rfl
theorem GZ:OpR X (binaryOp .Add) (λx y H Q=>∃l b xs zs,x=.ref l/\y=.ref b/\SqL X.K H l xs/\SqL X.K H b zs/\xs.length+zs.length<=sizeLine/\∀p,H p=none->Q (.ref p) (upd H p (.lst (xs++zs)))):=by
 intro pins s σ H x y v u Q I rx ry h
 obtain⟨l,b,xs,zs,rfl,rfl,hH,hB,hz,q⟩:=h
 cases rx
 cases ry
 obtain⟨its,r,pl,z⟩:=I.list hH
 obtain⟨its2,r2,pl2,z2⟩:=I.list hB
 have hl:=r.length
 have hl2:=r2.length
 obtain⟨⟨cls,dd,data,sl⟩,ho,hc,n,hd⟩:=pl.isList
 obtain⟨⟨cls2,dd2,data2,sl2⟩,ho2,hc2,n2,hd2⟩:=pl2.isList
 simp only at hc hd hc2 hd2
 subst hc hd hc2 hd2
 have ea:its.toArray++its2.toArray=(its++its2).toArray:=by simp
 refine concat_meets ⟨_,ho,rfl⟩ ⟨_,ho2,rfl⟩ noFill_list_add seq_list_add PySem.F.slot_list_add PySem.F.entry_list_add (PySem.F.args_list_add_2 _ _) (list_addW l b its.toArray its2.toArray n n2 dd dd2 sl sl2 (by simp only[bG];lia)) ⟨ho,ho2,?_⟩
 rw[ea]
 exact⟨.ref _,_,I.lnew (t':=s.toks) (r.append r2) (by rw[cD];lia),rfl,q _ I.fresh⟩
theorem G0:OpR X (binaryOp .Add) (λx y H Q=>∃a b xs ys,x=.ref a/\y=.ref b/\SqT X.K H a xs/\SqT X.K H b ys/\xs.length+ys.length<=sizeLine /\
 (xs=[]->Q (.ref b) H)/\(ys=[]->Q (.ref a) H)/\∀p,H p=none->Q (.ref p) (upd H p (.tup (xs++ys)))):=by
 intro pins s σ H x y v u Q I rx ry h
 obtain⟨a,b,xs,ys,rfl,rfl,ha,hb,hz,q0,q1,q2⟩:=h
 by_cases hx:xs=[]
 ·cases rx
  cases ry
  obtain⟨its,r1,p1,_⟩:=I.tuple ha
  obtain⟨its2,r2,p2,_⟩:=I.tuple hb
  obtain⟨⟨cls,dd,data,sl⟩,ho,hc,n,hd⟩:=id p1
  obtain⟨⟨cls2,dd2,data2,sl2⟩,ho2,hc2,n2,hd2⟩:=id p2
  simp only at hc hd hc2 hd2
  subst hc hd hc2 hd2
  have hv:its=[]:=r1.nil_iff.mpr hx
  exact concat_meets ⟨_,ho,rfl⟩ ⟨_,ho2,rfl⟩ noFill_tuple_add seq_tuple_add PySem.F.slot_tuple_add PySem.F.entry_tuple_add (PySem.F.args_tuple_add_2 _ _)
   (tuple_addW0 a b its.toArray its2.toArray n n2 dd dd2 sl sl2 (by simp[hv])) ⟨ho,ho2,⟨.ref b,H,I,rfl,q0 hx⟩⟩
 ·exact FU pins s σ H _ _ v u Q I rx ry ⟨a,b,xs,ys,rfl,rfl,ha,hb,hx,hz,q1,λ_=>q2⟩
end
section
variable{X:Cx}
noncomputable def iU(X:Cx):Prop:=X.A.units+64<cLine
theorem RDs.rep{K:PySem.W.Frag}{H:Hp}{O:Addr->Prop}{ds:List D}{vs:List V}(h:RDs K H O ds vs):∀n:Nat,RDs K H O (aU n ds).flatten (aU n vs).flatten
 |0=>rfl
 |n+1=>by
  rw[mC,mC,oT,oT]
  exact RDs.append h (RDs.rep h n)
theorem G1(o:Operator)(fr:Bool)(hfr:fr=true->o=.Add):OpR X (binaryOp o) (rD2 X.K (D.bin o) fr):=by
 intro pins s σ H x y v u Q I rx ry h
 obtain⟨O,d1,d2,d,r1,r2,ev,tr,k⟩:=h
 have kk:∀w,d.still=true->RD X.K H O d w->Q w H:=λw n r=>k w H (Same.refl H) r λ_=>NewL.still n
 unfold D.bin at ev
 split at ev
 ·cases ev
  cases (show x=_ from r1.rd rfl)
  cases (show y=_ from r2.rd rfl)
  exact op_add pins s σ H _ _ v u Q I rx ry ⟨_,_,rfl,rfl,kk _ rfl rfl⟩
 ·obtain⟨c,ev⟩:=aZ ev
  cases ev
  cases (show x=_ from r1.rd rfl)
  cases (show y=_ from r2.rd rfl)
  exact FM pins s σ H _ _ v u Q I rx ry ⟨_,_,rfl,rfl,by rw[<-fS];exact of_decide_eq_true c,kk _ rfl rfl⟩
 ·obtain⟨c,ev⟩:=aZ ev
  cases ev
  obtain⟨a1,xs1,rfl,q1,w1⟩:=r1.lst
  obtain⟨a2,xs2,rfl,q2,w2⟩:=r2.lst
  refine GZ pins s σ H _ _ v u Q I rx ry ⟨a1,a2,xs1,xs2,rfl,rfl,q1,q2,by rw[<-fS,w1.length,w2.length];exact of_decide_eq_true c,λp hp=>?_⟩
  have z:=jN (w1.append w2) hp tr
  exact k _ _ (cG hp _) z.1 λ_=>z.2
 ·obtain⟨c,ev⟩:=aZ ev
  cases ev
  obtain⟨a1,xs1,rfl,q1,w1⟩:=r1.tupV
  obtain⟨a2,xs2,rfl,q2,w2⟩:=r2.tupV
  refine G0 pins s σ H _ _ v u Q I rx ry ⟨a1,a2,xs1,xs2,rfl,rfl,q1.sq,q2.sq,by rw[<-fS,w1.length,w2.length];exact of_decide_eq_true c,λz=>?_,λz=>?_,λp hp=>?_⟩
  ·subst z
   have e:=w1.length
   have e':_=[]:=Ec e.symm
   subst e'
   exact kk _ rfl ⟨a2,xs2,rfl,q2,by simpa using w2⟩
  ·subst z
   have e:=w2.length
   have e':_=[]:=Ec e.symm
   subst e'
   exact kk _ rfl ⟨a1,xs1,rfl,q1,by simpa using w1⟩
  ·have z:=nK (w1.append w2) hp
   exact k _ _ (cG hp _) z λ_=>NewL.still rfl
 ·cases ev
  cases (show x=_ from r1.rd rfl)
  cases (show y=_ from r2.rd rfl)
  exact op_sub pins s σ H _ _ v u Q I rx ry ⟨_,_,rfl,rfl,kk _ rfl rfl⟩
 ·obtain⟨c,ev⟩:=aZ ev
  cases ev
  cases (show x=_ from r1.rd rfl)
  cases (show y=_ from r2.rd rfl)
  refine op_mul pins s σ H _ _ v u Q I rx ry ⟨_,_,rfl,rfl,?_,kk _ rfl rfl⟩
  simp only[dN,fL,aF,decide_eq_true_eq]at c
  exact c
 ·rename_i aa jj
  obtain⟨c,ev⟩:=aZ ev
  cases ev
  simp only[aF,decide_eq_true_eq]at c
  obtain⟨a1,xs1,rfl,q1,w1⟩:=r1.lst
  cases (show y=_ from r2.rd rfl)
  cases rx
  obtain⟨t,rfl⟩:=ry
  obtain⟨its,r,⟨⟨cls0,dd0,dat0,sl0⟩,n0,pl,pc,_,pd⟩,hz⟩:=I.list q1
  dsimp only at pc pd
  subst pc pd
  have hl1:its.length=1:=by rw[<-r.length,w1.length];exact c.1.1
  refine GQ pl hl1 ⟨c.1.2,c.2⟩ ?_
  have hp:=I.hok.fresh (aS s.heap.objs.size)
  have hlen:(aU jj.toNat xs1).flatten.length<=sizeLine:=by
   rw[Fb,w1.length,c.1.1,sizeLine_eq]
   have:=c.2
   lia
  refine⟨.ref s.heap.objs.size,_,I.laid (o:=.lst (aU jj.toNat xs1).flatten) (t':=s.toks) (λb u e=>Heap.get?_push_of_some _ e) (aS _) ⟨hlen,_,0,r.rep _,Heap.get?_push_size _ rfl⟩,rfl,?_⟩
  have z:=jN (w1.rep jj.toNat) hp tr
  exact k _ _ (cG hp _) z.1 λ_=>z.2
 ·obtain⟨c,ev⟩:=aZ ev
  cases ev
  cases (show x=_ from r1.rd rfl)
  cases (show y=_ from r2.rd rfl)
  refine FF pins s σ H _ _ v u Q I rx ry ⟨_,_,rfl,rfl,?_,kk _ rfl rfl⟩
  simp only[aF,decide_eq_true_eq]at c
  exact c
 ·obtain⟨c,ev⟩:=aZ ev
  cases ev
  cases (show x=_ from r1.rd rfl)
  cases (show y=_ from r2.rd rfl)
  exact op_mod pins s σ H _ _ v u Q I rx ry ⟨_,_,rfl,rfl,of_decide_eq_true c,kk _ rfl rfl⟩
 ·obtain⟨c,ev⟩:=aZ ev
  cases ev
  cases (show x=_ from r1.rd rfl)
  cases (show y=_ from r2.rd rfl)
  refine op_pow pins s σ H _ _ v u Q I rx ry ⟨_,_,rfl,rfl,?_,kk _ rfl rfl⟩
  simp only[aF,decide_eq_true_eq]at c
  exact⟨c.1.1,c.1.2,c.2⟩
 ·cases ev
theorem qD{K:PySem.W.Frag}{H:Hp}{O:Addr->Prop}{k:Key}:∀{ds:List (Sum Int Str×D)} {ps:List (Key×V)},RDk K H O ds ps->(∀d,bE ds k=some d->∃v,eR ps k=some v/\RD K H O d v)/\(bE ds k).isSome=(eR ps k).isSome
 |[],ps,h=>by
  rw[RDk]at h;subst h
  exact⟨λd e=>(by cases e),rfl⟩
 |(k',d')::ds,ps,h=>by
  obtain⟨v,r,rfl,h1,h2⟩:=h
  have ih:=qD (k:=k) h2
  by_cases e:k'=k
  ·subst e
   have e1:bE ((k',d')::ds) k'=some d':=by simp[bE,cH]
   rw[e1,mQ (p:=(k',v)) rfl]
   exact⟨λd z=>(by cases z;exact⟨v,rfl,h1⟩),rfl⟩
  ·have e1:bE ((k',d')::ds) k=bE ds k:=by simp[bE,cH,e]
   rw[e1,mR (p:=(k',v)) e]
   exact ih
theorem BS{K:PySem.W.Frag}{H:Hp}{O:Addr->Prop}{k:Key}{d:D}{v:V}(hv:RD K H O d v){ds:List (Sum Int Str×D)}{ps:List (Key×V)}(h:RDk K H O ds ps):RDk K H O (dG ds k d) (dF ps k v):=by
 have any:∀{ds:List (Sum Int Str×D)} {ps:List (Key×V)},RDk K H O ds ps->(ds.any λkv=>decide (kv.1=k))=(ps.any λkv=>decide (kv.1=k)):=by
  intro ds
  induction ds with
  |nil=>intro ps h;rw[RDk]at h;subst h;rfl
  |cons p ds ih=>
   intro ps h
   obtain⟨k',d'⟩:=p
   obtain⟨v',r,rfl,h1,h2⟩:=h
   rw[kA,kA,ih h2]
 have mp:∀{ds:List (Sum Int Str×D)} {ps:List (Key×V)},RDk K H O ds ps->RDk K H O (ds.map (λkv=>if kv.1=k then(kv.1,d)else kv)) (ps.map (λkv=>if kv.1=k then(kv.1,v)else kv)):=by
  intro ds
  induction ds with
  |nil=>intro ps h;rw[RDk]at h;subst h;exact rfl
  |cons p ds ih=>
   intro ps h
   obtain⟨k',d'⟩:=p
   obtain⟨v',r,rfl,h1,h2⟩:=h
   rw[aK,aK]
   by_cases e:k'=k
   ·rw[if_pos e,if_pos e];exact⟨v,_,rfl,hv,ih h2⟩
   ·rw[if_neg e,if_neg e];exact⟨v',_,rfl,h1,ih h2⟩
 have ap:∀{ds:List (Sum Int Str×D)} {ps:List (Key×V)},RDk K H O ds ps->RDk K H O (ds++[(k,d)]) (ps++[(k,v)]):=by
  intro ds
  induction ds with
  |nil=>intro ps h;rw[RDk]at h;subst h;exact⟨v,[],rfl,hv,rfl⟩
  |cons p ds ih=>
   intro ps h
   obtain⟨k',d'⟩:=p
   obtain⟨v',r,rfl,h1,h2⟩:=h
   exact⟨v',_,rfl,h1,ih h2⟩
 unfold dG dF
 rw[any h]
 split
 ·exact mp h
 ·exact ap h
theorem qE{K:PySem.W.Frag}{H:Hp}{O:Addr->Prop}{k:List Key}:∀{ds:List (List (Sum Int Str)×D)} {ps:List (List Key×V)},RDt K H O ds ps->(∀d,iO ds k=some d->∃v,eR ps k=some v/\RD K H O d v)/\(iO ds k).isSome=(eR ps k).isSome
 |[],ps,h=>by
  rw[RDt]at h;subst h
  exact⟨λd e=>(by cases e),rfl⟩
 |(k',d')::ds,ps,h=>by
  obtain⟨v,r,rfl,h1,h2⟩:=h
  have ih:=qE (k:=k) h2
  by_cases e:k'=k
  ·subst e
   have e1:iO ((k',d')::ds) k'=some d':=by simp[iO,cH]
   rw[e1,mQ (p:=(k',v)) rfl]
   exact⟨λd z=>(by cases z;exact⟨v,rfl,h1⟩),rfl⟩
  ·have e1:iO ((k',d')::ds) k=iO ds k:=by simp[iO,cH,e]
   rw[e1,mR (p:=(k',v)) e]
   exact ih
theorem lI{K:PySem.W.Frag}{H:Hp}{O:Addr->Prop}{d:D}{v:V}{k:Key}(h:dA d=some k)(r:RR K H O d v):v=kV k:=by
 cases d with
 |int i=>cases h;exact r.rd rfl
 |str i=>cases h;exact r.rd rfl
 |non=>cases h
 |bl _=>cases h
 |tup _=>cases h
 |lst _=>cases h
 |dct _=>cases h
 |tdc _=>cases h
theorem BU:∀{ds:List D} {ks:List Key},kG ds=some ks->lE ds=some ks/\∀k∈ks,∃i,k=.inl i
 |[],ks,h=>by cases h;exact⟨rfl,λk hk=>by cases hk⟩
 |.int i::r,ks,h=>by
  rw[kG]at h
  cases e:kG r with
  |none=>rw[e]at h;cases h
  |some q=>
   rw[e]at h
   cases h
   obtain⟨h1,h2⟩:=BU e
   refine⟨by rw[lE,h1];rfl,λk hk=>?_⟩
   rcases aV.mp hk with rfl|hk
   ·exact⟨i,rfl⟩
   ·exact h2 k hk
 |.non::_,_,h | .bl _::_,_,h | .str _::_,_,h | .tup _::_,_,h | .lst _::_,_,h | .dct _::_,_,h | .tdc _::_,_,h=>by cases h
theorem BV{K:PySem.W.Frag}{H:Hp}{O:Addr->Prop}:∀{ds:List D} {ks:List Key} {vs:List V},lE ds=some ks->RDs K H O ds vs->vs=ks.map kV
 |[],ks,vs,h,r=>by
  cases h
  rw[RDs]at r;subst r;rfl
 |d::ds,ks,vs,h,r=>by
  obtain⟨v,q,rfl,r1,r2⟩:=r
  rw[lE]at h
  cases e1:dA d with
  |none=>rw[e1]at h;cases h
  |some k=>
   rw[e1]at h
   cases e2:lE ds with
   |none=>rw[e2]at h;cases h
   |some ks'=>
    rw[e2]at h
    cases h
    rw[lI e1 r1.rr,BV e2 r2];rfl
theorem uW{K:PySem.W.Frag}{H:Hp}{O:Addr->Prop}{ds:List D}{ks:List Key}{xs:List V}{b:Addr}(h:kG ds=some ks)(w:RDs K H O ds xs)(q:TupV K H b xs):H b=some (.tup (ks.map kV)):=by
 obtain⟨h1,h2⟩:=BU h
 have e:=BV h1 w
 subst e
 rcases q with q|⟨⟨ss,hne,e⟩,_⟩
 ·exact q
 ·exfalso
  cases ss with
  |nil=>exact hne rfl
  |cons x ss=>
   cases ks with
   |nil=>cases e
   |cons k ks=>
    obtain⟨i,rfl⟩:=h2 k bC
    injection e with e _
    cases e
theorem hZ{α:Type}{o:Option α}{a:α}(h:Res.of o=.ok a):o=some a:=by
 cases o with
 |none=>cases h
 |some b=>cases h;rfl
theorem Sees.inj{H:Hp}{s:Shared}{pins:List (Addr×Obj)}{σ:L2.St}(I:Inv X pins σ H s){d d':D}{w:Value}(h:Sees X H s d w)(h':Sees X H s d' w):d=d':=by
 cases h with
 |non=>cases h';rfl
 |bl b=>cases h';rfl
 |int i t=>cases h';rfl
 |str x t=>cases h';rfl
 |tup ds a xs its q w r p=>
  cases h' with
  |tup ds' _ xs' its' q' w' r' p'=>have:=I.tuple_inj q q';subst this;rw[RDs.inj I w w']
  |lst ds' _ xs' its' q' w' r' p'=>exact(pV I q' q).elim
  |dct ds' _ ps' q' w'=>exact(pX I q' q).elim
  |tdc ds' _ ps' q' w'=>exact(pZ I q' q).elim
 |dct ds a ps q w=>
  cases h' with
  |dct ds' _ ps' q' w'=>have:=qA q q';cases this;rw[RDk.inj I w w']
  |tup ds' _ xs' its' q' w' r' p'=>exact(pX I q q').elim
  |lst ds' _ xs' its' q' w' r' p'=>exact(pW I q q').elim
  |tdc ds' _ ps' q' w'=>have:=qA q q';cases this
 |tdc ds a ps q w=>
  cases h' with
  |tdc ds' _ ps' q' w'=>have:=qA q q';cases this;rw[RDt.inj I w w']
  |tup ds' _ xs' its' q' w' r' p'=>exact(pZ I q q').elim
  |lst ds' _ xs' its' q' w' r' p'=>exact(pY I q q').elim
  |dct ds' _ ps' q' w'=>have:=qA q q';cases this
 |lst ds a xs its q w r p=>
  cases h' with
  |lst ds' _ xs' its' q' w' r' p'=>have:=I.list_inj q q';subst this;rw[RDs.inj I w w']
  |tup ds' _ xs' its' q' w' r' p'=>exact(pV I q q').elim
  |dct ds' _ ps' q' w'=>exact(pW I q' q).elim
  |tdc ds' _ ps' q' w'=>exact(pY I q' q).elim
open Classical in
noncomputable def eB(X:Cx)(H:Hp)(s:Shared)(x:D)(w:Value):Bool:=decide (∃d,Sees X H s d w/\D.eqb d x=true)
theorem BW{H:Hp}{s:Shared}{pins:List (Addr×Obj)}{σ:L2.St}(I:Inv X pins σ H s){d x:D}{w:Value}(sd:Sees X H s d w):eB X H s x w=D.eqb d x:=by
 classical
 unfold eB
 by_cases h:D.eqb d x=true
 ·rw[h];simp only[decide_eq_true_eq];exact⟨d,sd,h⟩
 ·have h':D.eqb d x=false:=by simpa using h
  rw[h']
  simp only[decide_eq_false_iff_not]
  rintro⟨d',sd',h''⟩
  rw[Sees.inj I sd' sd]at h''
  exact h h''
theorem nL{H:Hp}{s:Shared}{pins:List (Addr×Obj)}{σ:L2.St}(I:Inv X pins σ H s){x:D}{ux:Value}{n:Nat}{A:Around}(hx:Sees X H s x ux)(fx:D.pl n x=true)(hu:A.units+n<cLine) :
 ∀{ds:List D} {xs:List V} {us:List Value},RDs X.K H no ds xs->Vals xs us->D.pls (n+1) ds=true->(∀w∈us,SeqAt.EqAt A s w ux (eB X H s x w))/\us.any (eB X H s x)=D.mem x ds
 |[],xs,us,w,r,f=>by
  rw[RDs]at w;subst w;cases r
  exact⟨λw h=>absurd h mH,rfl⟩
 |d::ds,xs,us,w,r,f=>by
  obtain⟨v,ys,rfl,e1,e2⟩:=w
  rw[uB,aF]at f
  cases r with
  |cons a1 r1=>
   have ih:=nL I hx fx hu e2 r1 f.2
   have sd:=nI I e1 a1
   refine⟨λw hw=>?_,?_⟩
   ·rcases aV.mp hw with rfl|hw
    ·rw[BW I sd]
     exact eqAt_D I n d x A w ux sd hx f.1 fx hu
    ·exact ih.1 w hw
   ·rw[kA,D.mem,ih.2,BW I sd]
theorem G2{K:PySem.W.Frag}{H:Hp}{d:D}{x:V}(r:RD K H no d x):decide (x=.non)=D.isNon d:=by
 cases d with
 |non=>cases (show x=.non from r);rfl
 |bl b=>cases (show x=.bl b from r);rfl
 |int b=>cases (show x=.int b from r);rfl
 |str b=>cases (show x=.str b from r);rfl
 |tup ds=>obtain⟨a,xs,rfl,_⟩:=r;rfl
 |lst ds=>obtain⟨a,xs,rfl,_⟩:=r;rfl
 |dct ds=>obtain⟨a,xs,rfl,_⟩:=r;rfl
 |tdc ds=>obtain⟨a,xs,rfl,_⟩:=r;rfl
theorem BX{K:PySem.W.Frag}{H:Hp}{O:Addr->Prop}{d:D}{x:V}(r:RR K H O d x):decide (x=.non)=D.isNon d:=by
 rcases r with r|⟨a,rfl,h⟩
 ·exact G2 (r.weak λ_ z=>z.elim)
 ·cases d<;>first|rfl|exact h.elim
theorem BY(o:CmpOp)(hroom:iU X):OpR X (compareOp o) (rD2 X.K (D.cmp o) false):=by
 intro pins s σ H x y v u Q I rx ry h
 obtain⟨O,d1,d2,d,r1,r2,ev,tr,k⟩:=h
 have hroom':X.A.units+64<cLine:=hroom
 have kk:∀b,d=.bl b->Q (.bl b) H:=λb e=>k _ H (Same.refl H) (by subst e;exact rfl) λz=>by cases z
 have s1:=uT I r1 rx
 have s2:=uT I r2 ry
 unfold D.cmp at ev
 split at ev
 ·obtain⟨c,ev⟩:=aZ ev
  cases ev
  unfold D.eqOk at c
  rw[aF]at c
  exact rcAt_D I s1 s2 c.1 c.2 (by lia) X.prog X.w X.xe _ ⟨.bl _,H,I,rfl,kk _ rfl⟩
 ·obtain⟨c,ev⟩:=aZ ev
  cases ev
  unfold D.eqOk at c
  rw[aF]at c
  exact GY I s1 s2 c.1 c.2 (by lia) X.prog X.w X.xe _ ⟨.bl _,H,I,rfl,kk _ rfl⟩
 ·cases ev
  cases (show x=_ from r1.rd rfl)
  cases (show y=_ from r2.rd rfl)
  exact op_lt pins s σ H _ _ v u Q I rx ry ⟨_,_,rfl,rfl,kk _ rfl⟩
 ·cases ev
  cases (show x=_ from r1.rd rfl)
  cases (show y=_ from r2.rd rfl)
  exact op_le pins s σ H _ _ v u Q I rx ry ⟨_,_,rfl,rfl,kk _ rfl⟩
 ·cases ev
  cases (show x=_ from r1.rd rfl)
  cases (show y=_ from r2.rd rfl)
  exact op_gt pins s σ H _ _ v u Q I rx ry ⟨_,_,rfl,rfl,kk _ rfl⟩
 ·cases ev
  cases (show x=_ from r1.rd rfl)
  cases (show y=_ from r2.rd rfl)
  exact op_ge pins s σ H _ _ v u Q I rx ry ⟨_,_,rfl,rfl,kk _ rfl⟩
 ·cases ev
  cases (show y=_ from r2.rd rfl)
  have e:decide (x=.non)=D.isNon d1:=BX r1
  exact op_isN pins s σ H _ _ v u Q I rx ry ⟨rfl,by rw[e];exact kk _ rfl⟩
 ·cases ev
  cases (show y=_ from r2.rd rfl)
  have e:decide (x=.non)=D.isNon d1:=BX r1
  exact FH pins s σ H _ _ v u Q I rx ry ⟨rfl,by rw[e];exact kk _ rfl⟩
 ·cases ev
  cases (show x=_ from r1.rd rfl)
  cases (show y=_ from r2.rd rfl)
  cases rx
  cases ry
  exact is_bool (lB I (kk _ rfl) rfl)
 ·cases ev
  cases (show x=_ from r1.rd rfl)
  cases (show y=_ from r2.rd rfl)
  cases rx
  cases ry
  exact isnot_bool (lB I (kk _ rfl) rfl)
 ·obtain⟨b,e1,ev⟩:=Res.bind_ok ev
  cases ev
  unfold D.inn at e1
  split at e1
  ·obtain⟨c,e1⟩:=aZ e1
   cases e1
   rw[aF]at c
   cases s2 with
   |lst ds a xs its q w r p=>
    have t:=nL I (n:=29) (A:=X.A.in1) s1 c.2 (by show X.A.units+1+29<cLine;lia) w r c.1
    refine SeqAt.in_listAt (eB X H s d1) p.isList (λw hw=>t.1 w (by simpa using hw)) ⟨.bl _,H,I,rfl,?_⟩
    rw[show its.toArray.any (eB X H s d1)=its.any (eB X H s d1) by simp,t.2]
    exact kk _ rfl
  ·obtain⟨c,e1⟩:=aZ e1
   cases e1
   rw[aF]at c
   cases s2 with
   |tup ds a xs its q w r p=>
    have t:=nL I (n:=29) (A:=X.A.in1) s1 c.2 (by show X.A.units+1+29<cLine;lia) w r c.1
    refine SeqAt.in_tupleAt (eB X H s d1) p (λw hw=>t.1 w (by simpa using hw)) ⟨.bl _,H,I,rfl,?_⟩
    rw[show its.toArray.any (eB X H s d1)=its.any (eB X H s d1) by simp,t.2]
    exact kk _ rfl
  ·obtain⟨key,e2,e1⟩:=Res.bind_ok e1
   cases e1
   obtain⟨a,ps,rfl,q,w⟩:=r2.dct
   cases ry
   have ex:=lI (hZ e2) r1
   subst ex
   refine d_in (by lia) I (.inl ⟨ps,key,q,rfl,rfl⟩) rx λs' I'=>⟨.bl _,H,I',rfl,?_⟩
   rw[<-(qD (k:=key) w).2]
   exact kk _ rfl
  ·split at e1
   ·obtain⟨key,e2,e1⟩:=Res.bind_ok e1
    cases e1
    obtain⟨a,ps,rfl,q,w⟩:=r2.tdc
    cases ry
    obtain⟨b',xs,rfl,tq,w1⟩:=r1.tupV
    refine d_in (by lia) I (.inr ⟨ps,key,b',q,rfl,uW (hZ e2) w1 tq,rfl⟩) rx λs' I'=>⟨.bl _,H,I',rfl,?_⟩
    rw[<-(qE (k:=key) w).2]
    exact kk _ rfl
   ·cases e1
  ·split at e1
   ·cases (show x=_ from r1.rd rfl)
    cases (show y=_ from r2.rd rfl)
    exact FG pins s σ H _ _ v u Q I rx ry ⟨_,_,rfl,rfl,by rw[BD e1];exact kk _ rfl⟩
   ·cases e1
  ·cases e1
 ·obtain⟨b,e1,ev⟩:=Res.bind_ok ev
  cases ev
  unfold D.inn at e1
  split at e1
  ·obtain⟨c,e1⟩:=aZ e1
   cases e1
   rw[aF]at c
   cases s2 with
   |lst ds a xs its q w r p=>
    have t:=nL I (n:=29) (A:=X.A.in1) s1 c.2 (by show X.A.units+1+29<cLine;lia) w r c.1
    refine SeqAt.notIn_listAt (eB X H s d1) p.isList (λw hw=>t.1 w (by simpa using hw)) ⟨.bl _,H,I,rfl,?_⟩
    rw[show its.toArray.any (eB X H s d1)=its.any (eB X H s d1) by simp,t.2]
    exact kk _ rfl
  ·obtain⟨c,e1⟩:=aZ e1
   cases e1
   rw[aF]at c
   cases s2 with
   |tup ds a xs its q w r p=>
    have t:=nL I (n:=29) (A:=X.A.in1) s1 c.2 (by show X.A.units+1+29<cLine;lia) w r c.1
    refine SeqAt.notIn_tupleAt (eB X H s d1) p (λw hw=>t.1 w (by simpa using hw)) ⟨.bl _,H,I,rfl,?_⟩
    rw[show its.toArray.any (eB X H s d1)=its.any (eB X H s d1) by simp,t.2]
    exact kk _ rfl
  ·obtain⟨key,e2,e1⟩:=Res.bind_ok e1
   cases e1
   obtain⟨a,ps,rfl,q,w⟩:=r2.dct
   cases ry
   have ex:=lI (hZ e2) r1
   subst ex
   refine Aa (by lia) I (.inl ⟨ps,key,q,rfl,rfl⟩) rx λs' I'=>⟨.bl _,H,I',rfl,?_⟩
   rw[<-(qD (k:=key) w).2]
   exact kk _ rfl
  ·split at e1
   ·obtain⟨key,e2,e1⟩:=Res.bind_ok e1
    cases e1
    obtain⟨a,ps,rfl,q,w⟩:=r2.tdc
    cases ry
    obtain⟨b',xs,rfl,tq,w1⟩:=r1.tupV
    refine Aa (by lia) I (.inr ⟨ps,key,b',q,rfl,uW (hZ e2) w1 tq,rfl⟩) rx λs' I'=>⟨.bl _,H,I',rfl,?_⟩
    rw[<-(qE (k:=key) w).2]
    exact kk _ rfl
   ·cases e1
  ·split at e1
   ·cases (show x=_ from r1.rd rfl)
    cases (show y=_ from r2.rd rfl)
    exact FI pins s σ H _ _ v u Q I rx ry ⟨_,_,rfl,rfl,by rw[BD e1];exact kk _ rfl⟩
   ·cases e1
  ·cases e1
 ·cases ev
theorem ixN_eq(n:Nat)(i:Int):Tr.ixN n i=L2.ixN n i:=rfl
theorem BZ{K:PySem.W.Frag}{H:Hp}{O:Addr->Prop}{ds:List D}{xs:List V}{i:Int}{d:D}(w:RDs K H O ds xs)(h:Tr.atI ds i=some d):∃v,L2.atI xs i=some v/\RD K H O d v:=by
 unfold Tr.atI at h
 unfold L2.atI
 rw[w.length]
 rw[ixN_eq]at h
 cases e:L2.ixN ds.length i with
 |none=>rw[e]at h;cases h
 |some j=>
  rw[e]at h
  exact w.get h
theorem d_ix{value slice:Expr}{pins:List (Addr×Obj)}{s:Shared}{σ:L2.St}{H:Hp}{a:Addr}{y v0:V}{u:Value}{Q:VK}(I:Inv X pins σ H s)(g:kF H a y (some v0))(ry:RelV y u)(hroom:iU X)(q:Q v0 H)
 (hs:subscripted slice false (.ref a) u=operate [.ref a,u] (getItem (.ref a) u)):wpAny (model X.prog X.w) X.A (subscriptTail value slice (.ref a) u) (EP X pins σ Q) X.xe s:=by
 have hroom':X.A.units+64<cLine:=hroom
 have hT:=Fl I g
 unfold subscriptTail
 refine wpAny_bind ?_
 rw[getitemInPython_of_ne hT.not_modules]
 refine wpAny_bind (wpAny_specialOf hT PySem.F.slot_dict_getitem.lookup ?_)
 have fin:wpAny (model X.prog X.w) X.A (subscripted slice false (.ref a) u) (λr s₃=>wpAny (model X.prog X.w) X.A (letTemporaryGo value (.ref a) r>>=λ_=>pure r) (EP X pins σ Q) X.xe s₃) X.xe s:=by
  rw[hs]
  exact wpAny_operating (Fh (by lia) I g ry λw' s3 I3 rw'=>wpAny_bind (wpAny_letTemporaryGo (wpAny_pure ⟨v0,H,I3,rw',q⟩)))
 first
  |exact wpAny_pure (wpAny_bind fin)
  |exact wpAny_bind (wpAny_pure (wpAny_bind fin))
  |exact wpAny_bind fin
theorem ixr(hroom:iU X):IxR X (rD2 X.K D.ix false):=by
 intro value slice pins s σ H x y v u Q I rx ry h hs
 obtain⟨O,d1,d2,d,r1,r2,ev,tr,k⟩:=h
 have kk:∀w,RD X.K H O d w->Q w H:=λw r=>k w H (Same.refl H) r λz=>by cases z
 unfold D.ix at ev
 split at ev
 ·obtain⟨a1,xs1,rfl,q1,w1⟩:=r1.lst
  cases (show y=_ from r2.rd rfl)
  rename_i ds i
  cases e:Tr.atI ds i with
  |none=>rw[e]at ev;cases ev
  |some d0=>
   rw[e]at ev;cases ev
   obtain⟨w,h1,h2⟩:=BZ w1 e
   exact FW value slice pins s σ H _ _ v u Q I rx ry ⟨a1,xs1,_,w,rfl,rfl,q1,h1,kk w h2⟩ hs
 ·obtain⟨a1,xs1,rfl,q1,w1⟩:=r1.tup
  cases (show y=_ from r2.rd rfl)
  rename_i ds i
  cases e:Tr.atI ds i with
  |none=>rw[e]at ev;cases ev
  |some d0=>
   rw[e]at ev;cases ev
   obtain⟨w,h1,h2⟩:=BZ w1 e
   exact ix_tup value slice pins s σ H _ _ v u Q I rx ry ⟨a1,xs1,_,w,rfl,rfl,q1,h1,kk w h2⟩ hs
 ·rename_i z i
  obtain⟨c,ev⟩:=aZ ev
  cases (show x=.str z from r1.rd rfl)
  cases (show y=.int i from r2.rd rfl)
  cases e:Tr.atI z.cps.toList i with
  |none=>rw[e]at ev;cases ev
  |some c0=>
   rw[e]at ev;cases ev
   exact ix_str value slice pins s σ H _ _ v u Q I rx ry ⟨z,i,c0,rfl,rfl,by rw[<-fS];exact of_decide_eq_true c,e,kk _ rfl⟩ hs
 ·rename_i kvs y0
  obtain⟨key,e2,ev⟩:=Res.bind_ok ev
  obtain⟨a,ps,rfl,q,w⟩:=r1.dct
  cases rx
  have ex:=lI (hZ e2) r2
  subst ex
  have hroom':X.A.units+64<cLine:=hroom
  obtain⟨v0,h1,h2⟩:=(qD (k:=key) w).1 _ (hZ ev)
  have g:kF H a (kV key) (some v0):=.inl ⟨ps,key,q,rfl,h1.symm⟩
  exact d_ix I g ry hroom (kk v0 h2) hs
 ·rename_i kvs ks
  obtain⟨key,e2,ev⟩:=Res.bind_ok ev
  obtain⟨a,ps,rfl,q,w⟩:=r1.tdc
  cases rx
  obtain⟨b',xs,rfl,tq,w1⟩:=r2.tupV
  obtain⟨v0,h1,h2⟩:=(qE (k:=key) w).1 _ (hZ ev)
  have g:kF H a (.ref b') (some v0):=.inr ⟨ps,key,b',q,rfl,uW (hZ e2) w1 tq,h1.symm⟩
  exact d_ix I g ry hroom (kk v0 h2) hs
 ·cases ev
end
noncomputable def bA:Expr->Bool
 |.Starred _ _=>false
 |.Slice _ _ _ _=>false
 |.Set _ _ _=>false
 |_=>true
theorem G3{e:Expr}(h:bA e=true):A1 e:=by
 intro o i
 cases e<;>first|rfl|(cases h)
theorem bH{e:Expr}{es:List Expr}{env:Env}(h:bA e=true):starEach (e::es) env=(false,eval e env)::starEach es env:=by
 cases e<;>first|rfl|(cases h)
theorem iV{pos:Pos}{env:Env}:∀{es:List Expr},es.all bA=true->(backTo pos (starEach es env)).any (·.1)=false
 |[],_=>rfl
 |e::es,h=>by
  rw[pA,aF]at h
  have ih:=iV (pos:=pos) (env:=env) h.2
  rw[bH h.1]
  show(false||(backTo pos (starEach es env)).any (·.1))=false
  rw[ih];rfl
theorem B3{o:CmpOp}{e:Expr}(h:bA e=true):behindInMarks o e=false:=by
 cases e<;>first|rfl|(cases h)
theorem qF{e:Expr}{env:Env}(h:bA e=true):∀x,foldedSetIterable e env x=pure x:=by
 intro x
 cases e<;>first|rfl|(cases h)
section
variable{T:Tab}{cf:Nat->List D->Res D}{X:Cx}{x y z:E}{p q r:Expr}{pos:Pos}{es:List Expr}
theorem se_bin{o:Operator}(ha:SR T cf X x p)(hb:SR T cf X y q):SE T cf X (.bin o x y) (.BinOp p o q pos):=
 uR (f:=D.bin o) (λe=>rfl) (λh1 h2=>pe_op (G1 o _ (by cases o<;>first|(intro _;rfl)|(intro z;cases z))) h1 h2) ha hb
theorem se_cmp{o:CmpOp}(hR:iU X)(hm:bA q=true)(ha:SR T cf X x p)(hb:SR T cf X y q):SE T cf X (.cmp o x y) (.Compare p [o] [q] pos):=
 uR (f:=D.cmp o) (λe=>rfl) (λh1 h2=>FJ (BY o hR) h1 h2 (B3 hm)) ha hb
theorem se_ix(hR:iU X)(hm:bA q=true)(ha:SR T cf X x p)(hb:SR T cf X y q):SE T cf X (.ix x y) (.Subscript p q pos):=
 uR (f:=D.ix) (λe=>rfl) (λh1 h2=>pe_ix (ixr hR) h1 h2 (G3 hm)) ha hb
theorem G4{X:Cx}:SlR X (λx lo hi H Q=>∃a xs,x=.ref a/\SqT X.K H a xs/\(HT.sIx xs.length 0 lo=0/\HT.sIx xs.length xs.length hi=xs.length)/\Q (.ref a) H):=by
 intro pins s σ H x v vl vu lo hi sl Q I rx hs pl pu h
 obtain⟨a,xs,rfl,hx,hw,q⟩:=h
 cases rx
 obtain⟨its,r,ht,hz⟩:=I.tuple hx
 have hlen:its.toArray.size=xs.length:=by rw[bG];exact r.length.symm
 refine⟨"tuple", _,PyProof.Rows.slot_tuple_getitem.lookup,ht.typeIs,?_⟩
 obtain⟨os,hos,hcs,hds⟩:=id hs
 have hTs:s.TypeIs (.ref sl) "slice" := ⟨os,hos,hcs⟩
 have fin:EP X pins σ Q (.ref a) s:=⟨.ref a,H,I,rfl,q⟩
 unfold getItem
 try with_reducible refine wpAny_holding ?_
 first|refine wpAny_bind (wpAny_pure ?_)|skip
 refine wpAny_bind (wpAny_sequenceKey ht.typeIs (by decide) ?_)
 refine wpAny_bind (wpAny_callSpecial?_slot (name:=Str.ofString "__getitem__") ht.typeIs PyProof.Rows.slot_tuple_getitem
  (wpAny_call_entry PyProof.Rows.slot_tuple_getitem ht.typeIs entry_tuple_getitem ?_ (args_tuple_getitem _ _)))
 show wpAny _ _ (Builtin.Tuple.tupleItemsOf (.ref a)>>=_) _ _ s
 refine wpAny_bind (tupleItemsOf_ ht ?_)
 refine wpAny_bind (wpAny_typeOf hTs ?_)
 rw[if_pos (by decide)]
 refine wpAny_bind (HT.sliceApplied_gen hs pl pu ?_)
 have hyes:(((HT.sIx its.toArray.size 0 lo:Nat):Int)==0&&(1:Int)==1&&(HT.sIx its.toArray.size its.toArray.size hi-HT.sIx its.toArray.size 0 lo)==its.toArray.size)=true:=by
  rw[hlen,hw.1,hw.2];simp
 show wpAny _ _ (if(((HT.sIx its.toArray.size 0 lo:Nat):Int)==0&&(1:Int)==1&&(HT.sIx its.toArray.size its.toArray.size hi-HT.sIx its.toArray.size 0 lo)==its.toArray.size)=true then _ else _) _ _ s
 rw[if_pos hyes]
 refine wpAny_bind (m:=Builtin.Tuple.tupleIsExact (.ref a)) ?_
 unfold Builtin.Tuple.tupleIsExact
 refine wpAny_bind (wpAny_typeOf ht.typeIs (wpAny_pure ?_))
 rw[if_pos (by decide)]
 refine wpAny_bind (wpAny_rule ?_)
 first
  |exact wpAny_pure ⟨_,rfl,wpAny_pure fin⟩
  |exact wpAny_bind (wpAny_pure ⟨_,rfl,wpAny_pure fin⟩)
  |exact wpAny_bind (wpAny_pure (wpAny_pure ⟨_,rfl,wpAny_pure fin⟩))
  |trace_state
end
section
variable{T:Tab}{cf:Nat->List D->Res D}{X:Cx}{x y z:E}{p q r:Expr}{pos pos':Pos}{es:List Expr}
theorem B4(n d:Nat)(o:Option Int):Tr.sIx n d o=HT.sIx n d o:=by cases o<;>rfl
theorem slr:SlR X (λv lo hi H Q=>∃O d0 d,RR X.K H O d0 v/\D.sl d0 lo hi=.ok d/\(∀a,O a->∃o,H a=some o)/\∀w H',Same H H'->RD X.K H' O d w->NewL X.K H H' O d w->Q w H'):=by
 intro pins s σ H x v vl vu lo hi sl Q I rx hs pl pu h
 obtain⟨O,d0,d,r0,ev,tr,k⟩:=h
 unfold D.sl at ev
 split at ev
 ·cases ev
  obtain⟨a,xs,rfl,q0,w0⟩:=r0.lst
  refine FZ pins s σ H _ v vl vu _ _ sl Q I rx hs pl pu ⟨a,xs,rfl,q0,λp hp=>?_⟩
  have z:=jN (w0.cut lo hi) hp tr
  exact k _ _ (cG hp _) z.1 z.2
 ·cases ev
  obtain⟨a,xs,rfl,qv,w0⟩:=r0.tupV
  have q0:=qv.sq
  by_cases hw:HT.sIx xs.length 0 lo=0/\HT.sIx xs.length xs.length hi=xs.length
  ·refine G4 pins s σ H _ v vl vu _ _ sl Q I rx hs pl pu ⟨a,xs,rfl,q0,hw,?_⟩
   refine k _ _ (Same.refl H) ⟨a,xs,rfl,qv,?_⟩ (NewL.still rfl)
   unfold Tr.cut
   rw[<-w0.length,B4,B4,hw.1,hw.2,oX,tF,mD (by rw[w0.length];exact aS _)]
   exact w0
  ·refine sl_tup pins s σ H _ v vl vu _ _ sl Q I rx hs pl pu ⟨a,xs,rfl,q0,hw,λp hp=>?_⟩
   exact k _ _ (cG hp _) (nK (w0.cut lo hi) hp) (NewL.still rfl)
 ·obtain⟨c,ev⟩:=aZ ev
  cases ev
  cases (show x=_ from r0.rd rfl)
  exact sl_str pins s σ H _ v vl vu _ _ sl Q I rx hs pl pu ⟨_,rfl,by rw[<-fS];exact of_decide_eq_true c,k _ H (Same.refl H) rfl (NewL.still rfl)⟩
 ·cases ev
noncomputable def SO(T:Tab)(cf:Nat->List D->Res D)(X:Cx)(x:E)(p:Option Expr):Prop:=∀H₀ O₀,PO X p (λσ H Q=>∃O own e d o,Fm X.K H₀ O₀ H O own e σ/\evE T cf x e=.ok d/\d.part=.ok o/\∀H',Same H H'->Q o H')
theorem G5:SO T cf X .omit none:=λH₀ O₀ pins s σ H Q I ⟨O,own,e,d,o,F,ev,ep,k⟩=>by
 rw[Fw]at ev;cases ev;cases ep
 exact FS pins s σ H Q I (k H (Same.refl H))
theorem G6(h:SE T cf X x p):SO T cf X x (some p):=λH₀ O₀ pins s σ H Q I ⟨O,own,e,d,o,F,ev,ep,k⟩=>by
 rw[evalPart_some]
 refine thn (h H₀ O₀ pins s σ H (λv H'=>Same H H'/\RD X.K H' O d v) I ⟨O,own,e,d,F,ev,λv H' s' r _=>⟨s',r⟩⟩) λu s1 ⟨v,H1,I1,r1,s',r⟩=>?_
 unfold D.part at ep
 split at ep
 ·cases ep
  cases (show v=_ from r)
  cases r1
  exact⟨none,H1,I1,.none,k H1 s'⟩
 ·cases ep
  cases (show v=_ from r)
  obtain⟨t,rfl⟩:=r1
  exact⟨_,H1,I1,.int _ t,k H1 s'⟩
 ·cases ep
theorem se_sl{lo hi:Option Expr}(ha:SR T cf X x p)(hl:SO T cf X y lo)(hh:SO T cf X z hi):SE T cf X (.sl x y z) (.Subscript p (.Slice lo hi none pos') pos):=λH₀ O₀=>by
 refine PE.imp (λσ H Q hq=>?_) (FT slr (ha H₀ O₀) (hl H₀ O₀) (hh H₀ O₀))
 obtain⟨O,own,e,d,F,ev,k⟩:=hq
 rw[Am]at ev
 obtain⟨d1,e1,ev⟩:=Res.bind_ok ev
 obtain⟨d2,e2,ev⟩:=Res.bind_ok ev
 obtain⟨o2,e2',ev⟩:=Res.bind_ok ev
 obtain⟨d3,e3,ev⟩:=Res.bind_ok ev
 obtain⟨o3,e3',ev⟩:=Res.bind_ok ev
 refine⟨O,own,e,d1,F,e1,λv1 H1 s1 r1=>⟨O,own,e,d2,o2,F.grow s1,e2,e2',λH2 s2=>⟨O,own,e,d3,o3,(F.grow s1).grow s2,e3,e3',λH3 s3=>?_⟩⟩⟩
 refine⟨O,d1,d,(r1.same s2).same s3,ev,((F.grow s1).grow (s2.trans s3)).trk,λw H' s4 r4 n4=>?_⟩
 exact k w H' ((s1.trans (s2.trans s3)).trans s4) r4 λ_=>n4.back (s1.trans (s2.trans s3))
theorem B5{a:E}{e:Nv}{ds:List D}(h:evA T cf a e=.ok ds):ds.length<=1000:=by
 cases a with
 |anil=>(first|rw[pN]at h|rw[pO]at h);cases h;exact eW _
 |acons a r=>
  (first|rw[pN]at h|rw[pO]at h)
  obtain⟨d1,e1,h⟩:=Res.bind_ok h
  obtain⟨d2,e2,h⟩:=Res.bind_ok h
  obtain⟨c,h⟩:=aZ h
  cases h
  have:=of_decide_eq_true c
  rw[aW];lia
 |_=>exact absurd (show(Res.no:Res (List D))=Res.ok ds from h) (λz=>by cases z)
theorem sav_nil:SAv T cf X .anil []:=λH₀ O₀ pos pins s σ H Q I ⟨O,own,e,ds,F,ev,k⟩=>by
 rw[pN]at ev;cases ev
 exact eG pos pins s σ H Q I (k [] H (Same.refl H) rfl λj d v _ z=>by cases z)
theorem G7(hp:bA p=true)(ha:SE T cf X x p)(hr:SAv T cf X y es):SAv T cf X (.acons x y) (p::es):=λH₀ O₀ pos pins s σ H Q I ⟨O,own,e,ds,F,ev,k⟩=>by
 rw[pO]at ev
 obtain⟨d1,e1,ev⟩:=Res.bind_ok ev
 obtain⟨d2,e2,ev⟩:=Res.bind_ok ev
 obtain⟨c,ev⟩:=aZ ev
 cases ev
 refine cM (ha H₀ O₀) (hr H₀ O₀) (bH hp) pos pins s σ H Q I ⟨O,own,e,d1,F,e1,λv1 H1 s1 r1 n1=>⟨O,own,e,d2,F.grow s1,e2,λvs H2 s2 r2 n2=>?_⟩⟩
 refine k (v1::vs) H2 (s1.trans s2) ⟨v1,vs,rfl,r1.same s2,r2⟩ λj d v hf hd hv=>?_
 cases j with
 |zero=>cases hd;cases hv;exact(n1 hf).same s2
 |succ j=>exact(n2 j d v hf hd hv).back s1
theorem G8:SAr T cf X .anil []:=sav_nil.sr
theorem G9(hp:bA p=true)(ha:SR T cf X x p)(hr:SAr T cf X y es):SAr T cf X (.acons x y) (p::es):=λH₀ O₀ pos pins s σ H Q I ⟨O,own,e,ds,F,ev,k⟩=>by
 rw[pO]at ev
 obtain⟨d1,e1,ev⟩:=Res.bind_ok ev
 obtain⟨d2,e2,ev⟩:=Res.bind_ok ev
 obtain⟨c,ev⟩:=aZ ev
 cases ev
 refine cM (ha H₀ O₀) (hr H₀ O₀) (bH hp) pos pins s σ H Q I ⟨O,own,e,d1,F,e1,λv1 H1 s1 r1=>⟨O,own,e,d2,F.grow s1,e2,λvs H2 s2 r2=>?_⟩⟩
 exact k (v1::vs) H2 (s1.trans s2) ⟨v1,vs,rfl,r1.same s2,r2⟩
theorem B6{n:Nat}(h:n<=1000):n<=sizeLine:=jF (Fg h)
theorem se_tup{k:Nat}(ha:SAv T cf X x es):SE T cf X (.tup x) (.Tuple es k pos):=λH₀ O₀=>by
 refine PE.imp (λσ H Q hq=>?_) (AN (ha H₀ O₀))
 obtain⟨O,own,e,d,F,ev,k⟩:=hq
 rw[xE_tup]at ev
 obtain⟨ds,e1,ev⟩:=Res.bind_ok ev
 cases ev
 refine⟨O,own,e,ds,F,e1,λvs H1 s1 r1 _=>⟨by rw[r1.length];exact B6 (B5 e1),λp hp=>?_⟩⟩
 exact k _ _ (s1.trans (cG hp _)) (nK r1 hp) (λz=>by cases z)
theorem se_lst(ha:SAv T cf X x es):SE T cf X (.lst x) (.List es pos):=λH₀ O₀=>by
 refine PE.imp (λσ H Q hq=>?_) (pe_lst (ha H₀ O₀))
 obtain⟨O,own,e,d,F,ev,k⟩:=hq
 rw[nB]at ev
 obtain⟨ds,e1,ev⟩:=Res.bind_ok ev
 cases ev
 refine⟨O,own,e,ds,F,e1,λvs H1 s1 r1 _=>⟨by rw[r1.length];exact B6 (B5 e1),λp hp=>?_⟩⟩
 have z:=jN r1 hp (F.grow s1).trk
 exact k _ _ (s1.trans (cG hp _)) z.1 λ_=>z.2.back s1
theorem B7{α β:Type}{xs:List α}{ds:List β}(h:xs.length=ds.length):(!ds.isEmpty)=!xs.isEmpty:=by
 cases xs<;>cases ds<;>first|rfl|(simp at h)
theorem nM{K:PySem.W.Frag}{H:Hp}{O:Addr->Prop}{d:D}{v:V}{k:Bool}(r:RR K H O d v)(h:d.truth=.ok k):mO K v H k:=by
 unfold D.truth at h
 split at h
 ·cases h;cases (show v=_ from r.rd rfl);exact(rfl:false=false)
 ·cases h;cases (show v=_ from r.rd rfl);exact(rfl:k=k)
 ·cases h;cases (show v=_ from r.rd rfl);exact rfl
 ·obtain⟨c,h⟩:=aZ h
  cases h;cases (show v=_ from r.rd rfl);exact⟨by rw[<-fS];exact of_decide_eq_true c,rfl⟩
 ·cases h
  obtain⟨a,xs,rfl,q,w⟩:=r.tup
  refine .inr (.inl ⟨xs,q,?_⟩)
  exact B7 w.length
 ·cases h
  obtain⟨a,xs,rfl,q,w⟩:=r.lst
  refine .inl ⟨xs,q,?_⟩
  exact B7 w.length
 ·cases h
 ·cases h
theorem B8(ha:SR T cf X x p)(he:∀whole,isTrue p X.env whole=(do let v<-whole;standAt p.pos;holding [v] (truthy v))):ST T cf X x p:=λH₀ O₀=>
 PT.imp (λσ H Q ⟨O,own,e,d,k,F,ev,et,q⟩=>⟨O,own,e,d,F,ev,λv H' s r=>⟨k,nM r et,q H' s⟩⟩) (AL (ha H₀ O₀) he)
theorem cmp_bl{o:CmpOp}{a b d:D}(h:D.cmp o a b=.ok d):∃k,d=.bl k:=by
 unfold D.cmp at h
 split at h<;>first
  |(obtain⟨_,h⟩:=aZ h;cases h;exact⟨_,rfl⟩)
  |(cases h;exact⟨_,rfl⟩)
  |(obtain⟨_,_,h⟩:=Res.bind_ok h;cases h;exact⟨_,rfl⟩)
  |cases h
theorem st_cmp{o:CmpOp}(hR:iU X)(hm:bA q=true)(ha:SR T cf X x p)(hb:SR T cf X y q):ST T cf X (.cmp o x y) (.Compare p [o] [q] pos):=λH₀ O₀=>by
 refine PT.imp (λσ H Q hq=>?_) (FK (BY o hR) (ha H₀ O₀) (hb H₀ O₀) (B3 hm))
 obtain⟨O,own,e,d,k,F,ev,et,qk⟩:=hq
 rw[xE_cmp]at ev
 obtain⟨d1,e1,ev⟩:=Res.bind_ok ev
 obtain⟨d2,e2,ev⟩:=Res.bind_ok ev
 obtain⟨k',rfl⟩:=cmp_bl ev
 cases et
 refine⟨O,own,e,d1,F,e1,λv1 H1 s1 r1=>⟨O,own,e,d2,F.grow s1,e2,λv2 H2 s2 r2=>?_⟩⟩
 refine⟨O,d1,d2,_,r1.same s2,r2,ev,(F.grow (s1.trans s2)).trk,λv H' s3 r3 _=>?_⟩
 exact⟨k,r3,qk H' ((s1.trans s2).trans s3)⟩
theorem G_{a b:Expr}{rest:List Expr}{ta tb:TE}(ha:PE X a ta)(hb:PE X (.BoolOp .And (b::rest) pos) tb) :
 PE X (.BoolOp .And (a::b::rest) pos) (λσ H Q=>ta σ H λx H1=>∃c,mO X.K x H1 c/\if c=true then tb σ H1 Q else Q x H1):=by
 intro pins s σ H Q I h
 refine BoolOp_and (thn (ha pins s σ H _ I h) λv s1 ⟨x,H1,I1,r1,c,tc,q1⟩=>?_)
 refine thn (pG pins s1 σ H1 x v (λb H2=>b=c/\H2=H1) I1 r1 ⟨c,tc,rfl,rfl⟩) λb s2 ⟨H2,I2,e1,e2⟩=>?_
 subst e1 e2
 cases b with
 |true=>exact hb pins s2 σ H2 Q I2 q1
 |false=>exact⟨x,H2,I2,r1,q1⟩
theorem pe_orV{a b:Expr}{rest:List Expr}{ta tb:TE}(ha:PE X a ta)(hb:PE X (.BoolOp .Or (b::rest) pos) tb) :
 PE X (.BoolOp .Or (a::b::rest) pos) (λσ H Q=>ta σ H λx H1=>∃c,mO X.K x H1 c/\if c=true then Q x H1 else tb σ H1 Q):=by
 intro pins s σ H Q I h
 refine BoolOp_or (thn (ha pins s σ H _ I h) λv s1 ⟨x,H1,I1,r1,c,tc,q1⟩=>?_)
 refine thn (pG pins s1 σ H1 x v (λb H2=>b=c/\H2=H1) I1 r1 ⟨c,tc,rfl,rfl⟩) λb s2 ⟨H2,I2,e1,e2⟩=>?_
 subst e1 e2
 cases b with
 |false=>exact hb pins s2 σ H2 Q I2 q1
 |true=>exact⟨x,H2,I2,r1,q1⟩
theorem B9{rest:List Expr}(ha:SE T cf X x p)(hb:SE T cf X y (.BoolOp .And (q::rest) pos)):SE T cf X (.and x y) (.BoolOp .And (p::q::rest) pos):=λH₀ O₀=>by
 refine PE.imp (λσ H Q hq=>?_) (G_ (ha H₀ O₀) (hb H₀ O₀))
 obtain⟨O,own,e,d,F,ev,k⟩:=hq
 rw[Ah]at ev
 obtain⟨d1,e1,ev⟩:=Res.bind_ok ev
 obtain⟨c,e2,ev⟩:=Res.bind_ok ev
 refine⟨O,own,e,d1,F,e1,λv1 H1 s1 r1 _=>⟨c,nM r1.rr e2,?_⟩⟩
 cases c with
 |true=>
  rw[if_pos rfl]at ev⊢
  exact⟨O,own,e,d,F.grow s1,ev,λv H' s' r _=>k v H' (s1.trans s') r (λz=>by cases z)⟩
 |false=>
  rw[if_neg aO]at ev⊢
  cases ev
  exact k v1 H1 s1 r1 (λz=>by cases z)
theorem B_{rest:List Expr}(ha:SE T cf X x p)(hb:SE T cf X y (.BoolOp .Or (q::rest) pos)):SE T cf X (.or x y) (.BoolOp .Or (p::q::rest) pos):=λH₀ O₀=>by
 refine PE.imp (λσ H Q hq=>?_) (pe_orV (ha H₀ O₀) (hb H₀ O₀))
 obtain⟨O,own,e,d,F,ev,k⟩:=hq
 rw[Ai]at ev
 obtain⟨d1,e1,ev⟩:=Res.bind_ok ev
 obtain⟨c,e2,ev⟩:=Res.bind_ok ev
 refine⟨O,own,e,d1,F,e1,λv1 H1 s1 r1 _=>⟨c,nM r1.rr e2,?_⟩⟩
 cases c with
 |false=>
  rw[if_neg aO]at ev⊢
  exact⟨O,own,e,d,F.grow s1,ev,λv H' s' r _=>k v H' (s1.trans s') r (λz=>by cases z)⟩
 |true=>
  rw[if_pos rfl]at ev⊢
  cases ev
  exact k v1 H1 s1 r1 (λz=>by cases z)
theorem Ba{op:BoolOp}(h:SE T cf X x p):SE T cf X x (.BoolOp op [p] pos):=λH₀ O₀=>pe_one (h H₀ O₀)
theorem Bb(ha:ST T cf X x p)(hv:SR T cf X x p):SE T cf X (.not x) (.UnaryOp .Not p pos):=λH₀ O₀=>by
 intro pins s σ H Q I ⟨O,own,e,d,F,ev,k⟩
 rw[Aj]at ev
 obtain⟨d1,e1,ev⟩:=Res.bind_ok ev
 obtain⟨c,e2,ev⟩:=Res.bind_ok ev
 cases ev
 refine UnaryOp_ (thn (hv H₀ O₀ pins s σ H (λv1 H1=>Same H H1/\RR X.K H1 O d1 v1) I ⟨O,own,e,d1,F,e1,λv1 H1 s1 r1=>⟨s1,r1⟩⟩) λv s1 ⟨x1,H1,I1,r1,s1',rr⟩=>?_)
 refine not_of ?_
 exact thn (pG pins s1 σ H1 x1 v (λb H2=>b=c/\H2=H1) I1 r1 ⟨c,nM rr e2,rfl,rfl⟩) λb s2 ⟨H2,I2,e3,e4⟩=>by
  subst e3 e4
  exact⟨.bl (!b),H2,I2,rfl,k _ H2 s1' rfl (λz=>by cases z)⟩
theorem st_not(ha:ST T cf X x p):ST T cf X (.not x) (.UnaryOp .Not p pos):=λH₀ O₀=>by
 refine PT.imp (λσ H Q hq=>?_) (AF (ha H₀ O₀))
 obtain⟨O,own,e,d,k,F,ev,et,qk⟩:=hq
 rw[Aj]at ev
 obtain⟨d1,e1,ev⟩:=Res.bind_ok ev
 obtain⟨c,e2,ev⟩:=Res.bind_ok ev
 cases ev
 cases et
 exact⟨O,own,e,d1,c,F,e1,e2,λH' s=>qk H' s⟩
noncomputable def SW(T:Tab)(cf:Nat->List D->Res D)(X:Cx)(x:E)(p:Expr):Prop:=∀H₀ O₀,PW X p (tT T cf X.K H₀ O₀ x)
theorem SW.st(h:SW T cf X x p):ST T cf X x p:=λH₀ O₀=>(h H₀ O₀).pt
theorem PW.imp{t t':TT}(h:∀σ H Q,t' σ H Q->t σ H Q)(hp:PW X p t):PW X p t':=λw pins s σ H Q I q=>hp w pins s σ H Q I (h σ H Q q)
theorem Ga(ha:ST T cf X x p):SW T cf X x (.BoolOp .And [p] pos):=λH₀ O₀=>Et (ha H₀ O₀)
theorem sw_or1(ha:ST T cf X x p):SW T cf X x (.BoolOp .Or [p] pos):=λH₀ O₀=>AD (ha H₀ O₀)
theorem Bc{rest:List Expr}(ha:ST T cf X x p)(hb:SW T cf X y (.BoolOp .And (q::rest) pos)):SW T cf X (.and x y) (.BoolOp .And (p::q::rest) pos):=λH₀ O₀=>by
 refine PW.imp (λσ H Q hq=>?_) (pw_and (ha H₀ O₀) (hb H₀ O₀))
 obtain⟨O,own,e,d,k,F,ev,et,qk⟩:=hq
 rw[Ah]at ev
 obtain⟨d1,e1,ev⟩:=Res.bind_ok ev
 obtain⟨c,e2,ev⟩:=Res.bind_ok ev
 refine⟨O,own,e,d1,c,F,e1,e2,λH1 s1=>?_⟩
 cases c with
 |true=>
  rw[if_pos rfl]at ev⊢
  exact⟨O,own,e,d,k,F.grow s1,ev,et,λH' s'=>qk H' (s1.trans s')⟩
 |false=>
  rw[if_neg aO]at ev⊢
  cases ev
  rw[e2]at et;cases et
  exact qk H1 s1
theorem Bd{rest:List Expr}(ha:ST T cf X x p)(hb:SW T cf X y (.BoolOp .Or (q::rest) pos)):SW T cf X (.or x y) (.BoolOp .Or (p::q::rest) pos):=λH₀ O₀=>by
 refine PW.imp (λσ H Q hq=>?_) (AE (ha H₀ O₀) (hb H₀ O₀))
 obtain⟨O,own,e,d,k,F,ev,et,qk⟩:=hq
 rw[Ai]at ev
 obtain⟨d1,e1,ev⟩:=Res.bind_ok ev
 obtain⟨c,e2,ev⟩:=Res.bind_ok ev
 refine⟨O,own,e,d1,c,F,e1,e2,λH1 s1=>?_⟩
 cases c with
 |false=>
  rw[if_neg aO]at ev⊢
  exact⟨O,own,e,d,k,F.grow s1,ev,et,λH' s'=>qk H' (s1.trans s')⟩
 |true=>
  rw[if_pos rfl]at ev⊢
  cases ev
  rw[e2]at et;cases et
  exact qk H1 s1
theorem se_ife(hc:ST T cf X x p)(ha:SE T cf X y q)(hb:SE T cf X z r):SE T cf X (.ife x y z) (.IfExp p q r pos):=λH₀ O₀=>by
 refine PE.imp (λσ H Q hq=>?_) (Eu (hc H₀ O₀) (ha H₀ O₀) (hb H₀ O₀))
 obtain⟨O,own,e,d,F,ev,k⟩:=hq
 rw[Al]at ev
 obtain⟨d1,e1,ev⟩:=Res.bind_ok ev
 obtain⟨c,e2,ev⟩:=Res.bind_ok ev
 refine⟨O,own,e,d1,c,F,e1,e2,λH1 s1=>?_⟩
 cases c with
 |true=>
  rw[if_pos rfl]at ev⊢
  exact⟨O,own,e,d,F.grow s1,ev,λv H' s' r _=>k v H' (s1.trans s') r (λz=>by cases z)⟩
 |false=>
  rw[if_neg aO]at ev⊢
  exact⟨O,own,e,d,F.grow s1,ev,λv H' s' r _=>k v H' (s1.trans s') r (λz=>by cases z)⟩
theorem Gb{c a b:Expr}{tA ta tb:TT}(hc:PT X c tA)(ha:PT X a ta)(hb:PT X b tb):PT X (.IfExp c a b pos) (λσ H Q=>tA σ H λk H1=>if k=true then ta σ H1 Q else tb σ H1 Q):=by
 intro pins s σ H Q I h
 show wpAny _ _ (isTrue c X.env (eval c X.env)>>=λk=>if k=true then isTrue a X.env (eval a X.env)else isTrue b X.env (eval b X.env)) _ _ s
 refine wpAny_bind (thn (hc pins s σ H _ I h) λk s1 ⟨H1,I1,q1⟩=>?_)
 cases k with
 |true=>exact ha pins s1 σ H1 Q I1 q1
 |false=>exact hb pins s1 σ H1 Q I1 q1
theorem st_ife(hc:ST T cf X x p)(ha:ST T cf X y q)(hb:ST T cf X z r):ST T cf X (.ife x y z) (.IfExp p q r pos):=λH₀ O₀=>by
 refine PT.imp (λσ H Q hq=>?_) (Gb (hc H₀ O₀) (ha H₀ O₀) (hb H₀ O₀))
 obtain⟨O,own,e,d,k,F,ev,et,qk⟩:=hq
 rw[Al]at ev
 obtain⟨d1,e1,ev⟩:=Res.bind_ok ev
 obtain⟨c,e2,ev⟩:=Res.bind_ok ev
 refine⟨O,own,e,d1,c,F,e1,e2,λH1 s1=>?_⟩
 cases c with
 |true=>
  rw[if_pos rfl]at ev⊢
  exact⟨O,own,e,d,k,F.grow s1,ev,et,λH' s'=>qk H' (s1.trans s')⟩
 |false=>
  rw[if_neg aO]at ev⊢
  exact⟨O,own,e,d,k,F.grow s1,ev,et,λH' s'=>qk H' (s1.trans s')⟩
theorem se_neg(ha:SR T cf X x p):SE T cf X (.neg x) (.UnaryOp .USub p pos):=λH₀ O₀=>by
 refine PE.imp (λσ H Q hq=>?_) (pe_un un_neg (ha H₀ O₀))
 obtain⟨O,own,e,d,F,ev,k⟩:=hq
 (first|rw[Ag]at ev|rw[Ak]at ev)
 obtain⟨d1,e1,ev⟩:=Res.bind_ok ev
 split at ev
 ·cases ev
  refine⟨O,own,e,_,F,e1,λv1 H1 s1 r1=>⟨_,r1.rd rfl,k _ H1 s1 rfl λz=>by cases z⟩⟩
 ·cases ev
end
section
variable{T:Tab}{cf:Nat->List D->Res D}{X:Cx}{x y z:E}{p q r:Expr}{pos pos':Pos}{es:List Expr}
noncomputable def uX(d:D)(od:Option Addr)(H:Hp):Prop:=match d with
 |.int v=>∃dx,od=some dx/\H dx=some (.xd [("at", .int v)])
 |_=>od=none
noncomputable def spD(K:PySem.W.Frag)(F:List D->Res D)(fr:Bool):Sp:=λvs H Q E=>∃O ds,Trk K H O/\RDs K H O ds vs /\
 ((∃d,F ds=.ok d/\∀v H',Same H H'->RD K H' O d v->(fr=true->NewR K H H' O d v)->Q v H')\/∃c d,F ds=.err c d/\∀od H',Same H H'->uX d od H'->E (cvK K c) od H')
noncomputable def nN(T:Tab)(cf:Nat->List D->Res D)(X:Cx)(f:Nat)(n:Str):Prop:=
 ∃k a fd ps,FnOk X.prog X.w X.K X.mg X.base (CXE X.prog X.w) k a fd ps (spD X.K (cf f) (T.fresh f))/\Room k X.A/\X.mg n=some (.ref a)/\PySem.W.keepIn X.K (.ref a)=true/\Binds X.K fd ps []
theorem Gc{f:Nat}{H₀:Hp}{O₀:Addr->Prop}{σ:L2.St}{H:Hp}{Q:VK}(h:tE T cf X.K H₀ O₀ (.call f x) σ H Q):tW (spD X.K (cf f) (T.fresh f)) [] E0 (tAv T cf X.K H₀ O₀ x) σ H Q:=by
 obtain⟨O,own,e,d,F,ev,k⟩:=h
 rw[An]at ev
 obtain⟨ds,e1,ev⟩:=Res.bind_ok ev
 refine⟨O,own,e,ds,F,e1,λvs H1 s1 r1 _=>?_⟩
 dsimp only
 rw[oS]
 refine⟨O,ds,⟨(F.grow s1).trk,(F.grow s1).tab⟩,r1,.inl ⟨d,ev,λv H' s2 r2 n2=>k v H' (s1.trans s2) r2 λfr=>(n2 fr).1.back s1⟩⟩
theorem Gd {f:Nat} {n:Str} {pn:Pos} (hd:nN T cf X f n) (hg:Gl X n) (hdb:(n==("__debug__" : Str))=false) (hp:(p::es).all bA=true) (ha:SAv T cf X x (p::es)):SE T cf X (.call f x) (.Call (.Name n pn) (p::es) [] pos):=λH₀ O₀=>by
 obtain⟨k,a,fd,ps,Fk,hr,hm,hk,hb⟩:=hd
 rw[pA,aF]at hp
 exact PE.imp (λσ H Q h=>Gc h) (AQ Fk hr hg hm hk hb .nil uP (ha H₀ O₀) hdb (bH hp.1) (iV hp.2))
theorem Ge {f:Nat} {n:Str} {pn:Pos} (hd:nN T cf X f n) (hg:Gl X n) (hdb:(n==("__debug__" : Str))=false):SE T cf X (.call f .anil) (.Call (.Name n pn) [] [] pos):=λH₀ O₀=>by
 obtain⟨k,a,fd,ps,Fk,hr,hm,hk,hb⟩:=hd
 refine PE.imp (λσ H Q h=>?_) (FN Fk hr hg hm hk hb .nil uP hdb)
 obtain⟨O,own,e,d,F,ev,k⟩:=h
 rw[An]at ev
 obtain⟨ds,e1,ev⟩:=Res.bind_ok ev
 rw[pN]at e1;cases e1
 exact⟨O,[],⟨F.trk,F.tab⟩,rfl,.inl ⟨d,ev,λv H' s2 r2 n2=>k v H' s2 r2 λfr=>(n2 fr).1⟩⟩
noncomputable def TabF(T:Tab)(cf:Nat->List D->Res D)(X:Cx)(n:Str)(fs:List Nat):Prop:=
 ∃(a:Addr)(xs:List V),X.mg n=some (.ref a)/\(∀H,SqT X.K H a xs)/\xs.length=fs.length/\∀(j f:Nat),fs[j]?=some f->∃(ad:Addr)(m:Str),xs[j]?=some (V.ref ad)/\X.mg m=some (.ref ad)/\nN T cf X f m
noncomputable def TabS(X:Cx)(n:Str)(ss:List Str):Prop:=∃a,X.mg n=some (.ref a)/\ModS X.K a ss
theorem qG{K:PySem.W.Frag}{H:Hp}{O:Addr->Prop}:∀{ds:List D} {ns:List Int} {xs:List V},cN ds=.ok ns->RDs K H O ds xs->xs=ns.map V.int
 |[],ns,xs,h,w=>by
  rw[cN]at h;cases h
  rw[RDs]at w;subst w;rfl
 |.int i::r,ns,xs,h,w=>by
  rw[cN]at h
  obtain⟨q,h1,h⟩:=Res.bind_ok h
  cases h
  obtain⟨v,ys,rfl,e1,e2⟩:=w
  cases (show v=_ from e1)
  rw[qG h1 e2];rfl
 |.non::_,_,_,h,_ | .bl _::_,_,_,h,_ | .str _::_,_,_,h,_ | .tup _::_,_,_,h,_ | .lst _::_,_,_,h,_ | .dct _::_,_,_,h,_ | .tdc _::_,_,_,h,_=>by
  rw[cN]at h<;>first|cases h|(intros;rename_i z;cases z)
noncomputable def rB(K:PySem.W.Frag)(f:List D->Res D)(fr:Bool):List V->Hp->VK->Prop:=λvs H Q=>∃O ds d,RRs K H O ds vs/\f ds=.ok d/\(∀a,O a->∃o,H a=some o)/\∀v H',Same H H'->RD K H' O d v->(fr=true->NewL K H H' O d v)->Q v H'
theorem rr1{K:PySem.W.Frag}{H:Hp}{O:Addr->Prop}{d:D}{vs:List V}(h:RRs K H O [d] vs):∃v,vs=[v]/\RR K H O d v:=by
 obtain⟨v,r,rfl,h1,h2⟩:=h
 rw[RRs]at h2;subst h2
 exact⟨v,rfl,h1⟩
theorem Gf (hh:X.calm=true):cZ X (.builtin "sum") (λxs H Q=>∃(a:Addr) (ns:List Int),xs=[.ref a]/\SqL X.K H a (ns.map V.int)/\Q (.int ns.sum) H):=by
 intro pins s σ H xs us Q I r h
 obtain⟨a,ns,rfl,hq,q⟩:=h
 obtain⟨u,rfl,rx⟩:=gH r
 cases rx
 obtain⟨its,r',pl,hz⟩:=I.list hq
 have hi:IntsAre its ns:=intsAre_of r'
 have hall:=hi.allInts
 obtain⟨ys,hys⟩:=hall.items
 have hn:(numsOf its.toArray.toList)=ns:=by rw[show its.toArray.toList=its by simp];exact hi.numsOf
 refine sum_intListG (xs:=ys) (I.ok.hd hh) (by rw[<-hys];exact pl.isList) λh' tk t' hk=>?_
 refine⟨.int ns.sum,H,I.kept (t':=tk) hk,⟨t',?_⟩,q⟩
 rw[hys,nums_intItems]at hn
 rw[preSum_eq,mD (by simp),<-hn]
noncomputable def Bt.val:Bt->Value
 |.len=>.builtin "len"
 |.sum=>.builtin "sum"
 |.tuple=>.type "tuple"
 |.list=>.type "list"
 |.int=>.type "int"
 |.str=>.type "str"
 |.bool=>.type "bool"
 |.abs=>.builtin "abs"
 |.min=>.builtin "min"
 |.max=>.builtin "max"
 |.all=>.builtin "all"
 |.any=>.builtin "any"
noncomputable def Bt.nm:Bt->Str
 |.len => "len"
 |.sum => "sum"
 |.tuple => "tuple"
 |.list => "list"
 |.int => "int"
 |.str => "str"
 |.bool => "bool"
 |.abs => "abs"
 |.min => "min"
 |.max => "max"
 |.all => "all"
 |.any => "any"
theorem nQ{b:Bt}{ds:List D}{d:D}(h:b.run ds=.ok d)(hb:∀d1 d2,b.two d1 d2=.no):∃d0,ds=[d0]/\b.one d0=.ok d:=by
 unfold Bt.run at h
 split at h
 ·exact⟨_,rfl,h⟩
 ·rw[hb]at h;cases h
 ·cases h
theorem bt_len:cZ X (.builtin "len") (rB X.K (Bt.run .len) false):=by
 intro pins s σ H xs us Q I rv h
 obtain⟨O,ds,d,rr,ev,tr,k⟩:=h
 obtain⟨d0,rfl,ev⟩:=nQ ev (λ_ _=>rfl)
 obtain⟨v,rfl,r1⟩:=rr1 rr
 have ev:D.len d0=.ok d:=ev
 unfold D.len at ev
 split at ev
 ·cases ev
  obtain⟨a,ys,rfl,q1,w1⟩:=r1.lst
  exact tY pins s σ H _ us Q I rv ⟨a,ys,rfl,.inl q1,k _ H (Same.refl H) (by rw[w1.length];exact rfl) (λz=>by cases z)⟩
 ·cases ev
  obtain⟨a,ys,rfl,q1,w1⟩:=r1.tup
  exact tY pins s σ H _ us Q I rv ⟨a,ys,rfl,.inr q1,k _ H (Same.refl H) (by rw[w1.length];exact rfl) (λz=>by cases z)⟩
 ·obtain⟨c,ev⟩:=aZ ev
  cases ev
  cases (show v=_ from r1.rd rfl)
  exact F0 pins s σ H _ us Q I rv ⟨_,rfl,by rw[<-fS];exact of_decide_eq_true c,k _ H (Same.refl H) rfl (λz=>by cases z)⟩
 ·cases ev
  obtain⟨a,ps,rfl,q1,w1⟩:=r1.dct
  obtain⟨u,rfl,ru⟩:=gH rv
  cases ru
  exact d_len I q1 λt s' I'=>⟨.int _,H,I',⟨t,rfl⟩,k _ H (Same.refl H) (by rw[w1.length];exact rfl) (λz=>by cases z)⟩
 ·cases ev
theorem bt_sum (hh:X.calm=true):cZ X (.builtin "sum") (rB X.K (Bt.run .sum) false):=by
 intro pins s σ H xs us Q I rv h
 obtain⟨O,ds,d,rr,ev,tr,k⟩:=h
 obtain⟨d0,rfl,ev⟩:=nQ ev (λ_ _=>rfl)
 obtain⟨v,rfl,r1⟩:=rr1 rr
 have ev:D.sum d0=.ok d:=ev
 unfold D.sum at ev
 split at ev
 ·obtain⟨ns,e1,ev⟩:=Res.bind_ok ev
  cases ev
  obtain⟨a,ys,rfl,q1,w1⟩:=r1.lst
  have e:=qG e1 w1
  subst e
  exact Gf hh pins s σ H _ us Q I rv ⟨a,ns,rfl,q1,k _ H (Same.refl H) rfl (λz=>by cases z)⟩
 ·cases ev
theorem Gg:cZ X (.type "tuple") (rB X.K (Bt.run .tuple) false):=by
 intro pins s σ H xs us Q I rv h
 obtain⟨O,ds,d,rr,ev,tr,k⟩:=h
 obtain⟨d0,rfl,ev⟩:=nQ ev (λ_ _=>rfl)
 obtain⟨v,rfl,r1⟩:=rr1 rr
 have ev:D.tuple d0=.ok d:=ev
 unfold D.tuple at ev
 split at ev
 ·cases ev
  obtain⟨a,ys,rfl,q1,w1⟩:=r1.lst
  exact A3 pins s σ H _ us Q I rv ⟨a,ys,rfl,.inl ⟨q1,λl hl=>k _ _ (cG hl _) (nK w1 hl) (λz=>by cases z)⟩⟩
 ·cases ev
  obtain⟨a,ys,rfl,q1,w1⟩:=r1.tupV
  exact A3 pins s σ H _ us Q I rv ⟨a,ys,rfl,.inr ⟨q1.sq,k _ H (Same.refl H) ⟨a,ys,rfl,q1,w1⟩ (λz=>by cases z)⟩⟩
 ·cases ev
theorem Gh:cZ X (.type "list") (rB X.K (Bt.run .list) true):=by
 intro pins s σ H xs us Q I rv h
 obtain⟨O,ds,d,rr,ev,tr,k⟩:=h
 obtain⟨d0,rfl,ev⟩:=nQ ev (λ_ _=>rfl)
 obtain⟨v,rfl,r1⟩:=rr1 rr
 have ev:D.list d0=.ok d:=ev
 unfold D.list at ev
 split at ev
 ·cases ev
  obtain⟨a,ys,rfl,q1,w1⟩:=r1.lst
  refine A2 pins s σ H _ us Q I rv ⟨a,ys,rfl,.inl q1,λl hl=>?_⟩
  have z:=jN w1 hl tr
  exact k _ _ (cG hl _) z.1 (λ_=>z.2)
 ·cases ev
  obtain⟨a,ys,rfl,q1,w1⟩:=r1.tup
  refine A2 pins s σ H _ us Q I rv ⟨a,ys,rfl,.inr q1,λl hl=>?_⟩
  have z:=jN w1 hl tr
  exact k _ _ (cG hl _) z.1 (λ_=>z.2)
 ·cases ev
theorem bt_int:cZ X (.type "int") (rB X.K (Bt.run .int) false):=by
 intro pins s σ H xs us Q I rv h
 obtain⟨O,ds,d,rr,ev,tr,k⟩:=h
 obtain⟨d0,rfl,ev⟩:=nQ ev (λ_ _=>rfl)
 obtain⟨v,rfl,r1⟩:=rr1 rr
 have ev:D.toInt d0=.ok d:=ev
 unfold D.toInt at ev
 split at ev
 ·cases ev
  cases (show v=_ from r1.rd rfl)
  exact AM pins s σ H _ us Q I rv (.inl ⟨_,rfl,k _ H (Same.refl H) rfl (λz=>by cases z)⟩)
 ·cases ev
  cases (show v=_ from r1.rd rfl)
  exact AM pins s σ H _ us Q I rv (.inr ⟨_,rfl,k _ H (Same.refl H) rfl (λz=>by cases z)⟩)
 ·obtain⟨c,ev⟩:=aZ ev
  cases ev
  rw[aF,decide_eq_true_eq]at c
  cases (show v=_ from r1.rd rfl)
  exact GI pins s σ H _ us Q I rv ⟨_,rfl,c.1,c.2,k _ H (Same.refl H) rfl (λz=>by cases z)⟩
 ·cases ev
theorem tcb_of{b:Bt}{H₀:Hp}{O₀:Addr->Prop}{σ:L2.St}{H:Hp}{Q:VK}(h:tE T cf X.K H₀ O₀ (.bt b x) σ H Q):tCB (rB X.K (Bt.run b) (bJ T (.bt b x))) (tAr T cf X.K H₀ O₀ x) σ H Q:=by
 obtain⟨O,own,e,d,F,ev,k⟩:=h
 rw[xE_bt]at ev
 obtain⟨ds,e1,ev⟩:=Res.bind_ok ev
 refine⟨O,own,e,ds,F,e1,λvs H1 s1 r1=>?_⟩
 refine⟨O,ds,d,r1,ev,(F.grow s1).trk,λv H' s2 r2 n2=>k v H' (s1.trans s2) r2 λfr=>(n2 fr).back s1⟩
noncomputable def Bt.use:Bt->Bool
 |.str=>false
 |.bool=>false
 |.abs=>false
 |.min=>false
 |.max=>false
 |.all=>false
 |.any=>false
 |_=>true
theorem se_bt{b:Bt}{n:Str}{pn:Pos}(hu:b.use=true)(hh:X.calm=true)(hn:n=b.nm)(hm:X.mg b.nm=none)(hg:Gl X n)(hp:(p::es).all bA=true)(ha:SAr T cf X x (p::es)):SE T cf X (.bt b x) (.Call (.Name n pn) (p::es) [] pos):=λH₀ O₀=>by
 subst hn
 rw[pA,aF]at hp
 refine PE.imp (λσ H Q h=>tcb_of h) ?_
 cases b with
 |len=>exact mP bt_len hg hm PySem.boot_len (ha H₀ O₀) (by decide) (by decide) (bH hp.1) (iV hp.2)
 |sum=>exact mP (bt_sum hh) hg hm PyProof.Rows.boot_sum (ha H₀ O₀) (by decide) (by decide) (bH hp.1) (iV hp.2)
 |tuple=>exact pK Gg hg hm PyProof.Rows.boot_tuple (ha H₀ O₀) (by decide) (by decide) (bH hp.1) (iV hp.2)
 |list=>exact pK Gh hg hm PyProof.Rows.boot_list (ha H₀ O₀) (by decide) (by decide) (bH hp.1) (iV hp.2)
 |int=>exact pK bt_int hg hm PyProof.Rows.boot_int (ha H₀ O₀) (by decide) (by decide) (bH hp.1) (iV hp.2)
 |str=>cases hu
 |bool=>cases hu
 |abs=>cases hu
 |min=>cases hu
 |max=>cases hu
 |all=>cases hu
 |any=>cases hu
noncomputable def Ty.nm:Ty->String
 |.int => "int"
 |.bool => "bool"
 |.str => "str"
 |.tuple => "tuple"
 |.list => "list"
theorem Gi (K:PySem.W.Frag) (t:Ty):PySem.W.kitOne K (.type "NoneType") (.type t.nm)=some (D.isTy .non t):=by cases t<;>rfl
theorem kit_bl (K:PySem.W.Frag) (t:Ty) (b:Bool):PySem.W.kitOne K (.type "bool") (.type t.nm)=some (D.isTy (.bl b) t):=by cases t<;>rfl
theorem Gj (K:PySem.W.Frag) (t:Ty) (i:Int):PySem.W.kitOne K (.type "int") (.type t.nm)=some (D.isTy (.int i) t):=by cases t<;>rfl
theorem Gk (K:PySem.W.Frag) (t:Ty) (x:Str):PySem.W.kitOne K (.type "str") (.type t.nm)=some (D.isTy (.str x) t):=by cases t<;>rfl
theorem Gm (K:PySem.W.Frag) (t:Ty) (x:List D):PySem.W.kitOne K (.type "tuple") (.type t.nm)=some (D.isTy (.tup x) t):=by cases t<;>rfl
theorem Gn (K:PySem.W.Frag) (t:Ty) (x:List D):PySem.W.kitOne K (.type "list") (.type t.nm)=some (D.isTy (.lst x) t):=by cases t<;>rfl
theorem isi_D (t:Ty):cZ X (.builtin "isinstance") (λxs H Q=>∃O d v,xs=[v,.ty t.nm]/\RR X.K H O d v/\d.isDct=false/\Q (.bl (d.isTy t)) H):=by
 intro pins s σ H xs us Q I rv h
 obtain⟨O,d,v,rfl,r,nd,q⟩:=h
 obtain⟨u,w,rfl,r1,r2⟩:=vals2 rv
 cases (show w=_ from r2)
 have fin:∀tk,EP X pins σ Q (.bool (d.isTy t)) {s with toks:=tk}:=λtk=>⟨.bl (d.isTy t),H,I.tok tk,rfl,q⟩
 have sn:=uT I r r1
 cases sn with
 |dct ds a ps q w=>cases nd
 |tdc ds a ps q w=>cases nd
 |non=>exact PySem.W.kia_one PySem.W.kitx_none I.kIn True.intro (Gi _ t) (λz=>nomatch z) fin
 |bl b=>exact PySem.W.kia_one PySem.W.kitx_bool I.kIn True.intro (kit_bl _ t b) (λz=>nomatch z) fin
 |int i tk=>exact PySem.W.kia_one PySem.W.kitx_int I.kIn True.intro (Gj _ t i) (λz=>nomatch z) fin
 |str x tk=>exact PySem.W.kia_one PySem.W.kitx_str I.kIn True.intro (Gk _ t x) (λz=>nomatch z) fin
 |tup ds a xs its q w r p=>
  obtain⟨o,h1,h2,_⟩:=p
  exact PySem.W.kia_one PySem.W.kitx_tuple I.kIn ⟨o,h1,h2⟩ (Gm _ t ds) (λz=>nomatch z) fin
 |lst ds a xs its q w r p=>
  obtain⟨o,h1,h2,_⟩:=p.isList
  exact PySem.W.kia_one PySem.W.kitx_list I.kIn ⟨o,h1,h2⟩ (Gn _ t ds) (λz=>nomatch z) fin
theorem Gp(t:Ty):bootBuiltins (Str.ofString t.nm)=some (.type t.nm):=by
 cases t
 ·exact PyProof.Rows.boot_int
 ·exact PyProof.Rows.boot_bool
 ·exact PyProof.Rows.boot_str
 ·exact PyProof.Rows.boot_tuple
 ·exact PyProof.Rows.boot_list
theorem se_isi {t:Ty} {n m:Str} {pn pm:Pos} (hn:n = "isinstance") (hm':m=Str.ofString t.nm) (h0:X.mg "isinstance" = none) (h1:X.mg (Str.ofString t.nm)=none) (hg:Gl X n) (hg':Gl X m) (hp:bA p=true) (ha:SR T cf X x p) :
 SE T cf X (.isi x t) (.Call (.Name n pn) [p,.Name m pm] [] pos):=λH₀ O₀=>by
 subst hn hm'
 have ht:PE X (.Name (Str.ofString t.nm) pm) (tC (.ty t.nm)):=Es hg' h1 (Gp t) rfl (by cases t<;>decide) (by cases t<;>decide)
 refine PE.imp (λσ H Q hq=>?_) (mP (isi_D t) hg h0 PyProof.Rows.boot_isinstance (cM (ha H₀ O₀) (cM ht eG (bH rfl)) (bH hp)) (by decide) (by decide) (bH hp) (iV rfl))
 obtain⟨O,own,e,d,F,ev,k⟩:=hq
 rw[xE_isi]at ev
 obtain⟨d1,e1,ev⟩:=Res.bind_ok ev
 obtain⟨c,ev⟩:=aZ ev
 cases ev
 refine⟨O,own,e,d1,F,e1,λv1 H1 s1 r1=>?_⟩
 exact⟨O,d1,v1,rfl,r1,by simpa using c,k _ H1 s1 rfl (λz=>by cases z)⟩
noncomputable def Mt.nm:Mt->Str
 |.split => "split"
 |.join => "join"
 |.index => "index"
noncomputable def baseX:Expr->Bool
 |.Name _ _=>true
 |.Constant _ _ _=>true
 |.Subscript _ _ _=>true
 |.BinOp _ _ _ _=>true
 |_=>false
theorem base_of {e:Expr} {nm:Str} {env:Env} (h:baseX e=true) (hn:(nm==("__class__" : Str))=false):attributeBase e nm env (eval e env)=eval e env:=by
 cases e<;>first|(cases h;done)|rfl
end
inductive Pin where
 |dv (d:D) (v:V)|fr (a:Addr) (o:Obj) (u:HO)
noncomputable def PinOk(K:PySem.W.Frag)(H:Hp)(O:Addr->Prop):Pin->Prop
 |.dv d v=>RD K H O d v
 |.fr a o u=>H a=some (.frz o u)
noncomputable def PinR(K:PySem.W.Frag)(H:Hp)(O:Addr->Prop):Pin->Prop
 |.dv d v=>RR K H O d v
 |.fr a o u=>H a=some (.frz o u)
section
variable{K:PySem.W.Frag}{H H':Hp}{O O':Addr->Prop}{p:Addr}{t:Pin}
theorem PinOk.rr(h:PinOk K H O t):PinR K H O t:=by
 cases t with
 |dv d v=>exact RD.rr h
 |fr a o u=>exact h
theorem PinOk.same(h:PinOk K H O t)(s:Same H H'):PinOk K H' O t:=by
 cases t with
 |dv d v=>exact RD.same s h
 |fr a o u=>exact s _ _ h
theorem PinR.same(h:PinR K H O t)(s:Same H H'):PinR K H' O t:=by
 cases t with
 |dv d v=>exact RR.same s h
 |fr a o u=>exact s _ _ h
theorem PinOk.new(h:PinOk K H O t)(hp:H p=none):PinOk K H (cX O p) t:=by
 cases t with
 |dv d v=>exact RD.new hp h
 |fr a o u=>exact h
theorem PinOk.weak(h:PinOk K H O t)(s:∀a,O' a->O a):PinOk K H O' t:=by
 cases t with
 |dv d v=>exact RD.weak s h
 |fr a o u=>exact h
theorem PinOk.updM{o o':HO}(h:PinOk K H O t)(hO:O p)(hp:H p=some o)(hm:gJ o):PinOk K (L2.upd H p o') O t:=by
 cases t with
 |dv d v=>exact RD.updM hO hp hm h
 |fr a o1 u=>exact(dQ (K:=K) hO hp hm).2.2 a o1 u h
theorem PinOk.upd{ys zs:List V}(h:PinOk K H O t)(hO:O p)(hp:H p=some (.lst ys)):PinOk K (L2.upd H p (.lst zs)) O t:=h.updM hO hp trivial
end
noncomputable def Wk1(K:PySem.W.Frag)(J:It)(d0:D)(v0:V)(ds:List D):Prop:=∀i H O,RR K H O d0 v0 ->
 (i<ds.length->J.go i H)/\(ds.length<=i->J.stop i H)/\∀x H' d,ds[i]?=some d->J.yld i H x H'->Same H H'/\RD K H' O d x
noncomputable def Wk(K:PySem.W.Frag)(J:It)(srs:List Pin)(ds:List D):Prop:=∀i H O,(∀t∈srs,PinR K H O t) ->
 (i<ds.length->J.go i H)/\(ds.length<=i->J.stop i H)/\∀x H' d,ds[i]?=some d->J.yld i H x H'->Same H H'/\RD K H' O d x
theorem Wk1.wk{K:PySem.W.Frag}{J:It}{d0:D}{v0:V}{ds:List D}(h:Wk1 K J d0 v0 ds):Wk K J [.dv d0 v0] ds:=λi H O r=>h i H O (r (.dv d0 v0) (cI.mpr rfl))
theorem qH{K:PySem.W.Frag}{H:Hp}{O:Addr->Prop}{rd:Bool}{ds:List D}{R:It->Hp->Prop}(k:∀J H' srs,Same H H'->(∀t∈srs,PinR K H' O t)->(rd=false->∀t∈srs,PinOk K H' O t)->Wk K J srs ds->R J H') :
 ∀J H' d0 v0,Same H H'->RR K H' O d0 v0->(rd=false->RD K H' O d0 v0)->Wk1 K J d0 v0 ds->R J H':=λJ H' d0 v0 s r rv w=>
 k J H' [.dv d0 v0] s (λt ht=>by rw[cI.mp ht];exact r) (λz t ht=>by rw[cI.mp ht];exact rv z) w.wk
noncomputable def tI(T:Tab)(cf:Nat->List D->Res D)(K:PySem.W.Frag)(H₀:Hp)(O₀:Addr->Prop)(x:E)(rd:Bool):TI:=λσ H R=>∃O own e ds,Fm K H₀ O₀ H O own e σ/\evI T cf x e=.ok ds /\
 ∀J H' srs,Same H H'->(∀t∈srs,PinR K H' O t)->(rd=false->∀t∈srs,PinOk K H' O t)->Wk K J srs ds->R J H'
noncomputable def SI(T:Tab)(cf:Nat->List D->Res D)(X:Cx)(tg:Expr)(x:E)(rd:Bool)(p:Expr):Prop:=∀H₀ O₀,PI X tg p (tI T cf X.K H₀ O₀ x rd)
section
variable{T:Tab}{cf:Nat->List D->Res D}{X:Cx}{x y z:E}{p q r tg:Expr}{pos pos':Pos}{es:List Expr}
theorem Gq{K:PySem.W.Frag}{a:Addr}{ds:List D}:Wk1 K (Itl K a) (.lst ds) (.ref a) ds:=by
 intro i H O r
 obtain⟨a',xs,e,q,w⟩:=r.lst
 cases e
 have hl:=w.length
 refine⟨λh=>?_,λh=>⟨xs,q,by lia⟩,λx H' d hd y=>?_⟩
 ·obtain⟨v,h1,h2⟩:=w.get (bD h)
  exact⟨xs,v,q,h1⟩
 ·obtain⟨rfl,y⟩:=y
  refine⟨Same.refl _,?_⟩
  obtain⟨v,h1,h2⟩:=w.get hd
  have:=(y xs q).symm.trans h1
  cases this
  exact h2
theorem wk_tup{K:PySem.W.Frag}{a:Addr}{ds:List D}:Wk1 K (Itt K a) (.tup ds) (.ref a) ds:=by
 intro i H O r
 obtain⟨a',xs,e,q,w⟩:=r.tup
 cases e
 have hl:=w.length
 refine⟨λh=>?_,λh=>⟨xs,q,by lia⟩,λx H' d hd y=>?_⟩
 ·obtain⟨v,h1,h2⟩:=w.get (bD h)
  exact⟨xs,v,q,h1⟩
 ·obtain⟨rfl,y⟩:=y
  refine⟨Same.refl _,?_⟩
  obtain⟨v,h1,h2⟩:=w.get hd
  have:=(y xs q).symm.trans h1
  cases this
  exact h2
theorem uY(lo:Int):∀n,(cL lo n).length=n
 |0=>rfl
 |n+1=>by rw[cL,aW,uY (lo+1) n]
theorem Be:∀(lo:Int)(n i:Nat),i<n->(cL lo n)[i]?=some (.int (lo+i))
 |lo,0,i,h=>absurd h (zP _)
 |lo,n+1,0,_=>by rw[cL];simp
 |lo,n+1,i+1,h=>by
  rw[cL,LJ,Be (lo+1) n i (by lia)]
  congr 2
  push_cast
  lia
theorem Bf{K:PySem.W.Frag}{lo:Int}{n:Nat}:Wk1 K (Itr lo n) .non .non (cL lo n):=by
 intro i H O r
 rw[uY]
 refine⟨λh=>h,λh=>h,λx H' d hd y=>?_⟩
 obtain⟨rfl,rfl⟩:=y
 refine⟨Same.refl _,?_⟩
 by_cases hi:i<n
 ·rw[Be lo n i hi]at hd
  cases hd
  exact rfl
 ·rw[oZ (by rw[uY];lia)]at hd
  cases hd
theorem wk_str{K:PySem.W.Frag}{z:Str}:Wk1 K (Its z) (.str z) (.str z) (z.cps.toList.map λc=>D.str (hE c)):=by
 intro i H O r
 rw[aE]
 refine⟨λh=>by simpa[Its]using h,λh=>by simpa[Its]using h,λx H' d hd y=>?_⟩
 obtain⟨rfl,c,hc,rfl⟩:=y
 refine⟨Same.refl _,?_⟩
 rw[bT]at hd
 have hc':z.cps.toList[i]?=some c:=by simpa using hc
 rw[hc']at hd
 cases hd
 exact rfl
theorem si_seq{rd:Bool}(ha:SR T cf X x p)(hv:rd=false->SE T cf X x p):SI T cf X tg (.seq x) rd p:=by
 intro H₀ O₀ pins s σ H R I h
 obtain⟨O,own,e,ds,F,ev,k⟩:=h
 replace k:=qH k
 rw[xI_seq]at ev
 obtain⟨d1,e1,ev⟩:=Res.bind_ok ev
 have main:∀{u:Value} {s1:Shared} {v:V} {H1:Hp},Inv X pins σ H1 s1->RelV v u->Same H H1->RR X.K H1 O d1 v->(rd=false->RD X.K H1 O d1 v)->wpAny (model X.prog X.w) X.A (pyIter u) (PIE X pins σ tg R) X.xe s1:=by
  intro u s1 v H1 I1 r1 s1' rr rv
  unfold D.items at ev
  split at ev
  ·cases ev
   obtain⟨a,xs,e,q1,w1⟩:=rr.lst
   subst e
   cases r1
   obtain⟨its,r',pl,hz⟩:=I1.list q1
   refine wpAny_pyIter_list pl.isList ?_
   refine⟨s1.heap.objs.size,[s1.heap.objs.size],_,Itl X.K a,H1,rfl,I1.kept (t':=s1.toks) λb u e=>Heap.get?_push_of_some _ e,Ey a _,⟨_,Heap.get?_push_size _ rfl,rfl,rfl⟩,λb hb=>?_,k _ H1 _ _ s1' rr rv Gq⟩
   rcases aV.mp hb with rfl|hb
   ·exact I1.fpOk (aS _) (I1.hok.fresh (aS _))
   ·cases hb
  ·cases ev
   obtain⟨a,xs,e,q1,w1⟩:=rr.tup
   subst e
   cases r1
   obtain⟨its,r',pl,hz⟩:=I1.tuple q1
   refine wpAny_pyIter_tuple pl ?_
   refine⟨s1.heap.objs.size,[s1.heap.objs.size],_,Itt X.K a,H1,rfl,I1.kept (t':=s1.toks) λb u e=>Heap.get?_push_of_some _ e,Ez a _,⟨_,Heap.get?_push_size _ rfl,rfl,rfl⟩,λb hb=>?_,k _ H1 _ _ s1' rr rv wk_tup⟩
   rcases aV.mp hb with rfl|hb
   ·exact I1.fpOk (aS _) (I1.hok.fresh (aS _))
   ·cases hb
  ·cases ev
   rename_i z
   cases (show v=.str z from rr.rd rfl)
   obtain⟨t,rfl⟩:=r1
   exact pi_str I1 (k _ H1 (.str z) (.str z) s1' rr rv wk_str)
  ·cases ev
 cases rd with
 |true=>exact thn (ha H₀ O₀ pins s σ H (λv H1=>Same H H1/\RR X.K H1 O d1 v) I ⟨O,own,e,d1,F,e1,λv H' s' r=>⟨s',r⟩⟩) λu s1 ⟨v,H1,I1,r1,s1',rr⟩=>main I1 r1 s1' rr (λz=>by cases z)
 |false=>exact thn (hv rfl H₀ O₀ pins s σ H (λv H1=>Same H H1/\RD X.K H1 O d1 v) I ⟨O,own,e,d1,F,e1,λv H' s' r _=>⟨s',r⟩⟩) λu s1 ⟨v,H1,I1,r1,s1',rr⟩=>main I1 r1 s1' rr.rr (λ_=>rr)
theorem si_rng {rd:Bool} {n:Str} {pn:Pos} (hn:n = "range") (hg:Gl X n) (hm:X.mg "range" = none) (hp:bA p=true) (ha:SE T cf X x p):SI T cf X tg (.rng x) rd (.Call (.Name n pn) [p] [] pos):=by
 intro H₀ O₀ pins s σ H R I h
 subst hn
 obtain⟨O,own,e,ds,F,ev,k⟩:=h
 replace k:=qH k
 rw[Ap]at ev
 obtain⟨d1,e1,ev⟩:=Res.bind_ok ev
 refine FB hg hm (cM (ha H₀ O₀) eG (bH hp)) (bH hp) pins s σ H R I ⟨O,own,e,d1,F,e1,λv H' s' r _=>?_⟩
 split at ev
 ·obtain⟨c,ev⟩:=aZ ev
  cases ev
  cases (show v=_ from r)
  simp only[dZ,aF,decide_eq_true_eq]at c
  exact⟨_,rfl,c.1,c.2,k _ H' .non .non s' (.inl rfl) (λ_=>rfl) Bf⟩
 ·cases ev
theorem Gr {rd:Bool} {n:Str} {pn:Pos} (hn:n = "range") (hg:Gl X n) (hm:X.mg "range" = none) (hp:bA p=true) (hq:bA q=true) (ha:SE T cf X x p) (hb:SE T cf X y q):SI T cf X tg (.rng2 x y) rd (.Call (.Name n pn) [p,q] [] pos):=by
 intro H₀ O₀ pins s σ H R I h
 subst hn
 obtain⟨O,own,e,ds,F,ev,k⟩:=h
 replace k:=qH k
 rw[Aq]at ev
 obtain⟨d1,e1,ev⟩:=Res.bind_ok ev
 split at ev
 ·obtain⟨d2,e2,ev⟩:=Res.bind_ok ev
  split at ev
  ·obtain⟨c,ev⟩:=aZ ev
   cases ev
   simp only[dZ,aF,decide_eq_true_eq]at c
   refine FC hg hm (cM (ha H₀ O₀) (cM (hb H₀ O₀) eG (bH hq)) (bH hp)) (by rw[bH hp,bH hq];rfl) (bH hq) pins s σ H R I ⟨O,own,e,_,F,e1,λv H1 s1 r1 _=>⟨O,own,e,_,F.grow s1,e2,λv2 H2 s2 r2 _=>?_⟩⟩
   cases (show v=_ from r1)
   cases (show v2=_ from r2)
   exact⟨_,_,rfl,⟨c.1.1,c.1.2,c.2.1,c.2.2⟩,k _ H2 .non .non (s1.trans s2) (.inl rfl) (λ_=>rfl) Bf⟩
  ·cases ev
 ·cases ev
noncomputable def Ft(K:PySem.W.Frag)(H₀:Hp)(O₀:Addr->Prop)(ts:List Pin)(e:Nv)(σ:L2.St)(H:Hp):Prop:=∃O own,Fm K H₀ O₀ H O own e σ/\∀t∈ts,PinOk K H O t
noncomputable def tG(K:PySem.W.Frag)(H₀:Hp)(O₀:Addr->Prop)(g:G):TG:=λv σ H Q=>∃O own e d e',Fm K H₀ O₀ H O own e σ/\RD K H O d v/\g.put d e=.ok e'/\∀σ' own',(∀j a,own' j=some a->own j=some a)->Fm K H₀ O₀ H O own' e' σ'->Q σ' H
noncomputable def SG(X:Cx)(g:G)(tg:Expr):Prop:=∀H₀ O₀,PG X tg (tG X.K H₀ O₀ g)
theorem PG.imp{t t':TG}(h:∀v σ H Q,t' v σ H Q->t v σ H Q)(hp:PG X tg t):PG X tg t':=λpins s σ H v u Q I r q=>hp pins s σ H v u Q I r (h v σ H Q q)
theorem Bg{own:Nat->Option Addr}{i:Nat}:∀j a,(λj=>if j=i then none else own j) j=some a->own j=some a:=λj a h=>by
 dsimp only at h
 by_cases hj:j=i
 ·rw[if_pos hj]at h;cases h
 ·rw[if_neg hj]at h;exact h
theorem sg_one{i:Nat}{n:Str}(hN:X.N.Nodup)(hi:X.N[i]?=some n)(hx:Loc X.env.scope n)(hf:X.fn n=true\/X.env.scope.names.lookup n=some .local):SG X (.one i) (.Name n pos):=λH₀ O₀=>
 PG.imp (λv σ H Q ⟨O,own,e,d,e',F,r,ev,k⟩=>by
  cases ev
  exact k _ _ Bg (F.setV i r)) (AH hN hi hx hf)
noncomputable def tGs(K:PySem.W.Frag)(H₀:Hp)(O₀:Addr->Prop)(is:List Nat):TGs:=λvs σ H Q=>∃O own e ds e',Fm K H₀ O₀ H O own e σ/\RDs K H O ds vs/\cS is ds e=.ok e'/\∀σ' own',(∀j a,own' j=some a->own j=some a)->Fm K H₀ O₀ H O own' e' σ'->Q σ' H
noncomputable def SGs(X:Cx)(is:List Nat)(tgs:List Expr):Prop:=∀H₀ O₀,PGs X tgs (tGs X.K H₀ O₀ is)
theorem PGs.imp{tgs:List Expr}{t t':TGs}(h:∀v σ H Q,t' v σ H Q->t v σ H Q)(hp:PGs X tgs t):PGs X tgs t':=λpins s σ H v u Q I r q=>hp pins s σ H v u Q I r (h v σ H Q q)
theorem Gs:SGs X [] []:=λH₀ O₀=>PGs.imp (λvs σ H Q ⟨O,own,e,ds,e',F,r,ev,k⟩=>by
 cases ds with
 |nil=>
  simp only[cS]at ev
  cases ev
  rw[RDs]at r
  exact⟨r,k _ _ (λ_ _ h=>h) F⟩
 |cons d ds=>simp only[cS]at ev;cases ev) Ew
theorem Gu{n:Str}{pos:Pos}{es:List Expr}{env:Env}:(assignEach (.Name n pos::es) env).map (·.2)=assign (.Name n pos) env::(assignEach es env).map (·.2):=rfl
theorem Gv{i:Nat}{is:List Nat}{n:Str}(hN:X.N.Nodup)(hi:X.N[i]?=some n)(hx:Loc X.env.scope n)(hf:X.fn n=true\/X.env.scope.names.lookup n=some .local)(h:SGs X is es):SGs X (i::is) (.Name n pos::es):=λH₀ O₀=>
 PGs.imp (λvs σ H Q ⟨O,own,e,ds,e',F,r,ev,k⟩=>by
  cases ds with
  |nil=>simp only[cS]at ev;cases ev
  |cons d ds=>
   rw[cS]at ev
   obtain⟨v,vr,rfl,r1,r2⟩:=r
   exact⟨v,vr,rfl,O,_,_,ds,e',F.setV i r1,r2,ev,λσ' own' h=>k σ' own' λj a q=>Bg j a (h j a q)⟩) (Ex (AH hN hi hx hf) (h H₀ O₀) Gu)
noncomputable def nR:List Expr->Bool
 |[]=>true
 |.Name _ _::r=>nR r
 |_=>false
theorem Gw{env:Env}:∀{es:List Expr},nR es=true->(assignEach es env).length=es.length:=by
 intro es
 induction es with
 |nil=>intro _;rfl
 |cons e es ih=>
  intro h
  cases e with
  |Name n pos=>
   show((false,assign (.Name n pos) env)::assignEach es env).length=_
   rw[aW,ih h,aW]
  |_=>exact absurd h aO
theorem Gx{env:Env}:∀{es:List Expr},nR es=true->(assignEach es env).findIdx? (·.1)=none:=by
 intro es
 induction es with
 |nil=>intro _;rfl
 |cons e es ih=>
  intro h
  cases e with
  |Name n pos=>
   show((false,assign (.Name n pos) env)::assignEach es env).findIdx? (·.1)=none
   rw[List.findIdx?_cons,ih h];rfl
  |_=>exact absurd h aO
theorem Bh:∀{is:List Nat} {ds:List D} {e e':Nv},cS is ds e=.ok e'->ds.length=is.length
 |[],[],_,_,_=>rfl
 |[],_::_,_,_,h=>by simp only[cS]at h;cases h
 |_::_,[],_,_,h=>by simp only[cS]at h;cases h
 |i::is,d::ds,e,e',h=>by
  rw[cS]at h
  rw[aW,aW,Bh h]
theorem Gy{is:List Nat}{k:Nat}(hc:X.calm=true)(hn:nR es=true)(hl:es.length=is.length)(h:SGs X is es):SG X (.many is) (.Tuple es k pos):=λH₀ O₀=>
 PG.imp (λv σ H Q ⟨O,own,e,d,e',F,r,ev,k⟩=>by
  cases d with
  |tup ds=>
   have ev:cS is ds e=.ok e':=ev
   obtain⟨a,xs,rfl,q,w⟩:=r
   exact⟨a,xs,rfl,q.sq,by rw[w.length,Bh ev,<-hl],O,own,e,ds,e',F,w,ev,k⟩
  |non=>cases ev
  |bl _=>cases ev
  |int _=>cases ev
  |str _=>cases ev
  |lst _=>cases ev
  |dct _=>cases ev
  |tdc _=>cases ev) (pg_tup (n:=es.length) hc (h H₀ O₀) (Gw hn) (Gx hn))
noncomputable def Ends.to(K:PySem.W.Frag)(H₀:Hp)(O₀:Addr->Prop)(ts:List Pin)(D':Ends):Out->Prop
 |.nx e'=>∀σ' H',Ft K H₀ O₀ ts e' σ' H'->D'.nx σ' H'
 |.bk e'=>∀σ' H',Ft K H₀ O₀ ts e' σ' H'->D'.bk σ' H'
 |.ct e'=>∀σ' H',Ft K H₀ O₀ ts e' σ' H'->D'.ct σ' H'
 |.rt d fr=>∀v H',Same H₀ H'->RD K H' O₀ d v->(fr=true->NewR K H₀ H' O₀ d v)->D'.rt v H'
 |.rr d a j b k=>∀v H',Same H₀ H'->RD K H' (λc=>O₀ c\/c=a\/c=b) d v->OwnAt K H' (λc=>O₀ c\/c=a\/c=b) a (.dct j)->OwnAt K H' (λc=>O₀ c\/c=a\/c=b) b (.dct k)->D'.rt v H'
noncomputable def tS(T:Tab)(cf:Nat->List D->Res D)(K:PySem.W.Frag)(H₀:Hp)(O₀:Addr->Prop)(x:S):TS:=λD' σ H=>∃ts e out,Ft K H₀ O₀ ts e σ H/\exS T cf x e=.ok out/\Ends.to K H₀ O₀ ts D' out
noncomputable def SS(T:Tab)(cf:Nat->List D->Res D)(X:Cx)(x:S)(p:Stmt):Prop:=∀H₀ O₀,PS X p (tS T cf X.K H₀ O₀ x)
noncomputable def SB(T:Tab)(cf:Nat->List D->Res D)(X:Cx)(x:S)(p:List Stmt):Prop:=∀H₀ O₀,PSs X p (tS T cf X.K H₀ O₀ x)
theorem PS.imp{st:Stmt}{t t':TS}(h:∀D' σ H,t' D' σ H->t D' σ H)(hp:PS X st t):PS X st t':=λpins s σ H D' I q=>hp pins s σ H D' I (h D' σ H q)
theorem PSs.imp{st:List Stmt}{t t':TS}(h:∀D' σ H,t' D' σ H->t D' σ H)(hp:PSs X st t):PSs X st t':=λpins s σ H D' I q=>hp pins s σ H D' I (h D' σ H q)
variable{a b c:S}{st:Stmt}{sts:List Stmt}
theorem Bi{pins:List (Addr×Obj)}{σ:L2.St}{H:Hp}{s:Shared}{p:Addr}{u:HO}(I:Inv X pins σ H s)(h:H p=some u)(hu:(∃ps,u=.dK ps)\/∃ps,u=.dT ps):∃ob,Inv X pins σ (L2.upd H p (.frz ob u)) s:=by
 rcases hu with⟨ps,rfl⟩|⟨ps,rfl⟩
 ·obtain⟨o,_,_,_,I2⟩:=BH I h
  exact⟨o,I2⟩
 ·obtain⟨o,_,_,_,I2⟩:=GO I h
  exact⟨o,I2⟩
theorem sb_nil:SB T cf X .nil []:=λH₀ O₀=>PSs.imp (λD' σ H ⟨ts,e,out,F,ev,k⟩=>by
 rw[iP]at ev;cases ev
 exact k σ H F) mK
theorem Gz(h1:SS T cf X a st)(h2:SB T cf X b sts):SB T cf X (.cons a b) (st::sts):=λH₀ O₀=>by
 refine PSs.imp (λD' σ H hq=>?_) (pD (h1 H₀ O₀) (h2 H₀ O₀))
 obtain⟨ts,e,out,F,ev,k⟩:=hq
 rw[fP]at ev
 obtain⟨o1,e1,ev⟩:=Res.bind_ok ev
 refine⟨ts,e,o1,F,e1,?_⟩
 cases o1 with
 |nx e'=>exact λσ' H' F'=>⟨ts,e',out,F',ev,k⟩
 |rt d fr=>cases ev;exact k
 |rr _ _ _ _ _=>cases ev;exact k
 |bk e'=>cases ev;exact k
 |ct e'=>cases ev;exact k
theorem HA{i:Nat}(h2:SB T cf X b sts):SB T cf X (.cons (.sealed i) b) sts:=λH₀ O₀ pins s σ H D' I hq=>by
 obtain⟨ts,e,out,⟨O,own,F,tt⟩,ev,k⟩:=hq
 (first|rw[fP]at ev|rw[As]at ev)
 obtain⟨o1,e1,ev⟩:=Res.bind_ok ev
 (first|rw[fP]at e1|rw[As]at e1)
 obtain⟨l,e2,e1⟩:=Res.bind_ok e1
 cases e1
 cases hd:l.isDct with
 |false=>
  obtain⟨O',own',F',sub⟩:=F.seal i (Sl.ownA_ok e2) hd
  exact h2 H₀ O₀ pins s σ H D' I ⟨ts,_,out,⟨O',own',F',λt ht=>(tt t ht).weak sub⟩,ev,k⟩
 |true=>
  obtain⟨p,u,g1,g2,g3,g4,g5⟩:=F.sealD i (Sl.ownA_ok e2) hd
  obtain⟨ob,I2⟩:=Bi I g1 g2
  obtain⟨⟨own',F'⟩,_⟩:=g5 ob
  exact h2 H₀ O₀ pins s σ _ D' I2 ⟨ts,_,out,⟨_,own',F',λt ht=>((tt t ht).updM g4.1 g1 g4.2).weak λ_ z=>z.1⟩,ev,k⟩
theorem ss_ret(h:SE T cf X x p):SS T cf X (.ret x) (.Return (some p) pos):=λH₀ O₀=>by
 refine PS.imp (λD' σ H hq=>?_) (kD (h H₀ O₀))
 obtain⟨ts,e,out,⟨O,own,F,tt⟩,ev,k⟩:=hq
 rw[iQ]at ev
 obtain⟨d,e1,ev⟩:=Res.bind_ok ev
 cases ev
 refine⟨O,own,e,d,F,e1,λv H' s' r n=>k v H' (F.same.trans s') (r.weak F.sub) λfr=>?_⟩
 rw[aF,bU]at fr
 exact NewR.of (((n fr.1).back F.same).weak F.sub) fr.2
theorem HB {i:Nat} {n:Str} (hN:X.N[i]?=some n) (hv:Vis X.env.scope n) (hd:(n==("__debug__" : Str))=false) (hc:(n==("__classdict__" : Str))=false):SS T cf X (.retO i) (.Return (some (.Name n pos')) pos):=λH₀ O₀ pins s σ H D' I hq=>by
 obtain⟨ts,e,out,⟨O,own,F,tt⟩,ev,k⟩:=hq
 rw[Fy]at ev
 obtain⟨l,e1,ev⟩:=Res.bind_ok ev
 cases ev
 cases hz:l.isDct with
 |false=>
  rw[hz]at k
  have q:=F.sl i
  rw[Sl.ownA_ok e1]at q
  obtain⟨p,e2,e3,h1⟩:=q
  have hn:=F.new i p e2
  have nO:¬O₀ p:=λz=>by
   obtain⟨o,w⟩:=F.trk0.1 p z
   rw[hn.2]at w;cases w
  exact kD (eP hN hv hd hc) pins s σ H D' I ⟨.ref p,eA e3,k _ H F.same (OwnAt.rd nO hz (h1.weak F.sub)) λ_=>⟨λ_=>⟨p,rfl,hn.2,h1.weak λb hb=>hb.elim (F.sub b) λz=>z▸hn.1⟩,λ_ a r z=>by subst z;exact h1.elim⟩⟩
 |true=>
  rw[hz]at k
  obtain⟨p,u,g1,g2,g3,g4,g5⟩:=F.sealD i (Sl.ownA_ok e1) hz
  obtain⟨ob,I2⟩:=Bi I g1 g2
  obtain⟨⟨own',F'⟩,rd⟩:=g5 ob
  exact kD (eP hN hv hd hc) pins s σ _ D' I2 ⟨.ref p,eA g3,k _ _ F'.same (rd.weak F'.sub) λz=>by cases z⟩
noncomputable def dH:Expr->Bool
 |.ListComp _ _ _ _=>false
 |.SetComp _ _ _ _=>false
 |.DictComp _ _ _ _ _=>false
 |_=>true
noncomputable def kI:Expr->Bool
 |.Tuple _ _ _=>false
 |_=>true
theorem jO{e:Expr}{t:Option Expr}{l:Nat}{env:Env}(h:dH e=true):swapsWith e t l env=pure false:=by
 cases e<;>first|rfl|(cases h)
theorem Bj{e tg:Expr}{env:Env}(h:kI e=true):swappedStores [tg] e env=pure none:=by
 cases tg<;>first|rfl|(cases e<;>first|rfl|(cases h;done))
theorem Bk{tg:Expr}{env:Env}(h:bA tg=true):(assignEach [tg] env).map (·.2)=[assign tg env]:=by
 cases tg<;>first|rfl|(cases h)
theorem ss_asg{g:G}(hx:dH p=true)(ht:kI p=true)(hq:bA tg=true)(h:SE T cf X x p)(hg:SG X g tg):SS T cf X (.asg g x) (.Assign [tg] p pos):=λH₀ O₀=>by
 refine PS.imp (λD' σ H hq=>?_) (AI (h H₀ O₀) (hg H₀ O₀) (jO hx) (Bj ht) (Bk hq))
 obtain⟨ts,e,out,⟨O,own,F,tt⟩,ev,k⟩:=hq
 rw[nC]at ev
 obtain⟨d,e1,ev⟩:=Res.bind_ok ev
 obtain⟨e2,e3,ev⟩:=Res.bind_ok ev
 cases ev
 refine⟨O,own,e,d,F,e1,λv H' s' r n=>⟨O,own,e,d,e2,F.grow s',r,e3,λσ' own' _ F'=>?_⟩⟩
 exact k σ' H' ⟨O,own',F',λt ht=>(tt t ht).same s'⟩
theorem HC{i:Nat}{n:Str}(hx:dH p=true)(hN:X.N.Nodup)(hi:X.N[i]?=some n)(hl:Loc X.env.scope n)(hf:X.fn n=true\/X.env.scope.names.lookup n=some .local)(h:SE T cf X x p):SS T cf X (.asgO i x) (.Assign [.Name n pos'] p pos):=λH₀ O₀=>by
 refine PS.imp (λD' σ H hq=>?_) (kZ hN hi hl (h H₀ O₀) (jO hx) hf)
 obtain⟨ts,e,out,⟨O,own,F,tt⟩,ev,k⟩:=hq
 rw[pP]at ev
 obtain⟨d,e1,ev⟩:=Res.bind_ok ev
 split at ev
 ·obtain⟨c,ev⟩:=aZ ev
  cases ev
  refine⟨O,own,e,_,F,e1,λv H' s' r n=>?_⟩
  obtain⟨p,rfl,h2,h3⟩:=n c rfl
  exact k _ H' ⟨_,_,F.setO s' i h2 h3,λt ht=>((tt t ht).new h2).same s'⟩
 ·obtain⟨c,ev⟩:=aZ ev
  cases ev
  refine⟨O,own,e,_,F,e1,λv H' s' r n=>?_⟩
  obtain⟨p,rfl,h2,h3⟩:=n c rfl
  exact k _ H' ⟨_,_,F.setO s' i h2 h3,λt ht=>((tt t ht).new h2).same s'⟩
 ·obtain⟨c,ev⟩:=aZ ev
  cases ev
  refine⟨O,own,e,_,F,e1,λv H' s' r n=>?_⟩
  obtain⟨p,rfl,h2,h3⟩:=n c rfl
  exact k _ H' ⟨_,_,F.setO s' i h2 h3,λt ht=>((tt t ht).new h2).same s'⟩
 ·cases ev
theorem HD{i:Nat}{n:Str}{dpos:Pos}(hN:X.N.Nodup)(hi:X.N[i]?=some n)(hl:Loc X.env.scope n)(hf:X.fn n=true\/X.env.scope.names.lookup n=some .local):SS T cf X (.newD i) (.Assign [.Name n pos'] (.Dict [] [] dpos) pos):=λH₀ O₀=>by
 refine PS.imp (λD' σ H hq=>?_) (kZ hN hi hl Fq (jO rfl) hf)
 obtain⟨ts,e,out,⟨O,own,F,tt⟩,ev,k⟩:=hq
 rw[GC]at ev
 cases ev
 intro p hp
 exact k _ _ ⟨_,_,F.setO (cG hp _) i hp (GX (ds:=[]) (ps:=[]) rfl hp),λt ht=>((tt t ht).new hp).same (cG hp _)⟩
theorem ss_ite{ps qs:List Stmt}(hc:ST T cf X x p)(ha:SB T cf X a ps)(hb:SB T cf X b qs):SS T cf X (.ite x a b) (.If p ps qs pos):=λH₀ O₀=>by
 refine PS.imp (λD' σ H hq=>?_) (mM (hc H₀ O₀) (ha H₀ O₀) (hb H₀ O₀))
 obtain⟨ts,e,out,⟨O,own,F,tt⟩,ev,k⟩:=hq
 rw[iR]at ev
 obtain⟨d,e1,ev⟩:=Res.bind_ok ev
 obtain⟨c,e2,ev⟩:=Res.bind_ok ev
 refine⟨O,own,e,d,c,F,e1,e2,λH1 s1=>?_⟩
 cases c with
 |true=>rw[if_pos rfl]at ev⊢;exact⟨ts,e,out,⟨O,own,F.grow s1,λt ht=>(tt t ht).same s1⟩,ev,k⟩
 |false=>rw[if_neg aO]at ev⊢;exact⟨ts,e,out,⟨O,own,F.grow s1,λt ht=>(tt t ht).same s1⟩,ev,k⟩
theorem ss_for{g:G}{ps:List Stmt}(hp:PassesOwn (model X.prog X.w) X.A X.env X.xe)(hc:X.calm=true)(hq:bA p=true)(hi:SI T cf X tg x false p)(hg:SG X g tg)(hb:SB T cf X b ps):SS T cf X (.forS g x b) (.For tg p ps [] pos):=λH₀ O₀=>by
 refine PS.imp (λD' σ H hq=>?_) (tV hp hc (hi H₀ O₀) (hg H₀ O₀) (hb H₀ O₀) (qF hq))
 obtain⟨ts,e,out,⟨O,own,F,tt⟩,ev,k⟩:=hq
 rw[iS]at ev
 obtain⟨ds,e1,ev⟩:=Res.bind_ok ev
 refine⟨O,own,e,ds,F,e1,λJ H1 srs s1 rr rv wk=>?_⟩
 refine⟨λi m σ H=>m=ds.length-i/\i<=ds.length/\∃e',Ft X.K H₀ O₀ (srs++ts) e' σ H/\aP (λd e0=>do let e1<-g.put d e0;exS T cf b e1) (ds.drop i) e'=.ok out,⟨ds.length,by simp,eW _,e,⟨O,own,F.grow s1,λt ht=>?_⟩,by simpa using ev⟩,?_⟩
 ·rcases fK.mp ht with ht|ht
  ·exact rv rfl t ht
  ·exact(tt t ht).same s1
 rintro i m σ2 H2 ⟨rfl,hi',e',⟨O2,own2,F2,t2⟩,ev2⟩
 obtain⟨w1,w2,w3⟩:=wk i H2 O2 λt ht=>(t2 t (sX _ ht)).rr
 by_cases hlt:i<ds.length
 ·refine .inr ⟨w1 hlt,λσ' H'=>∃e',Ft X.K H₀ O₀ (srs++ts) e' σ' H'/\aP (λd e0=>do let e1<-g.put d e0;exS T cf b e1) (ds.drop (i+1)) e'=.ok out,λσ' H' n=>⟨ds.length-(i+1),by lia,rfl,hlt,n⟩,λv H' y=>?_⟩
  obtain⟨s3,r3⟩:=w3 v H' _ (bD hlt) y
  rw[tD hlt,aP]at ev2
  obtain⟨o1,ev3,ev4⟩:=Res.bind_ok ev2
  obtain⟨e3,ev5,ev6⟩:=Res.bind_ok ev3
  refine⟨O2,own2,e',_,e3,F2.grow s3,r3,ev5,λσ' own' _ F'=>?_⟩
  refine⟨srs++ts,e3,o1,⟨O2,own',F',λt ht=>(t2 t ht).same s3⟩,ev6,?_⟩
  have down:∀{e'':Nv} {σ'':L2.St} {H'':Hp},Ft X.K H₀ O₀ (srs++ts) e'' σ'' H''->Ft X.K H₀ O₀ ts e'' σ'' H'':=λ⟨O',own',F',t'⟩=>⟨O',own',F',λt ht=>t' t (cR _ ht)⟩
  cases o1 with
  |nx e4=>exact λσ'' H'' F''=>⟨e4,F'',ev4⟩
  |ct e4=>exact λσ'' H'' F''=>⟨e4,F'',ev4⟩
  |bk e4=>cases ev4;exact λσ'' H'' F''=>k σ'' H'' (down F'')
  |rt d fr=>cases ev4;exact k
  |rr _ _ _ _ _=>cases ev4;exact k
 ·have e4:i=ds.length:=by lia
  subst e4
  refine .inl ⟨w2 (aS _),?_⟩
  rw[zQ,aP]at ev2
  cases ev2
  exact k σ2 H2 ⟨O2,own2,F2,λt ht=>t2 t (cR _ ht)⟩
theorem ss_app {i:Nat} {n nm:Str} {px apos cpos:Pos} (hN:X.N[i]?=some n) (hv:Vis X.env.scope n) (hd:(n==("__debug__" : Str))=false) (hc:(n==("__classdict__" : Str))=false) (hnm:nm = "append") (hline:(apos.endLine==cpos.line)=true) (hp:bA p=true) (h:SE T cf X x p) :
 SS T cf X (.app i x) (.Expr (.Call (.Attribute (.Name n px) nm apos) [p] [] cpos) pos):=λH₀ O₀=>by
 subst hnm
 refine PS.imp (λD' σ H hq=>?_) (mL (tZ PySem.F.plainAttrs_list PySem.F.slot_list_append PySem.F.type_list_append A5 (eP hN hv hd hc) (cM (h H₀ O₀) eG (bH hp)) rfl (by rw[bH hp];rfl) hline (bH hp) rfl) rfl)
 obtain⟨ts,e,out,⟨O,own,F,tt⟩,ev,k⟩:=hq
 rw[xS_app]at ev
 obtain⟨d,e1,ev⟩:=Res.bind_ok ev
 obtain⟨l,e2,ev⟩:=Res.bind_ok ev
 obtain⟨c,ev⟩:=aZ ev
 cases ev
 obtain⟨q0,xs0,f1,f2,f3,f4,f5⟩:=F.mut i (Sl.own_ok e2)
 refine⟨.ref q0,eA f1,.inl ⟨rfl,xs0,.of f2⟩,O,own,e,d,F,e1,λv H' s' r _=>?_⟩
 obtain⟨q1,xs1,g1,g2,g3,g4,g5⟩:=(F.grow s').mut i (Sl.own_ok e2)
 have eq:q1=q0:=by rw[f1]at g1;cases g1;rfl
 subst eq
 refine⟨q1,xs1,v,rfl,rfl,g2,by rw[g3.length,<-fS];exact of_decide_eq_true c,?_⟩
 exact k _ _ ⟨O,own,g5 _ _ (g3.append ⟨v,[],rfl,r,rfl⟩),λt ht=>((tt t ht).same s').upd g4 g2⟩
theorem ss_ext {i:Nat} {n nm:Str} {px apos cpos:Pos} (hN:X.N[i]?=some n) (hv:Vis X.env.scope n) (hd:(n==("__debug__" : Str))=false) (hc:(n==("__classdict__" : Str))=false) (hnm:nm = "extend") (hline:(apos.endLine==cpos.line)=true) (hp:bA p=true) (h:SE T cf X x p) :
 SS T cf X (.ext i x) (.Expr (.Call (.Attribute (.Name n px) nm apos) [p] [] cpos) pos):=λH₀ O₀=>by
 subst hnm
 refine PS.imp (λD' σ H hq=>?_) (mL (tZ PySem.F.plainAttrs_list PySem.F.slot_list_extend PySem.F.type_list_extend A6 (eP hN hv hd hc) (cM (h H₀ O₀) eG (bH hp)) rfl (by rw[bH hp];rfl) hline (bH hp) rfl) rfl)
 obtain⟨ts,e,out,⟨O,own,F,tt⟩,ev,k⟩:=hq
 rw[Aw]at ev
 obtain⟨d,e1,ev⟩:=Res.bind_ok ev
 split at ev
 ·obtain⟨l,e2,ev⟩:=Res.bind_ok ev
  obtain⟨c,ev⟩:=aZ ev
  rw[aF]at c
  cases ev
  obtain⟨q0,xs0,f1,f2,f3,f4,f5⟩:=F.mut i (Sl.own_ok e2)
  refine⟨.ref q0,eA f1,.inl ⟨rfl,xs0,.of f2⟩,O,own,e,_,F,e1,λv H' s' r nl=>?_⟩
  obtain⟨b,rfl,hb0,zs,hb1,hb2⟩:=nl c.1 rfl
  obtain⟨q1,xs1,g1,g2,g3,g4,g5⟩:=(F.grow s').mut i (Sl.own_ok e2)
  have eq:q1=q0:=by rw[f1]at g1;cases g1;rfl
  subst eq
  refine⟨q1,b,xs1,zs,rfl,rfl,g2,hb1,by rw[g3.length,hb2.length,<-fS];exact of_decide_eq_true c.2,?_⟩
  exact k _ _ ⟨O,own,g5 _ _ (g3.append (hb2.weak λ_ z=>.inl z)),λt ht=>((tt t ht).same s').upd g4 g2⟩
 ·cases ev
theorem HE:SS T cf X .never st:=λH₀ O₀=>PS.imp (λD' σ H ⟨ts,e,out,F,ev,k⟩=>by
 rw[GD]at ev;cases ev) tU
theorem ss_exp(hs:swapsWith p none pos.line X.env=pure false)(h:SE T cf X x p):SS T cf X (.exp x) (.Expr p pos):=λH₀ O₀=>by
 refine PS.imp (λD' σ H hq=>?_) (mL (h H₀ O₀) hs)
 obtain⟨ts,e,out,⟨O,own,F,tt⟩,ev,k⟩:=hq
 rw[Ax]at ev
 obtain⟨d,e1,ev⟩:=Res.bind_ok ev
 cases ev
 exact⟨O,own,e,d,F,e1,λv H' s' r _=>k _ _ ⟨O,own,F.grow s',λt ht=>(tt t ht).same s'⟩⟩
theorem HF{g:G}{d0:D}{c:E}{pc pr:Expr}{pos1 pos2:Pos}(hp:PassesOwn (model X.prog X.w) X.A X.env X.xe)(hc:X.calm=true)(hq:bA p=true)(hi:SI T cf X tg x true p)(hg:SG X g tg)(ht:ST T cf X c pc)(hr:SE T cf X (.con d0) pr) :
 SS T cf X (.forS g x (.cons (.ite c (.cons (.ret (.con d0)) .nil) .nil) .nil)) (.For tg p [.If pc [.Return (some pr) pos1] [] pos2] [] pos):=λH₀ O₀=>by
 refine PS.imp (λD' σ H hq=>?_) (tV hp hc (hi H₀ O₀) (hg H₀ O₀) (pD (mM (ht H₀ O₀) (pD (kD (hr H₀ O₀)) mK) mK) mK) (qF hq))
 obtain⟨ts,e,out,⟨O,own,F,tt⟩,ev,k⟩:=hq
 (first|rw[iP]at ev|rw[fP]at ev|rw[iQ]at ev|rw[iR]at ev|rw[iS]at ev)
 obtain⟨ds,e1,ev⟩:=Res.bind_ok ev
 refine⟨O,own,e,ds,F,e1,λJ H1 srs s1 rr rv wk=>?_⟩
 refine⟨λi m σ H=>m=ds.length-i/\i<=ds.length/\∃own' e',Fm X.K H₀ O₀ H O own' e' σ/\(∀t∈ts,PinOk X.K H O t)/\(∀t∈srs,PinR X.K H O t)/\aP (λd e0=>do let e1<-g.put d e0;exS T cf (.cons (.ite c (.cons (.ret (.con d0)) .nil) .nil) .nil) e1) (ds.drop i) e'=.ok out,⟨ds.length,by simp,eW _,own,e,F.grow s1,λt ht=>(tt t ht).same s1,rr,by simpa using ev⟩,?_⟩
 rintro i m σ2 H2 ⟨rfl,hi',own2,e',F2,t2,r2,ev2⟩
 obtain⟨w1,w2,w3⟩:=wk i H2 O r2
 by_cases hlt:i<ds.length
 ·refine .inr ⟨w1 hlt,λσ' H'=>∃own' e',Fm X.K H₀ O₀ H' O own' e' σ'/\(∀t∈ts,PinOk X.K H' O t)/\(∀t∈srs,PinR X.K H' O t)/\aP (λd e0=>do let e1<-g.put d e0;exS T cf (.cons (.ite c (.cons (.ret (.con d0)) .nil) .nil) .nil) e1) (ds.drop (i+1)) e'=.ok out,λσ' H' n=>⟨ds.length-(i+1),by lia,rfl,hlt,n⟩,λv H' y=>?_⟩
  obtain⟨s3,r3⟩:=w3 v H' _ (bD hlt) y
  rw[tD hlt,aP]at ev2
  obtain⟨o1,ev3,ev4⟩:=Res.bind_ok ev2
  obtain⟨e3,ev5,ev6⟩:=Res.bind_ok ev3
  refine⟨O,own2,e',_,e3,F2.grow s3,r3,ev5,λσ' own' _ F'=>?_⟩
  (first|rw[iP]at ev6|rw[fP]at ev6|rw[iQ]at ev6|rw[iR]at ev6|rw[iS]at ev6)
  obtain⟨o2,ev7,ev8⟩:=Res.bind_ok ev6
  (first|rw[iP]at ev7|rw[fP]at ev7|rw[iQ]at ev7|rw[iR]at ev7|rw[iS]at ev7)
  obtain⟨dc,ev9,ev10⟩:=Res.bind_ok ev7
  obtain⟨kc,ev11,ev12⟩:=Res.bind_ok ev10
  refine⟨O,own',e3,dc,kc,F',ev9,ev11,λH3 s4=>?_⟩
  cases kc with
  |true=>
   rw[if_pos rfl]at ev12⊢
   (first|rw[iP]at ev12|rw[fP]at ev12|rw[iQ]at ev12|rw[iR]at ev12|rw[iS]at ev12)
   obtain⟨o3,ev13,ev14⟩:=Res.bind_ok ev12
   (first|rw[iP]at ev13|rw[fP]at ev13|rw[iQ]at ev13|rw[iR]at ev13|rw[iS]at ev13)
   obtain⟨d3,ev15,ev16⟩:=Res.bind_ok ev13
   cases ev16
   cases ev14
   cases ev8
   cases ev4
   refine⟨O,own',e3,d3,F'.grow s4,ev15,λv4 H4 s5 r4 n4=>?_⟩
   refine k v4 H4 ((F'.grow s4).same.trans s5) (r4.weak F.sub) λfr=>?_
   rw[aF,bU]at fr
   exact NewR.of (((n4 fr.1).back (F'.grow s4).same).weak F.sub) fr.2
  |false=>
   rw[if_neg aO]at ev12⊢
   (first|rw[iP]at ev12|rw[fP]at ev12|rw[iQ]at ev12|rw[iR]at ev12|rw[iS]at ev12)
   cases ev12
   have ev8:exS T cf .nil e3=.ok o1:=ev8
   (first|rw[iP]at ev8|rw[fP]at ev8|rw[iQ]at ev8|rw[iR]at ev8|rw[iS]at ev8)
   cases ev8
   exact⟨own',e3,F'.grow s4,λt ht=>((t2 t ht).same s3).same s4,λt ht=>((r2 t ht).same s3).same s4,ev4⟩
 ·have e4:i=ds.length:=by lia
  subst e4
  refine .inl ⟨w2 (aS _),?_⟩
  rw[zQ,aP]at ev2
  cases ev2
  exact k σ2 H2 ⟨O,own2,F2,t2⟩
end
noncomputable def Ends.toQ(K:PySem.W.Frag)(H₀:Hp)(O₀:Addr->Prop)(H:Hp)(O:Addr->Prop)(D':Ends):Out->Prop
 |.nx e'=>∀σ' H' own',Same H H'->Fm K H₀ O₀ H' O own' e' σ'->D'.nx σ' H'
 |.bk e'=>∀σ' H' own',Same H H'->Fm K H₀ O₀ H' O own' e' σ'->D'.bk σ' H'
 |.ct e'=>∀σ' H' own',Same H H'->Fm K H₀ O₀ H' O own' e' σ'->D'.ct σ' H'
 |.rt d fr=>∀v H',Same H₀ H'->RD K H' O₀ d v->(fr=true->NewR K H₀ H' O₀ d v)->D'.rt v H'
 |.rr d a j b k=>∀v H',Same H₀ H'->RD K H' (λc=>O₀ c\/c=a\/c=b) d v->OwnAt K H' (λc=>O₀ c\/c=a\/c=b) a (.dct j)->OwnAt K H' (λc=>O₀ c\/c=a\/c=b) b (.dct k)->D'.rt v H'
theorem uZ{K:PySem.W.Frag}{H₀:Hp}{O₀:Addr->Prop}{H H1:Hp}{O:Addr->Prop}{D':Ends}{out:Out}(s:Same H H1)(h:Ends.toQ K H₀ O₀ H O D' out):Ends.toQ K H₀ O₀ H1 O D' out:=by
 cases out with
 |nx e=>exact λσ' H' own' s' F=>h σ' H' own' (s.trans s') F
 |bk e=>exact λσ' H' own' s' F=>h σ' H' own' (s.trans s') F
 |ct e=>exact λσ' H' own' s' F=>h σ' H' own' (s.trans s') F
 |rt d fr=>exact h
 |rr _ _ _ _ _=>exact h
noncomputable def tQ(T:Tab)(cf:Nat->List D->Res D)(K:PySem.W.Frag)(H₀:Hp)(O₀:Addr->Prop)(x:S):TS:=λD' σ H=>∃O own e out,Fm K H₀ O₀ H O own e σ/\(∀b,O₀ b->O b)/\exS T cf x e=.ok out/\Ends.toQ K H₀ O₀ H O D' out
noncomputable def SQ(T:Tab)(cf:Nat->List D->Res D)(X:Cx)(x:S)(p:Stmt):Prop:=∀H₀ O₀,PS X p (tQ T cf X.K H₀ O₀ x)
noncomputable def SQb(T:Tab)(cf:Nat->List D->Res D)(X:Cx)(x:S)(p:List Stmt):Prop:=∀H₀ O₀,PSs X p (tQ T cf X.K H₀ O₀ x)
section
variable{T:Tab}{cf:Nat->List D->Res D}{X:Cx}{x y z:E}{p q r tg:Expr}{pos pos':Pos}{es:List Expr}{a b c:S}{st:Stmt}{sts:List Stmt}
theorem sq_nil:SQb T cf X .nil []:=λH₀ O₀=>PSs.imp (λD' σ H ⟨O,own,e,out,F,sb,ev,k⟩=>by
 rw[iP]at ev;cases ev
 exact k σ H own (Same.refl H) F) mK
theorem HG(h1:SQ T cf X a st)(h2:SQb T cf X b sts):SQb T cf X (.cons a b) (st::sts):=λH₀ O₀=>by
 refine PSs.imp (λD' σ H hq=>?_) (pD (h1 H₀ O₀) (h2 H₀ O₀))
 obtain⟨O,own,e,out,F,sb,ev,k⟩:=hq
 rw[fP]at ev
 obtain⟨o1,e1,ev⟩:=Res.bind_ok ev
 refine⟨O,own,e,o1,F,sb,e1,?_⟩
 cases o1 with
 |nx e'=>exact λσ' H' own' s' F'=>⟨O,own',e',out,F',sb,ev,uZ s' k⟩
 |rt d fr=>cases ev;exact k
 |rr _ _ _ _ _=>cases ev;exact k
 |bk e'=>cases ev;exact k
 |ct e'=>cases ev;exact k
theorem sq_ret(h:SE T cf X x p):SQ T cf X (.ret x) (.Return (some p) pos):=λH₀ O₀=>by
 refine PS.imp (λD' σ H hq=>?_) (kD (h H₀ O₀))
 obtain⟨O,own,e,out,F,sb,ev,k⟩:=hq
 rw[iQ]at ev
 obtain⟨d,e1,ev⟩:=Res.bind_ok ev
 cases ev
 refine⟨O,own,e,d,F,e1,λv H' s' r n=>k v H' (F.same.trans s') (r.weak F.sub) λfr=>?_⟩
 rw[aF,bU]at fr
 exact NewR.of (((n fr.1).back F.same).weak F.sub) fr.2
theorem sq_asg{g:G}(hx:dH p=true)(ht:kI p=true)(hq:bA tg=true)(h:SE T cf X x p)(hg:SG X g tg):SQ T cf X (.asg g x) (.Assign [tg] p pos):=λH₀ O₀=>by
 refine PS.imp (λD' σ H hq=>?_) (AI (h H₀ O₀) (hg H₀ O₀) (jO hx) (Bj ht) (Bk hq))
 obtain⟨O,own,e,out,F,sb,ev,k⟩:=hq
 rw[nC]at ev
 obtain⟨d,e1,ev⟩:=Res.bind_ok ev
 obtain⟨e2,e3,ev⟩:=Res.bind_ok ev
 cases ev
 exact⟨O,own,e,d,F,e1,λv H' s' r n=>⟨O,own,e,d,e2,F.grow s',r,e3,λσ' own' _ F'=>k σ' H' own' s' F'⟩⟩
theorem sq_exp(hs:swapsWith p none pos.line X.env=pure false)(h:SE T cf X x p):SQ T cf X (.exp x) (.Expr p pos):=λH₀ O₀=>by
 refine PS.imp (λD' σ H hq=>?_) (mL (h H₀ O₀) hs)
 obtain⟨O,own,e,out,F,sb,ev,k⟩:=hq
 rw[Ax]at ev
 obtain⟨d,e1,ev⟩:=Res.bind_ok ev
 cases ev
 exact⟨O,own,e,d,F,e1,λv H' s' r _=>k _ _ own s' (F.grow s')⟩
theorem sq_ite{ps qs:List Stmt}(hc:ST T cf X x p)(ha:SQb T cf X a ps)(hb:SQb T cf X b qs):SQ T cf X (.ite x a b) (.If p ps qs pos):=λH₀ O₀=>by
 refine PS.imp (λD' σ H hq=>?_) (mM (hc H₀ O₀) (ha H₀ O₀) (hb H₀ O₀))
 obtain⟨O,own,e,out,F,sb,ev,k⟩:=hq
 rw[iR]at ev
 obtain⟨d,e1,ev⟩:=Res.bind_ok ev
 obtain⟨c,e2,ev⟩:=Res.bind_ok ev
 refine⟨O,own,e,d,c,F,e1,e2,λH1 s1=>?_⟩
 cases c with
 |true=>rw[if_pos rfl]at ev⊢;exact⟨O,own,e,out,F.grow s1,sb,ev,uZ s1 k⟩
 |false=>rw[if_neg aO]at ev⊢;exact⟨O,own,e,out,F.grow s1,sb,ev,uZ s1 k⟩
theorem HH{g:G}{ps:List Stmt}(hp:PassesOwn (model X.prog X.w) X.A X.env X.xe)(hc:X.calm=true)(hq:bA p=true)(hi:SI T cf X tg x true p)(hg:SG X g tg)(hb:SQb T cf X b ps):SS T cf X (.forS g x b) (.For tg p ps [] pos):=λH₀ O₀=>by
 refine PS.imp (λD' σ H hq=>?_) (tV hp hc (hi H₀ O₀) (hg H₀ O₀) (hb H₀ O₀) (qF hq))
 obtain⟨ts,e,out,⟨O,own,F,tt⟩,ev,k⟩:=hq
 rw[iS]at ev
 obtain⟨ds,e1,ev⟩:=Res.bind_ok ev
 refine⟨O,own,e,ds,F,e1,λJ H1 srs s1 rr rv wk=>?_⟩
 refine⟨λi m σ H=>m=ds.length-i/\i<=ds.length/\∃own' e',Fm X.K H₀ O₀ H O own' e' σ/\(∀t∈ts,PinOk X.K H O t)/\(∀t∈srs,PinR X.K H O t)/\aP (λd e0=>do let e1<-g.put d e0;exS T cf b e1) (ds.drop i) e'=.ok out,⟨ds.length,by simp,eW _,own,e,F.grow s1,λt ht=>(tt t ht).same s1,rr,by simpa using ev⟩,?_⟩
 rintro i m σ2 H2 ⟨rfl,hi',own2,e',F2,t2,r2,ev2⟩
 obtain⟨w1,w2,w3⟩:=wk i H2 O r2
 by_cases hlt:i<ds.length
 ·refine .inr ⟨w1 hlt,λσ' H'=>∃own' e',Fm X.K H₀ O₀ H' O own' e' σ'/\(∀t∈ts,PinOk X.K H' O t)/\(∀t∈srs,PinR X.K H' O t)/\aP (λd e0=>do let e1<-g.put d e0;exS T cf b e1) (ds.drop (i+1)) e'=.ok out,λσ' H' n=>⟨ds.length-(i+1),by lia,rfl,hlt,n⟩,λv H' y=>?_⟩
  obtain⟨s3,r3⟩:=w3 v H' _ (bD hlt) y
  rw[tD hlt,aP]at ev2
  obtain⟨o1,ev3,ev4⟩:=Res.bind_ok ev2
  obtain⟨e3,ev5,ev6⟩:=Res.bind_ok ev3
  refine⟨O,own2,e',_,e3,F2.grow s3,r3,ev5,λσ' own' _ F'=>?_⟩
  refine⟨O,own',e3,o1,F',F.sub,ev6,?_⟩
  cases o1 with
  |nx e4=>exact λσ'' H'' own'' s4 F''=>⟨own'',e4,F'',λt ht=>((t2 t ht).same s3).same s4,λt ht=>((r2 t ht).same s3).same s4,ev4⟩
  |ct e4=>exact λσ'' H'' own'' s4 F''=>⟨own'',e4,F'',λt ht=>((t2 t ht).same s3).same s4,λt ht=>((r2 t ht).same s3).same s4,ev4⟩
  |bk e4=>cases ev4;exact λσ'' H'' own'' s4 F''=>k σ'' H'' ⟨O,own'',F'',λt ht=>((t2 t ht).same s3).same s4⟩
  |rt d fr=>cases ev4;exact k
  |rr _ _ _ _ _=>cases ev4;exact k
 ·have e4:i=ds.length:=by lia
  subst e4
  refine .inl ⟨w2 (aS _),?_⟩
  rw[zQ,aP]at ev2
  cases ev2
  exact k σ2 H2 ⟨O,own2,F2,t2⟩
end
noncomputable def eC(cells:List (Str×Addr)):List (Str×NameKind)->List (Str×Addr)->List (Str×Addr)
 |[],cs=>cs
 |(n,k)::r,cs=>eC cells r (if(k==.free)=true then(match cells.lookup n with|some c=>(n,c)::cs|none=>cs)else cs)
theorem Bl{env:Env}:∀(names:List (Str×NameKind))(cs:List (Str×Addr)),(∀x∈names,x.2=.free->∃c,env.cells.lookup x.1=some c) ->
 (forIn names cs (λ(x:Str×NameKind) (r:List (Str×Addr))=>(if(x.2==.free)=true then(do let c<-cellOf env x.1;pure (ForInStep.yield ((x.1,c)::r)))else pure (ForInStep.yield r):Sem _)))=pure (eC env.cells names cs)
 |[],cs,_=>rfl
 |(n,k)::r,cs,h=>by
  rw[List.forIn_cons]
  have ih:=Bl (env:=env) r
  by_cases hk:(k==NameKind.free)=true
  ·have hk':k=.free:=by simpa using hk
   obtain⟨c,hc⟩:=h (n,k) (bC ..) hk'
   simp only at hc
   simp only[hk,if_true]
   unfold cellOf
   rw[hc]
   show(do let r<-(pure (ForInStep.yield ((n,c)::cs)):Sem _);_)=_
   rw[eC,if_pos hk,hc]
   exact ih _ λx hx=>h x (aR _ hx)
  ·simp only[hk,if_false,mF]
   rw[eC,if_neg hk]
   exact ih _ λx hx=>h x (aR _ hx)
theorem HI{scope:Scope}{env:Env}(h:∀x∈scope.names,x.2=.free->∃c,env.cells.lookup x.1=some c):closureFor scope env=pure (eC env.cells scope.names []):=by
 have:=Bl (env:=env) scope.names [] h
 unfold closureFor
 rw[<-this]
 first|rfl|simp
theorem Bm{cells:List (Str×Addr)}:∀{names:List (Str×NameKind)} {cs:List (Str×Addr)} {n:Str} {c:Addr},(n,c)∈eC cells names cs->(n,c)∈cs\/((n,NameKind.free)∈names/\cells.lookup n=some c)
 |[],_,_,_,h=>.inl h
 |(m,k)::r,cs,n,c,h=>by
  rw[eC]at h
  rcases Bm h with g|⟨h1,h2⟩
  ·clear h
   split at g
   ·rename_i hk
    have hk':k=.free:=by simpa using hk
    subst hk'
    split at g
    ·rename_i c' hc
     rcases aV.mp g with e|g
     ·cases e
      exact .inr ⟨bC ..,hc⟩
     ·exact .inl g
    ·exact .inl g
   ·exact .inl g
  ·exact .inr ⟨aR _ h1,h2⟩
theorem Bo{cells:List (Str×Addr)}:∀{names:List (Str×NameKind)} {cs:List (Str×Addr)} {x:Str×Addr},x∈cs->x∈eC cells names cs
 |[],_,_,h=>h
 |(m,k)::r,cs,x,h=>by
  rw[eC]
  refine Bo ?_
  split
  ·split
   ·exact aR _ h
   ·exact h
  ·exact h
theorem vB{cells:List (Str×Addr)}:∀{names:List (Str×NameKind)} {cs:List (Str×Addr)} {n:Str} {c:Addr},(n,NameKind.free)∈names->cells.lookup n=some c->(n,c)∈eC cells names cs
 |[],_,_,_,h,_=>by cases h
 |(m,k)::r,cs,n,c,h,hc=>by
  rw[eC]
  rcases aV.mp h with e|h
  ·cases e
   refine Bo ?_
   rw[if_pos (by simp),hc]
   exact bC ..
  ·exact vB h hc
theorem Bp{l:List (Str×Addr)}{n:Str}{c:Addr}(h:(n,c)∈l):∃c',l.lookup n=some c':=by
 induction l with
 |nil=>cases h
 |cons x l ih=>
  obtain⟨m,d⟩:=x
  rw[gU]
  by_cases e:(n==m)=true
  ·rw[e];exact⟨d,rfl⟩
  ·have e':(n==m)=false:=by simpa using e
   rw[e']
   rcases aV.mp h with z|z
   ·cases z;simp at e
   ·exact ih z
theorem Bq{env:Env}:∀{names:List (Str×NameKind)} {x:Str},(∀y∈names,y.2≠.cell) ->
 ((names.map λ(n,k)=>if(k==NameKind.free&&env.scope.kind==.function&&env.kindOf n==some .cell)then(n,NameKind.cell)else(n,k)).lookup x=some .cell \/
  (names.map λ(n,k)=>if(k==NameKind.free&&env.scope.kind==.function&&env.kindOf n==some .cell)then(n,NameKind.cell)else(n,k)).lookup x=some .free)->(x,NameKind.free)∈names
 |[],_,_,h=>by rcases h with h|h<;>cases h
 |(n,k)::r,x,hc,h=>by
  have hk:=hc (n,k) (bC ..)
  have ih:=@Bq env r x λy hy=>hc y (aR _ hy)
  rw[aK]at h
  dsimp only at h
  by_cases hx:(x==n)=true
  ·have hx':x=n:=by simpa using hx
   subst hx'
   refine aV.mpr (.inl ?_)
   by_cases z:(k==NameKind.free&&env.scope.kind==.function&&env.kindOf x==some .cell)=true
   ·have:k=.free:=by
     cases k<;>first|rfl|(exact absurd z (by simp))
    rw[this]
   ·rw[if_neg z]at h
    simp only[gU,beq_self_eq_true]at h
    rcases h with h|h
    ·cases h;exact absurd rfl hk
    ·cases h;rfl
  ·have hx':(x==n)=false:=by simpa using hx
   refine aR _ (ih ?_)
   by_cases z:(k==NameKind.free&&env.scope.kind==.function&&env.kindOf n==some .cell)=true
   ·rw[if_pos z]at h
    simpa only[gU,hx']using h
   ·rw[if_neg z]at h
    simpa only[gU,hx']using h
theorem Br{env:Env}:∀{names:List (Str×NameKind)} {x:Str},
 (names.map λ(n,k)=>if(k==NameKind.free&&env.scope.kind==.function&&env.kindOf n==some .cell)then(n,NameKind.cell)else(n,k)).lookup x=some .local->names.lookup x=some .local
 |[],_,h=>by cases h
 |(n,k)::r,x,h=>by
  have ih:=@Br env r x
  rw[aK]at h
  dsimp only at h
  by_cases z:(k==NameKind.free&&env.scope.kind==.function&&env.kindOf n==some .cell)=true
  ·rw[if_pos z]at h
   by_cases hx:(x==n)=true
   ·simp only[gU,hx]at h;cases h
   ·have hx':(x==n)=false:=by simpa using hx
    simp only[gU,hx']at h⊢
    exact ih h
  ·rw[if_neg z]at h
   by_cases hx:(x==n)=true
   ·simp only[gU,hx]at h⊢;exact h
   ·have hx':(x==n)=false:=by simpa using hx
    simp only[gU,hx']at h⊢
    exact ih h
noncomputable def cxC(X:Cx)(scope:Scope)(C:Addr)(Nc:List Str)(s2:Shared)(H2:Hp)(fp:List Addr):Cx where
 prog:=X.prog
 w:=X.w
 K:=X.K
 mg:=X.mg
 base:=X.base
 A:=X.A
 N:=Nc
 s₀:=s2
 H₀:=H2
 env:=compEnvC scope (eC X.env.cells scope.names []) C X.env
 outer:=X.stack
 stack:=X.stack
 ex:=fp
 fn:=λn=>scope.names.lookup n==some .local
 calm:=X.calm
 pn:=[]
 xe:=λ_ _=>False
set_option genInjectivity false in
structure ScopeC(X:Cx)(scope:Scope):Prop where
 kind:scope.kind=.function
 cell:∀y∈scope.names,y.2≠.cell
 names:∀x∈scope.names,x.2=.local->scope.names.lookup x.1=some .local
 nd:∀x∈scope.names,x.2=.free->scope.names.lookup x.1≠some .local
 free:∀x∈scope.names,x.2=.free->X.env.kindOf x.1=some .cell\/X.env.kindOf x.1=some .free
section
variable{X:Cx}{scope:Scope}{C:Addr}{Nc:List Str}{s2:Shared}{H2:Hp}{fp:List Addr}{pins:List (Addr×Obj)}{σ:L2.St}
theorem iW{x:Str}{c:Addr}(h:(eC X.env.cells scope.names []).lookup x=some c):(x,NameKind.free)∈scope.names/\X.env.cells.lookup x=some c:=by
 rcases Bm (PySem.mem_of_lookup h)with z|z
 ·cases z
 ·exact z
theorem ScopeC.cells(S:ScopeC X scope)(ok:X.Ok):∀x∈scope.names,x.2=.free->∃c,X.env.cells.lookup x.1=some c:=λx hx hf=>ok.has x.1 (S.free x hx hf)
theorem cxC_ok(I:Inv X pins σ H2 s2)(S:ScopeC X scope)(hfp:∀b∈fp,gG X pins H2 b)(hfo:∀b∈fp,b<s2.heap.objs.size)(hC:s2.heap.objs.size<=C):(cxC X scope C Nc s2 H2 fp).Ok where
 mod:=I.ok.mod
 kind:=S.kind
 glob:=I.ok.glob
 blt:=I.ok.blt
 above:=hC
 inj:=λx y c h1 h2=>I.ok.inj x y c (iW h1).2 (iW h2).2
 has:=λx h=>by
  have hf:=Bq (env:=X.env) S.cell h
  obtain⟨c,hc⟩:=S.cells I.ok (x,.free) hf rfl
  exact Bp (vB hf hc)
 cab:=λx c h1 h2=>by
  have h1':scope.names.lookup x=some .local:=by simpa[cxC]using h1
  exact absurd h1' (S.nd (x,.free) (iW h2).1 rfl)
 hd:=I.ok.hd
 frames:=I.ok.frames
 stk:=.inl rfl
 exf:=λb hb=>⟨bI (cU (hfo b hb) hC),λx c h=>(hfp b hb).2.2.2.2.1 x c (iW h).2⟩
 bs:=I.bs
 bsz:=bX I.ok.bsz I.sz
 noex:=λb o e hb=>by
  rcases(hfp b hb).2.2.2.1 with z|z
  ·exact I.ok.noex b o e z
  ·exact absurd (cU (Heap.lt_size e) (bX I.ok.bsz z)) (kR _)
 exfs:=λb hb z=>by
  rcases aV.mp (I.stkSub b z)with z|z
  ·exact(hfp b hb).2.1 z
  ·exact(hfp b hb).2.2.1 z
 funs:=I.stack
 frf:=I.stkFree
noncomputable def stC(own:Nat)(caps:List Nat)(σ:L2.St):L2.St:=aU own none++caps.map λi=>bY σ i
set_option genInjectivity false in
structure CapsOk(X:Cx)(scope:Scope)(own:Nat)(caps:List Nat)(Nc:List Str):Prop where
 len:Nc.length=own+caps.length
 nd:caps.Nodup
 cap:∀j i,caps[j]?=some i->∃n,X.N[i]?=some n/\Nc[own+j]?=some n/\(n,NameKind.free)∈scope.names
theorem HJ{own:Nat}{caps:List Nat}{j:Nat}{v:V}(h:(stC own caps σ)[j]?=some (some v)):∃k i,j=own+k/\caps[k]?=some i/\bY σ i=some v:=by
 unfold stC at h
 by_cases hj:j<own
 ·rw[kU (by rw[dX];exact hj),lY,if_pos hj]at h
  cases h
 ·rw[gD (by rw[dX];lia),dX,bT]at h
  cases e:caps[j-own]? with
  |none=>rw[e]at h;cases h
  |some i=>
   rw[e]at h
   exact⟨j-own,i,by lia,e,fJ.inj h⟩
theorem vis_of(I:Inv X pins σ H2 s2)(S:ScopeC X scope){n:Str}(h:(n,NameKind.free)∈scope.names):Vis X.env.scope n:=by
 rcases S.free _ h rfl with z|z
 ·exact .inr (.inl z)
 ·exact .inr (.inr z)
theorem invC{own:Nat}{caps:List Nat}{h1:Heap}{t1:Nat}(I:Inv X pins σ H2 s2)(S:ScopeC X scope)(P:CapsOk X scope own caps Nc)(ok:(cxC X scope C Nc s2 H2 fp).Ok)
 (keep:∀b o,s2.heap.get? b=some o->h1.get? b=some o) (hC:s2.heap.objs.size<C) (ns:h1.Ns C λ_=>none) (acc:h1.get? s2.heap.objs.size=some {cls:=.type "list", data:=.seq #[] }) :
 Inv (cxC X scope C Nc s2 H2 fp) [] (stC own caps σ) (upd H2 s2.heap.objs.size (.lst [])) {s2 with heap:=h1,toks:=t1}:=by
 have fr:H2 s2.heap.objs.size=none:=I.hok.fresh (aS _)
 have cellK:∀x c v,X.env.cells.lookup x=some c->s2.heap.IsCell c v->h1.IsCell c v:=λx c v _ ⟨o,ho,hd⟩=>⟨o,keep c o ho,hd⟩
 refine⟨ok,rfl,I.bare,Un.laid keep (aS _) fr,⟨_,ns,λi x v e1 e2 e3=>?_⟩,λx c h=>?_,?_,λx c h=>?_,λp hp=>absurd hp (by simp[cxC]),I.hok.laid keep (aS _) ?_,?_⟩
 ·obtain⟨k,i',rfl,hk,hv⟩:=HJ e2
  obtain⟨n,hn1,hn2,hn3⟩:=P.cap k i' hk
  have e1':Nc[own+k]?=some x:=e1
  rw[hn2]at e1';cases e1'
  obtain⟨m,hm,hl⟩:=I.loc
  obtain⟨u,ru,lk⟩:=hl i' _ v hn1 (eA hv) (vis_of I S hn3)
  refine⟨u,ru,?_⟩
  rcases lk with⟨kl,_⟩|⟨_,c,hc,hcell⟩
  ·rcases S.free _ hn3 rfl with z|z
   ·rw[kl]at z;cases z
   ·rw[kl]at z;cases z
  ·refine .inr ⟨?_,?_⟩
   ·rcases e3 with z|z
    ·exact absurd (Br (env:=X.env) z) (S.nd _ hn3 rfl)
    ·exact z
   ·obtain⟨c',hc'⟩:=Bp (vB (cs:=[]) hn3 hc)
    have:=(iW hc').2
    rw[hc]at this;cases this
    exact⟨c,hc',cellK _ c _ hc hcell⟩
 ·obtain⟨v,z⟩:=I.cell x c (iW h).2
  exact⟨v,cellK x c v (iW h).2 z⟩
 ·show upd H2 s2.heap.objs.size (.lst []) C=none
  rw[aH (kT hC)]
  exact I.hok.fresh (jF hC)
 ·obtain⟨v,z⟩:=I.cell x c (iW h).2
  rw[aH (bI z.lt)]
  exact I.freeC x c (iW h).2
 ·exact⟨eW _,[],0,.nil,acc⟩
 ·show(stC own caps σ).length=Nc.length
  unfold stC
  rw[cD,dX,aE,P.len]
theorem Un.but{fs ex:List Addr}{H H':Hp}{h h1 h2:Heap}{C:Addr}(u:Un fs ex H H' h h1)(hC:h.objs.size<=C)(s:Heap.SameBut C h1 h2):Un fs ex H H' h h2 where
 keep:=λb o e n hb hx=>(s.2 b (bI (cU (Heap.lt_size e) hC))).trans (u.keep b o e n hb hx)
 slot:=λb o e n hb hx=>let ⟨sl,q⟩:=u.slot b o e n hb hx;⟨sl,(s.2 b (bI (cU (Heap.lt_size e) hC))).trans q⟩
 free:=u.free
 there:=λb o e hx=>let ⟨o',q⟩:=u.there b o e hx;⟨o',(s.2 b (bI (cU (Heap.lt_size e) hC))).trans q⟩
 tups:=u.tups
 frzs:=u.frzs
 tbls:=u.tbls
theorem HOk.but{P:Program}{w:World}{H:Hp}{h1 h2:Heap}{C:Addr}(x:HOk P w H h1)(hC:H C=none)(s:Heap.SameBut C h1 h2):HOk P w H h2:=λb ob e=>by
 refine(x b ob e).stay (λc w' hc q=>(s.2 c ?_).trans q) (λ_ q=>q) (λ_ _ q=>q) λ_ _ _ q=>q
 rintro rfl
 rcases hc with rfl|hc
 ·rw[hC]at e;cases e
 ·rw[hC]at hc;cases hc
theorem outC{σi:L2.St}{Hi:Hp}{s':Shared}{h':Heap}(I:Inv X pins σ H2 s2)(Ic:Inv (cxC X scope C Nc s2 H2 fp) [] σi Hi s')(hfp:∀b∈fp,gG X pins H2 b)(hC:s2.heap.objs.size<=C)(sb:Heap.SameBut C s'.heap h'):Inv X pins σ Hi {s' with heap:=h' }:=by
 refine I.call' (s':={s' with heap:=h' }) (ch:=fp) Ic.os ?_ ?_ Ic.bare λb hb=>?_
 ·exact Un.but (show Un (frs X.stack) fp H2 Hi s2.heap s'.heap from Ic.base) hC sb
 ·exact HOk.but (show HOk X.prog X.w Hi s'.heap from Ic.hok) (show Hi C=none from Ic.free) sb
 ·obtain⟨_,a1,_,a3,a4,a5⟩:=hfp b hb
  exact⟨a3,a1,a4,a5⟩
end
section
variable{prog:Program}{w:World}{A:Around}{R:Result->Shared->Prop}{s:Shared}
theorem HK{elt target iter:Expr}{ifs:List Expr}{scope:Scope}{pos:Pos}{it acc:Value}{env:Env}(I:Nat->Shared->Prop)
 (turn:∀n s,I n s->wpAny (model prog w) A (pyNext it) (λr s₁=>match r with
  |none=>R (.ok .next) s₁
  |some v=>wpAny (model prog w) A (letOwnedTupleGo target it v) (λ_ s₀=>wpAny (model prog w) A (assign target env v) (λ_ s₂=>
   wpAny (model prog w) A (forIn ifs true λc r=>if r=true then do let ok<-isTrue c env (eval c env);pure (ForInStep.yield ok)else pure (ForInStep.yield r)) (λok s₃=>
    if ok=true then wpAny (model prog w) A (eval elt env) (λx s₄=>
     wpAny (model prog w) A (call (.builtin "list.append") [acc,x]) (λ_ s₅=>∃m,m<n/\I m s₅) (λ_ _=>False) s₄) (λ_ _=>False) s₃
    else ∃m,m<n/\I m s₃) (λ_ _=>False) s₂) (λ_ _=>False) s₀) (λ_ _=>False) s₁) (λ_ _=>False) s)
 (n:Nat) (h:I n s) :
 codeAny (model prog w) A (.compLoop (.ListComp elt [⟨target,iter,ifs,0⟩] scope pos) 0 it acc env) R s:=by
 refine codeAny_loop rfl I (λn s hI=>?_) n h
 show wpAny _ A ((compTurn (.ListComp elt [⟨target,iter,ifs,0⟩] scope pos) 0 it acc env).onRaise (λx=>do noteFrame x env;theTreesLotGoes x)) _ _ s
 refine wpAny_noted ?_
 rw[compTurn_list]
 refine wpAny_bind (wpAny_standAt (wpAny_bind (wpAny_mono (turn n s hI) (λr s₁ h₁=>?_) λ_ _ h'=>h'.elim)))
 cases r with
 |none=>exact wpAny_pure h₁
 |some v=>
  refine wpAny_bind (wpAny_mono h₁ (λ_ s₀ h₀=>?_) λ_ _ h'=>h'.elim)
  refine wpAny_bind (wpAny_mono h₀ (λ_ s₂ h₂=>wpAny_bind (wpAny_mono h₂ (λok s₃ h₃=>?_) λ_ _ h'=>h'.elim)) λ_ _ h'=>h'.elim)
  cases ok with
  |false=>exact wpAny_pure ⟨rfl,h₃⟩
  |true=>
   exact wpAny_bind (wpAny_bind (wpAny_mono h₃ (λx s₄ h₄=>wpAny_bind (wpAny_mono h₄ (λ_ s₅ h₅=>wpAny_pure (wpAny_pure ⟨rfl,h₅⟩)) λ_ _ h'=>h'.elim)) λ_ _ h'=>h'.elim))
end
section
variable{K:PySem.W.Frag}{H₀ H H':Hp}{O₀ O O':Addr->Prop}{own:Nat->Option Addr}{e e':Nv}{σ:L2.St}
theorem Fm.updO(F:Fm K H₀ O₀ H O own e σ){p:Addr}{ys zs:List V}(hO:O p)(hp:H p=some (.lst ys))(h0:H₀ p=none)(hn:∀j,own j≠some p):Fm K H₀ O₀ (upd H p (.lst zs)) O own e σ where
 len:=F.len
 sl:=λj=>RS.map (λq=>q.upd hO hp) (λq=>q.upd hO hp) (λq=>q.updM hO hp trivial) (λq=>q.updM hO hp trivial) (λa ys ea _ q=>by
  have:a≠p:=λz=>hn j (z▸ea)
  rw[aH this];exact q) (F.sl j) (pU hO) (dQ (K:=K) hO hp trivial).1
 inj:=F.inj
 same:=λb o hb=>by rw[aH (λz=>by rw[z,h0]at hb;cases hb)];exact F.same b o hb
 sub:=F.sub
 trk0:=F.trk0
 trk:=λa ha=>by
  by_cases h:a=p
  ·subst h;exact⟨_,bM⟩
  ·obtain⟨ys,q⟩:=F.trk a ha
   exact⟨ys,by rw[aH h];exact q⟩
 new:=F.new
 nw:=F.nw
theorem Fm.back(F:Fm K H₀ O₀ H O own e σ)(hl:e'.length=e.length)(h:∀j,e'.at j=.no\/e'.at j=e.at j):Fm K H₀ O₀ H O own e' σ where
 len:=hl.trans F.len
 sl:=λj=>by
  rcases h j with z|z
  ·rw[z];trivial
  ·rw[z];exact F.sl j
 inj:=F.inj
 same:=F.same
 sub:=F.sub
 trk0:=F.trk0
 trk:=F.trk
 new:=F.new
 nw:=λj d a h1 h2=>by
  rcases h j with z|z
  ·rw[z]at h1;cases h1
  ·rw[z]at h1;exact F.nw j d a h1 h2
theorem vE{n:Nat}{caps:List Nat}{e:Nv}(j:Nat):(aX n caps e).at j=.no\/∃k i,j=n+k/\caps[k]?=some i/\(aX n caps e).at j=e.at i:=by
 unfold aX
 by_cases hj:j<n
 ·left
  unfold Nv.at
  rw[kU (by rw[dX];exact hj),lY,if_pos hj];rfl
 ·cases q:caps[j-n]? with
  |none=>
   left
   unfold Nv.at
   rw[gD (by rw[dX];lia),dX,bT,q];rfl
  |some i=>
   right
   refine⟨j-n,i,by lia,q,?_⟩
   show(((aU n Sl.no++caps.map λi=>e.at i))[j]?).getD .no=_
   rw[gD (by rw[dX];lia),dX,bT,q];rfl
theorem HL{l:List Nat}(h:l.Nodup){j k i:Nat}(h1:l[j]?=some i)(h2:l[k]?=some i):j=k:=by
 obtain⟨a,e1⟩:=gC.mp h1
 obtain⟨b,e2⟩:=gC.mp h2
 exact(Ky h).mp (e1.trans e2.symm)
theorem Fm.comp(F:Fm K H₀ O₀ H O own e σ)(n:Nat){caps:List Nat}(hc:caps.Nodup){p:Addr}(hp:H p=none){xs:List V} :
 ∃own',Fm K H₀ O₀ (upd H p (.lst xs)) (cX O p) own' (aX n caps e) (stC n caps σ)/\∀j,own' j≠some p:=by
 have np:∀j,own j≠some p:=λj q=>by
  obtain⟨ys,w⟩:=F.trk p (F.new j p q).1
  rw[hp]at w;cases w
 have sm:=cG hp (.lst xs)
 refine⟨λj=>if j<n then none else(caps[j-n]?).bind own,⟨?_,λj=>?_,λj k a h1 h2=>?_,F.same.trans sm,λa h=>.inl (F.sub a h),F.trk0,λa h=>?_,λj a h1=>?_,λj d a h1 h2=>?_⟩,λj h1=>?_⟩
 ·unfold aX stC
  simp
 ·rcases vE (n:=n) (caps:=caps) (e:=e) j with z|⟨k,i,rfl,hk,z⟩
  ·rw[z];trivial
  ·rw[z,if_neg (by lia),show n+k-n=k by lia,hk]
   have e1:bY (stC n caps σ) (n+k)=bY σ i:=by
    unfold stC
    unfold bY
    rw[gD (by rw[dX];lia),dX,bT,show n+k-n=k by lia,hk]
    rfl
   rw[e1]
   exact RS.map (λq=>(q.new hp).same sm) (λq=>(q.new hp).same sm) (λq=>(q.new hp).same sm) (λq=>(q.new hp).same sm) (λa ys _ _ q=>sm _ _ q) (F.sl i) (BM hp sm)
 ·by_cases hj:j<n
  ·rw[if_pos hj]at h1;cases h1
  ·by_cases hk:k<n
   ·rw[if_pos hk]at h2;cases h2
   ·rw[if_neg hj]at h1
    rw[if_neg hk]at h2
    cases q1:caps[j-n]? with
    |none=>rw[q1]at h1;cases h1
    |some i1=>
     cases q2:caps[k-n]? with
     |none=>rw[q2]at h2;cases h2
     |some i2=>
      rw[q1]at h1
      rw[q2]at h2
      have:=F.inj i1 i2 a h1 h2
      subst this
      have:=HL hc q1 q2
      lia
 ·rcases h with h|h
  ·obtain⟨ys,q⟩:=F.trk a h
   exact⟨ys,sm _ _ q⟩
  ·subst h;exact⟨_,bM⟩
 ·by_cases hj:j<n
  ·rw[if_pos hj]at h1;cases h1
  ·rw[if_neg hj]at h1
   cases q1:caps[j-n]? with
   |none=>rw[q1]at h1;cases h1
   |some i1=>
    rw[q1]at h1
    exact⟨.inl (F.new i1 a h1).1,(F.new i1 a h1).2⟩
 ·rcases vE (n:=n) (caps:=caps) (e:=e) j with z|⟨k,i,rfl,hk,z⟩
  ·rw[z]at h1;cases h1
  ·rw[z]at h1
   refine F.nw i d a h1 ?_
   rw[<-h2]
   unfold stC
   unfold bY
   rw[gD (by rw[dX];lia),dX,bT,show n+k-n=k by lia,hk]
   rfl
 ·dsimp only at h1
  by_cases hj:j<n
  ·rw[if_pos hj]at h1;cases h1
  ·rw[if_neg hj]at h1
   cases q1:caps[j-n]? with
   |none=>rw[q1]at h1;cases h1
   |some i1=>
    rw[q1]at h1
    exact np i1 h1
noncomputable def G.below(n:Nat):G->Bool
 |.one i=>decide (i<n)
 |.many is=>is.all λi=>decide (i<n)
theorem Bs{n:Nat}:∀{is:List Nat} {ds:List D} {e e':Nv},(is.all λi=>decide (i<n))=true->cS is ds e=.ok e'->e'.length=e.length/\∀j,n<=j->e'.at j=e.at j
 |[],[],e,e',_,h=>by rw[cS]at h;cases h;exact⟨rfl,λ_ _=>rfl⟩
 |[],_::_,_,_,_,h=>by simp only[cS]at h;cases h
 |_::_,[],_,_,_,h=>by simp only[cS]at h;cases h
 |i::is,d::ds,e,e',hb,h=>by
  rw[cS]at h
  rw[pA,aF]at hb
  obtain⟨h1,h2⟩:=Bs hb.2 h
  have hi:=of_decide_eq_true hb.1
  exact⟨by rw[h1,dY],λj hj=>by rw[h2 j hj,eY (by lia)]⟩
theorem HM{n:Nat}{g:G}{d:D}{e e':Nv}(hb:g.below n=true)(h:g.put d e=.ok e'):e'.length=e.length/\∀j,n<=j->e'.at j=e.at j:=by
 cases g with
 |one i=>
  have h:Res.ok (e.set i (.v d))=.ok e':=h
  cases h
  have hi:i<n:=of_decide_eq_true hb
  exact⟨dY,λj hj=>eY (by lia)⟩
 |many is=>
  cases d with
  |tup ds=>exact Bs hb h
  |non=>cases h
  |bl _=>cases h
  |int _=>cases h
  |str _=>cases h
  |lst _=>cases h
  |dct _=>cases h
  |tdc _=>cases h
end
section
variable{T:Tab}{cf:Nat->List D->Res D}{X:Cx}{x y z:E}{p q r tg iter:Expr}{pos:Pos}
noncomputable def Src(K:PySem.W.Frag)(H:Hp)(O:Addr->Prop)(p:Addr)(d:D)(v:V):Prop:=RD K H O d v\/∃a,v=.ref a/\a≠p/\OwnAt K H O a d
theorem Src.rr{K:PySem.W.Frag}{H:Hp}{O:Addr->Prop}{p:Addr}{d:D}{v:V}(h:Src K H O p d v):RR K H O d v:=by
 rcases h with z|⟨al,z1,z2,z3⟩
 ·exact .inl z
 ·exact .inr ⟨al,z1,z3⟩
theorem Src.same{K:PySem.W.Frag}{H H':Hp}{O:Addr->Prop}{p:Addr}{d:D}{v:V}(h:Src K H O p d v)(s:Same H H'):Src K H' O p d v:=by
 rcases h with z|⟨al,z1,z2,z3⟩
 ·exact .inl (z.same s)
 ·exact .inr ⟨al,z1,z2,z3.same s⟩
theorem Src.upd{K:PySem.W.Frag}{H:Hp}{O:Addr->Prop}{p:Addr}{d:D}{v:V}{ys zs:List V}(h:Src K H O p d v)(hO:O p)(hp:H p=some (.lst ys)):Src K (L2.upd H p (.lst zs)) O p d v:=by
 rcases h with z|⟨al,z1,z2,z3⟩
 ·exact .inl (z.upd hO hp)
 ·exact .inr ⟨al,z1,z2,z3.updM hO hp trivial z2⟩
noncomputable def PinS(K:PySem.W.Frag)(H:Hp)(O:Addr->Prop)(p:Addr):Pin->Prop
 |.dv d v=>Src K H O p d v
 |.fr a o u=>H a=some (.frz o u)
theorem PinS.rr{K:PySem.W.Frag}{H:Hp}{O:Addr->Prop}{p:Addr}{t:Pin}(h:PinS K H O p t):PinR K H O t:=by
 cases t with
 |dv d v=>exact Src.rr h
 |fr a o u=>exact h
theorem PinS.same{K:PySem.W.Frag}{H H':Hp}{O:Addr->Prop}{p:Addr}{t:Pin}(h:PinS K H O p t)(s:Same H H'):PinS K H' O p t:=by
 cases t with
 |dv d v=>exact Src.same h s
 |fr a o u=>exact s _ _ h
theorem PinS.upd{K:PySem.W.Frag}{H:Hp}{O:Addr->Prop}{p:Addr}{t:Pin}{ys zs:List V}(h:PinS K H O p t)(hO:O p)(hp:H p=some (.lst ys)):PinS K (L2.upd H p (.lst zs)) O p t:=by
 cases t with
 |dv d v=>exact Src.upd h hO hp
 |fr a o u=>
  have h:H a=some (.frz o u):=h
  show L2.upd H p (.lst zs) a=some (.frz o u)
  rw[aH (pC h hp (by intro z;cases z))];exact h
noncomputable def nS(ifs:List Expr)(cond:E)(P:Expr->Prop):Prop:=(ifs=[]/\cond=.con (.bl true))\/∃c,ifs=[c]/\P c
theorem Bu{n:Nat}{caps:List Nat}{g:G}{elt src cond:E}{pe:Expr}{ifs:List Expr}{scope:Scope}{Nc:List Str}(hc:X.calm=true)(S:ScopeC X scope)(P:CapsOk X scope n caps Nc)(hb:g.below n=true)
 (hplain:bA iter=true) (hsrc:SI T cf X tg src true iter)
 (body:∀C s2 H2 fp,(cxC X scope C Nc s2 H2 fp).Ok->SG (cxC X scope C Nc s2 H2 fp) g tg/\SE T cf (cxC X scope C Nc s2 H2 fp) elt pe/\nS ifs cond (ST T cf (cxC X scope C Nc s2 H2 fp) cond))
 {use:Option (Value->Sem Unit)} {H₀:Hp} {O₀:Addr->Prop} {pins:List (Addr×Obj)} {s:Shared} {σ:L2.St} {H:Hp} {O:Addr->Prop} {own:Nat->Option Addr} {e:Nv} {d:D} {Q:Value->Shared->Prop} (I:Inv X pins σ H s) (F:Fm X.K H₀ O₀ H O own e σ)
 (ev:evE T cf (.comp n caps g elt src cond) e=.ok d)
 (fin:∀C s2 H2 Hi s' a,Inv X pins σ H2 s2->Same H H2->s2.heap.objs.size<C->(∀h',Heap.SameBut C s'.heap h'->Inv X pins σ Hi {s' with heap:=h' })->(∃m,s'.heap.Ns C m)->Hi C=none->Same H Hi->Fm X.K H₀ O₀ Hi O own e σ->RD X.K Hi O d (.ref a)->NewL X.K H Hi O d (.ref a)->a≠C ->
  compPost (model X.prog X.w) X.A X.xe use Q (.ref a) C (.ok .next) s') :
 wpAny (model X.prog X.w) X.A (comprehension (.ListComp pe [⟨tg,iter,ifs,0⟩] scope pos) scope X.env (firstIterPos [⟨tg,iter,ifs,0⟩] pos) (newList []) false (eval iter X.env) use) Q X.xe s:=by
 (first|rw[uK]at ev|rw[nB]at ev|rw[Ao]at ev)
 obtain⟨ds,e1,ev⟩:=Res.bind_ok ev
 obtain⟨ys,e2,ev⟩:=Res.bind_ok ev
 obtain⟨cz,ev⟩:=aZ ev
 cases ev
 have hz:=of_decide_eq_true cz
 refine wpAny_comprehension_free rfl (qF hplain) (HI (S.cells I.ok)) S.kind S.names ?_
 refine thn (hsrc H₀ O₀ pins s σ H (λJ H2=>∃srs,Same H H2/\(∀t∈srs,PinR X.K H2 O t)/\Wk X.K J srs ds) I ⟨O,own,e,ds,F,e1,λJ H' srs s' rr _ wk=>⟨srs,s',rr,wk⟩⟩) λv s1 h1=>thn h1 λitv s2 h2=>?_
 obtain⟨it,fp,tn,J,H2,rfl,I2,Tn,tn0,hfp,srs,s12,rr0,wk⟩:=h2
 refine wpAny_newObj_type (wpAny_newFunctionEnv S.cell (by intro y hy;simp at hy) (λh₁ hns₁ hsb₁=>?_) S.kind)
 dsimp only at hns₁ hsb₁⊢
 generalize hH2:s2.heap.push {cls:=.type "list", dict:=none,data:=.seq ([]:List Value).toArray}=HP at hns₁ hsb₁⊢
 have hC:HP.objs.size=s2.heap.objs.size+1:=by rw[<-hH2,Heap.size_push]
 have hCl:s2.heap.objs.size<HP.objs.size:=by rw[hC];exact LK _
 have below:∀b,b<s2.heap.objs.size->b≠HP.objs.size:=λb hb=>by rw[hC];exact bI (tH hb)
 have old:∀b o,s2.heap.get? b=some o->h₁.get? b=some o:=λb o e=>hsb₁.extBut b o (below b (Heap.lt_size e)) (Heap.get?_push_of_some _ (hH2▸Heap.get?_push_of_some _ e))
 have hacc:h₁.get? s2.heap.objs.size=some {cls:=.type "list", data:=.seq #[] }:=hsb₁.extBut _ _ (bI hCl) (Heap.get?_push_of_some _ (hH2▸Heap.get?_push_size _ rfl))
 have hfo:∀b∈fp,b<s2.heap.objs.size:=λb hb=>let ⟨o,q,_⟩:=Tn.obj 0 _ tn0 b hb;Heap.lt_size q
 have ok:=cxC_ok (Nc:=Nc) I2 S hfp hfo (jF hCl)
 have fr:H2 s2.heap.objs.size=none:=I2.hok.fresh (aS _)
 have F2:=F.grow s12
 obtain⟨ownc,Fc,nown⟩:=F2.comp n (caps:=caps) P.nd fr (xs:=[])
 obtain⟨bg,be,bt⟩:=body HP.objs.size s2 H2 fp ok
 have I0:=invC (t1:=s2.toks+([]:List (Str×Value)).length) (fp:=fp) I2 S P ok old hCl (by simpa using hns₁) hacc
 have fpn:∀{Hi:Hp} {pins':List (Addr×Obj)},(∀b∈fp,Hi b=none)->(∀b∈fp,∀p∈pins',p.1≠b)->∀b∈fp,gG (cxC X scope HP.objs.size Nc s2 H2 fp) pins' Hi b:=λhn hpp b hb=>by
  refine⟨hn b hb,(ok.exf b hb).1,ok.exfs b hb,.inl hb,(ok.exf b hb).2,λp hp=>hpp b hb p (by simpa[cxC]using hp)⟩
 let f : D → Res (Option D) := fun d => do
     let e1<-g.put d (aX n caps e)
     let c<-evE T cf cond e1
     let k<-c.truth
     if k then do let y<-evE T cf elt e1;.ok (some y)else .ok none
 have loop:∀s₃:Shared,s₃={s2 with heap:=h₁,toks:=s2.toks+([]:List (Str×Value)).length} ->
  codeAny (model X.prog X.w) X.A (.compLoop (.ListComp pe [⟨tg,iter,ifs,0⟩] scope pos) 0 (.ref it) (.ref s2.heap.objs.size) (compEnvC scope (eC X.env.cells scope.names []) HP.objs.size X.env))
   (compPost (model X.prog X.w) X.A X.xe use Q (.ref s2.heap.objs.size) HP.objs.size) s₃:=by
  rintro s₃ rfl
  refine HK (λk s'=>∃i σi Hi own' as bs,k=ds.length+1-i/\i<=ds.length/\Inv (cxC X scope HP.objs.size Nc s2 H2 fp) [] σi Hi s'/\tn i s'.heap/\(∀b∈fp,Hi b=none)/\Same H2 Hi /\
   Fm X.K H₀ O₀ Hi (cX O s2.heap.objs.size) own' (aX n caps e) σi/\(∀j,own' j≠some s2.heap.objs.size)/\aY f (ds.drop i)=.ok bs/\ys=as++bs/\as.length<=i /\
   (∃xs,Hi s2.heap.objs.size=some (.lst xs)/\RDs X.K Hi (cX O s2.heap.objs.size) as xs)/\∀t∈srs,PinS X.K Hi (cX O s2.heap.objs.size) s2.heap.objs.size t) ?_ (ds.length+1) ?_
  ·rintro k s' ⟨i,σi,Hi,own',as,bs,rfl,hi,Ii,tni,fri,smi,Fi,noi,evd,rfl,hal,⟨xs,hx,wx⟩,rri⟩
   have stat:∀b∈fp,gG (cxC X scope HP.objs.size Nc s2 H2 fp) [] Hi b:=fpn fri (λb _ p hp=>by cases hp)
   obtain⟨w1,w2,w3⟩:=wk i Hi (cX O s2.heap.objs.size) λt ht=>(rri t ht).rr
   by_cases hlt:i<ds.length
   ·refine thn (Tn.item (cxC X scope HP.objs.size Nc s2 H2 fp) rfl rfl rfl hc i [] s' σi Hi (λ_ _=>False) Ii stat tni (w1 hlt)) λr s4 ⟨u,hr,h4⟩=>?_
    subst hr
    refine thn h4 λ_ s5 ⟨v,H5,I5,r5,y5,tn5,fr5⟩=>?_
    obtain⟨s35,rv⟩:=w3 v H5 _ (bD hlt) y5
    have I5':=I5.pinned (fpn fr5 (λb _ p hp=>by cases hp)) (Tn.obj _ _ tn5)
    rw[tD hlt,aY]at evd
    obtain⟨o,ef,evd⟩:=Res.bind_ok evd
    obtain⟨b',eb,evd⟩:=Res.bind_ok evd
    obtain⟨e3,ep,ef⟩:=Res.bind_ok ef
    obtain⟨dc,ec,ef⟩:=Res.bind_ok ef
    obtain⟨kc,et,ef⟩:=Res.bind_ok ef
    have F5:=Fi.grow s35
    refine thn (bg H₀ O₀ _ s5 σi H5 v u (λσ' H'=>H'=H5/\∃own'',Fm X.K H₀ O₀ H5 (cX O s2.heap.objs.size) own'' e3 σ'/\∀j,own'' j≠some s2.heap.objs.size) I5' r5 ⟨_,own',_,_,e3,F5,rv,ep,λσ' own'' hle F'=>⟨rfl,own'',F',λj q=>noi j (hle j _ q)⟩⟩) λ_ s6 ⟨σ6,H6,I6,q6⟩=>?_
    obtain⟨rfl,own6,F6,no6⟩:=q6
    have tests:wpAny (model X.prog X.w) X.A (forIn ifs true λc r=>if r=true then do let ok<-isTrue c (compEnvC scope (eC X.env.cells scope.names []) HP.objs.size X.env) (eval c (compEnvC scope (eC X.env.cells scope.names []) HP.objs.size X.env));pure (ForInStep.yield ok)else pure (ForInStep.yield r))
     (λok s7=>ok=kc/\∃H7,Inv (cxC X scope HP.objs.size Nc s2 H2 fp) ([]++lA fp s5.heap) σ6 H7 s7/\Same H6 H7) (λ_ _=>False) s6:=by
     rcases bt with⟨hi0,hc0⟩|⟨c0,hi0,st0⟩
     ·subst hi0 hc0
      (first|rw[uK]at ec|rw[nB]at ec|rw[Ao]at ec);cases ec;cases et
      exact wpAny_tests_nil ⟨rfl,H6,I6,Same.refl _⟩
     ·subst hi0
      refine wpAny_tests_one (thn (st0 H₀ O₀ _ s6 σ6 H6 (λb H'=>b=kc/\Same H6 H') I6 ⟨_,own6,e3,dc,kc,F6,ec,et,λH' s=>⟨rfl,s⟩⟩) λb s7 ⟨H7,I7,q1,q2⟩=>⟨q1,H7,I7,q2⟩)
    refine thn tests λok s7 ⟨hok,H7,I7,s57⟩=>?_
    subst hok
    have F7:=F6.grow s57
    obtain⟨pl1,pl2⟩:=HM hb ep
    have bk:∀j,(aX n caps e).at j=.no\/(aX n caps e).at j=e3.at j:=λj=>by
     by_cases hj:n<=j
     ·exact .inr (pl2 j hj).symm
     ·rcases vE (n:=n) (caps:=caps) (e:=e) j with z|⟨k,i,rfl,_,_⟩
      ·exact .inl z
      ·exact absurd (zR n k) hj
    have keepT:∀{H8:Hp} {s8:Shared} {σ8:L2.St},Inv (cxC X scope HP.objs.size Nc s2 H2 fp) ([]++lA fp s5.heap) σ8 H8 s8->tn (i+1) s8.heap/\∀b∈fp,H8 b=none:=λI8=>
     ⟨Tn.keep _ _ _ tn5 λb hb o q=>(I8.pin (b,o) (cR _ (cR _ (pE hb q)))).1,λb hb=>by
      obtain⟨o,q,_⟩:=Tn.obj _ _ tn5 b hb
      exact(I8.pin (b,o) (cR _ (cR _ (pE hb q)))).2.1⟩
    cases ok with
    |false=>
     rw[if_neg aO]at ef⊢
     cases ef
     cases evd
     obtain⟨t1,t2⟩:=keepT I7
     exact⟨ds.length+1-(i+1),by lia,i+1,σ6,H7,own6,as,bs,rfl,hlt,I7.unpinned,t1,t2,smi.trans (s35.trans s57),F7.back pl1.symm bk,no6,eb,rfl,Nat.le_succ_of_le hal,⟨xs,s57 _ _ (s35 _ _ hx),(wx.same s35).same s57⟩,λt ht=>((rri t ht).same s35).same s57⟩
    |true=>
     rw[if_pos rfl]at ef⊢
     obtain⟨dy,ey,ef⟩:=Res.bind_ok ef
     cases ef
     cases evd
     refine thn (be H₀ O₀ _ s7 σ6 H7 (λv H'=>Same H7 H'/\RD X.K H' (cX O s2.heap.objs.size) dy v) I7 ⟨_,own6,e3,dy,F7,ey,λv H' s r _=>⟨s,r⟩⟩) λwv s8 ⟨vy,H8,I8,r8,s78,rd8⟩=>?_
     have sm8:=s35.trans (s57.trans s78)
     have hx8:=sm8 _ _ hx
     have F8:=F7.grow s78
     have wx8:=wx.same sm8
     have h0:H₀ s2.heap.objs.size=none:=(F.same.trans s12).free fr
     refine thn (A5 (X:=cxC X scope HP.objs.size Nc s2 H2 fp) _ s8 σ6 H8 (.ref s2.heap.objs.size) [vy] (.ref s2.heap.objs.size) [wv] (λ_ H'=>H'=upd H8 s2.heap.objs.size (.lst (xs++[vy]))) I8 rfl (.cons r8 .nil) ⟨_,xs,vy,rfl,rfl,hx8,by rw[wx.length,<-fS];lia,rfl⟩) λ_ s9 ⟨v9,H9,I9,r9,e9⟩=>?_
     subst e9
     obtain⟨t1,t2⟩:=keepT I9
     have smU:Same H2 (upd H8 s2.heap.objs.size (.lst (xs++[vy]))):=λb o q=>by
      rw[aH (gF q fr)]
      exact sm8 _ _ (smi _ _ q)
     refine⟨ds.length+1-(i+1),by lia,i+1,σ6,_,own6,as++[dy],b',rfl,hlt,I9.unpinned,t1,t2,smU,(F8.updO (.inr rfl) hx8 h0 no6).back pl1.symm bk,no6,eb,by simp,?_,⟨xs++[vy],bM,?_⟩,λt ht=>((rri t ht).same sm8).upd (.inr rfl) hx8⟩
     ·rw[cD,kW];lia
     ·exact(wx8.append (RDs.cons rd8 RDs.nil)).upd (.inr rfl) hx8
   ·have hii:i=ds.length:=by lia
    subst hii
    refine thn (Tn.done (cxC X scope HP.objs.size Nc s2 H2 fp) rfl rfl rfl hc _ [] s' σi Hi (λ_ _=>False) Ii stat tni (w2 (aS _))) λr s4 ⟨hr,I4⟩=>?_
    subst hr
    rw[zQ,aY]at evd
    cases evd
    have nO:¬O s2.heap.objs.size:=λz=>by
     obtain⟨o,q⟩:=F2.trk _ z
     rw[fr]at q;cases q
    refine fin HP.objs.size s2 H2 Hi s4 s2.heap.objs.size I2 s12 hCl (λh' sb=>outC I2 I4 hfp (jF hCl) sb) ?_ I4.free (s12.trans smi) (F.grow (s12.trans smi)) ?_ ?_ (bI hCl)
    ·obtain⟨m,hn,_⟩:=I4.loc
     exact⟨m,hn⟩
    ·exact⟨_,xs,rfl,.inl ⟨nO,.inl hx⟩,by rw[oS];exact wx.weak λ_ z=>.inl z⟩
    ·exact λ_=>⟨_,rfl,s12.free fr,xs,hx,by rw[oS];exact wx⟩
  ·refine⟨0,_,_,ownc,[],ys,rfl,eW _,I0,Tn.keep _ _ _ tn0 λb _ o q=>old b o q,λb hb=>?_,cG fr _,Fc,nown,by simpa using e2,rfl,aS _,⟨[],bM,rfl⟩,?_⟩
   ·rw[aH (bI (hfo b hb))];exact(hfp b hb).1
   ·intro t ht
    have r0:=rr0 t ht
    cases t with
    |fr a o u=>exact cG fr _ _ _ r0
    |dv d0 v0=>
     rcases r0 with z|⟨al,z1,z2⟩
     ·exact .inl ((z.new fr).same (cG fr _))
     ·obtain⟨ob,hob,_⟩:=z2.obj
      exact .inr ⟨al,z1,gF hob fr,(z2.new fr).same (cG fr _)⟩
 exact codeAny_compStart_list (loop _ rfl) (Tn.self _ 0 _ _ _ (Tn.keep _ _ _ tn0 λb _ o q=>old b o q) (loop _ rfl))
end
section
variable{T:Tab}{cf:Nat->List D->Res D}{X:Cx}{x y z:E}{p q r tg iter:Expr}{pos pos' pos'':Pos}
theorem Bv{n:Nat}{caps:List Nat}{g:G}{elt src cond:E}{pe:Expr}{ifs:List Expr}{scope:Scope}{Nc:List Str}(hc:X.calm=true)(S:ScopeC X scope)(P:CapsOk X scope n caps Nc)(hb:g.below n=true)
 (hplain:bA iter=true) (hsrc:SI T cf X tg src true iter)
 (body:∀C s2 H2 fp,(cxC X scope C Nc s2 H2 fp).Ok->SG (cxC X scope C Nc s2 H2 fp) g tg/\SE T cf (cxC X scope C Nc s2 H2 fp) elt pe/\nS ifs cond (ST T cf (cxC X scope C Nc s2 H2 fp) cond)) :
 SE T cf X (.comp n caps g elt src cond) (.ListComp pe [⟨tg,iter,ifs,0⟩] scope pos):=by
 intro H₀ O₀ pins s σ H Q I ⟨O,own,e,d,F,ev,k⟩
 rw[eval_ListComp]
 refine Bu (use:=none) hc S P hb hplain hsrc body I F ev ?_
 intro C s2 H2 Hi s' a I2 s12 hC hI ns hn sm Fi rd nl hne
 obtain⟨m,ns⟩:=ns
 exact⟨m,ns,λh' sb=>⟨.ref a,Hi,hI h' sb,rfl,k _ Hi sm rd λ_=>nl⟩⟩
theorem HN{i:Nat}{nm:Str}{n:Nat}{caps:List Nat}{g:G}{elt src cond:E}{pe:Expr}{ifs:List Expr}{scope:Scope}{Nc:List Str}(hN:X.N.Nodup)(hi:X.N[i]?=some nm)(hl:Loc X.env.scope nm)(hf:X.fn nm=true\/X.env.scope.names.lookup nm=some .local)
 (hsw:swapsWith (.ListComp pe [⟨tg,iter,ifs,0⟩] scope pos) (some (.Name nm pos')) pos''.line X.env=pure true)
 (hc:X.calm=true) (S:ScopeC X scope) (P:CapsOk X scope n caps Nc) (hb:g.below n=true)
 (hplain:bA iter=true) (hsrc:SI T cf X tg src true iter)
 (body:∀C s2 H2 fp,(cxC X scope C Nc s2 H2 fp).Ok->SG (cxC X scope C Nc s2 H2 fp) g tg/\SE T cf (cxC X scope C Nc s2 H2 fp) elt pe/\nS ifs cond (ST T cf (cxC X scope C Nc s2 H2 fp) cond)) :
 ∀H₀ O₀,PS X (.Assign [.Name nm pos'] (.ListComp pe [⟨tg,iter,ifs,0⟩] scope pos) pos'') (λD' σ H=>∃O own e d,Fm X.K H₀ O₀ H O own e σ/\evE T cf (.comp n caps g elt src cond) e=.ok d/\∀v H',Same H H'->RD X.K H' O d v->NewL X.K H H' O d v->D'.nx (σ.set i (some v)) H'):=by
 intro H₀ O₀ pins s σ H D' I ⟨O,own,e,d,F,ev,k⟩
 rw[exec_Assign_Name_used _ _ _ _ hsw]
 refine wpAny_bind (wpAny_standAt (wpAny_bind ?_))
 show wpAny _ X.A (do let _<-comprehension (.ListComp pe [⟨tg,iter,ifs,0⟩] scope pos) scope X.env _ (newList []) false (eval iter X.env) (some (assign (.Name nm pos') X.env))) _ _ s
 refine wpAny_bind (wpAny_mono (Bu (use:=some (assign (.Name nm pos') X.env)) (Q:=λ_ s'=>SP X pins D' .next s') hc S P hb hplain hsrc body I F ev ?_) (λ_ s' hq=>wpAny_pure (wpAny_pure hq)) λ_ _ e=>e)
 intro C s2 H2 Hi s' a I2 s12 hC hI ns hn sm Fi rd nl hne
 obtain⟨m,ns⟩:=ns
 have I':Inv X pins σ Hi s':=by
  have:=hI s'.heap (.refl ..)
  exact this
 show wpAny _ X.A (assign (.Name nm pos') X.env (.ref a)) _ _ _
 refine wpAny_assign_Name (AB (v:=.ref a) I' hN hi hl rfl (λs'' I'' ⟨a0,sb,ha0⟩=>?_) hf)
 have lt0:a0<s2.heap.objs.size:=by
  rcases ha0 with z|z
  ·rw[z];exact I2.lt
  ·obtain⟨v,w⟩:=I2.cell nm a0 z
   exact w.lt
 have neC:C≠a0:=kT (kX lt0 hC)
 refine⟨m,ns.sameBut sb neC,λh' sb'=>?_⟩
 refine⟨σ.set i (some (.ref a)),Hi,?_,k _ Hi sm rd nl⟩
 refine I''.turned (t':=s''.toks) (it:=C) (λb o hb' e=>(sb'.2 b hb').trans e) hn (kT (kX I2.lt hC)) (.inr (bX I2.sz (jF hC))) (λx c e z=>?_) (λp hp z=>?_)
 ·obtain⟨v,w⟩:=I2.cell x c e
  exact absurd (kX w.lt hC) (by rw[z];exact kR _)
 ·exact absurd (kX (Heap.lt_size (I2.pin p hp).1) hC) (by rw[z];exact kR _)
theorem HQ{i:Nat}{nm:Str}{n:Nat}{caps:List Nat}{g:G}{elt src cond:E}{pe:Expr}{ifs:List Expr}{scope:Scope}{Nc:List Str}(hN:X.N.Nodup)(hi:X.N[i]?=some nm)(hl:Loc X.env.scope nm)(hf:X.fn nm=true\/X.env.scope.names.lookup nm=some .local)
 (hc:X.calm=true) (S:ScopeC X scope) (P:CapsOk X scope n caps Nc) (hb:g.below n=true)
 (hplain:bA iter=true) (hsrc:SI T cf X tg src true iter) (o:Bool)
 (body:∀C s2 H2 fp,(cxC X scope C Nc s2 H2 fp).Ok->SG (cxC X scope C Nc s2 H2 fp) g tg/\SE T cf (cxC X scope C Nc s2 H2 fp) elt pe/\nS ifs cond (ST T cf (cxC X scope C Nc s2 H2 fp) cond)) :
 SS T cf X (if o then .asgO i (.comp n caps g elt src cond)else .asg (.one i) (.comp n caps g elt src cond)) (.Assign [.Name nm pos'] (.ListComp pe [⟨tg,iter,ifs,0⟩] scope pos) pos''):=by
 intro H₀ O₀
 have main:PS X (.Assign [.Name nm pos'] (.ListComp pe [⟨tg,iter,ifs,0⟩] scope pos) pos'') (λD' σ H=>∃O own e d,Fm X.K H₀ O₀ H O own e σ/\evE T cf (.comp n caps g elt src cond) e=.ok d/\∀v H',Same H H'->RD X.K H' O d v->NewL X.K H H' O d v->D'.nx (σ.set i (some v)) H'):=by
  have hsw:∃b:Bool,swapsWith (.ListComp pe [⟨tg,iter,ifs,0⟩] scope pos) (some (.Name nm pos')) pos''.line X.env=pure b:=⟨_,rfl⟩
  obtain⟨b,hsw⟩:=hsw
  cases b with
  |true=>exact HN hN hi hl hf hsw hc S P hb hplain hsrc body H₀ O₀
  |false=>
   refine PS.imp (λD' σ H hq=>?_) (kZ hN hi hl (Bv hc S P hb hplain hsrc body H₀ O₀) hsw hf)
   obtain⟨O,own,e,d,F,ev,k⟩:=hq
   exact⟨O,own,e,d,F,ev,λv H' s' r n=>k v H' s' r (n rfl)⟩
 refine PS.imp (λD' σ H hq=>?_) main
 obtain⟨ts,e,out,⟨O,own,F,tt⟩,ev,k⟩:=hq
 cases o with
 |true=>
  rw[if_pos rfl]at ev
  (first|rw[nC]at ev|rw[pP]at ev)
  obtain⟨d,e1,ev⟩:=Res.bind_ok ev
  split at ev
  ·obtain⟨c,ev⟩:=aZ ev
   cases ev
   refine⟨O,own,e,_,F,e1,λv H' s' r n=>?_⟩
   obtain⟨p,rfl,h2,h3⟩:=n rfl
   exact k _ H' ⟨_,_,F.setO s' i h2 h3,λt ht=>((tt t ht).new h2).same s'⟩
  ·obtain⟨c,ev⟩:=aZ ev
   cases ev
   refine⟨O,own,e,_,F,e1,λv H' s' r n=>?_⟩
   obtain⟨p,rfl,h2,h3⟩:=n rfl
   exact k _ H' ⟨_,_,F.setO s' i h2 h3,λt ht=>((tt t ht).new h2).same s'⟩
  ·obtain⟨c,ev⟩:=aZ ev
   cases ev
   refine⟨O,own,e,_,F,e1,λv H' s' r n=>?_⟩
   obtain⟨p,rfl,h2,h3⟩:=n rfl
   exact k _ H' ⟨_,_,F.setO s' i h2 h3,λt ht=>((tt t ht).new h2).same s'⟩
  ·cases ev
 |false=>
  rw[if_neg aO]at ev
  (first|rw[nC]at ev|rw[pP]at ev)
  obtain⟨d,e1,ev⟩:=Res.bind_ok ev
  obtain⟨e2,e3,ev⟩:=Res.bind_ok ev
  cases ev
  cases e3
  exact⟨O,own,e,d,F,e1,λv H' s' r n=>k _ H' ⟨O,_,(F.grow s').setV i r,λt ht=>(tt t ht).same s'⟩⟩
theorem HR{pins:List (Addr×Obj)}{σ:L2.St}{H:Hp}{s:Shared}{h':Heap}{t':Nat}{a b:Addr}(I:Inv X pins σ H s)(k:∀c o,c≠a->c≠b->s.heap.get? c=some o->h'.get? c=some o)(na:H a=none)(nb:H b=none)
 (fa:a≠X.env.locals/\(a∈X.ex\/X.s₀.heap.objs.size<=a)/\(∀x c,X.env.cells.lookup x=some c->c≠a)/\∀p∈X.pn++pins,p.1≠a)
 (fb:b≠X.env.locals/\(b∈X.ex\/X.s₀.heap.objs.size<=b)/\(∀x c,X.env.cells.lookup x=some c->c≠b)/\∀p∈X.pn++pins,p.1≠b):Inv X pins σ H {s with heap:=h',toks:=t' }:=by
 have nn:∀c u,H c=some u->c≠a/\c≠b:=λc u e=>⟨λz=>(by rw[z,na]at e;cases e),λz=>(by rw[z,nb]at e;cases e)⟩
 have no2:∀{c},c∉[a,b]->c≠a/\c≠b:=λhc=>⟨λz=>hc (by simp[z]),λz=>hc (by simp[z])⟩
 refine I.step (g':=s.gens) (d':=s.drawn) (ch:=[a,b]) (λc hc=>?_) (λc o _ _ hc e _=>k c o (no2 hc).1 (no2 hc).2 e) (λc o _ _ hc e _=>⟨o.slots,k c o (no2 hc).1 (no2 hc).2 e⟩) (λ_ _ _ _ n=>n)
  (λc o hc e=>⟨o,k c o (no2 hc).1 (no2 hc).2 e⟩) (λ_ _ e=>e) (λ_ _ _ e=>e) (λb ps e=>⟨#[],by rw[e];simp⟩) (λm hm=>?_) (λc u e=>?_) I.bare
 ·rcases aV.mp hc with rfl|hc
  ·exact⟨fa.2.1,fa.1,fa.2.2.1,fa.2.2.2⟩
  ·have e:c=b:=by simpa using hc
   subst e
   exact⟨fb.2.1,fb.1,fb.2.2.1,fb.2.2.2⟩
 ·obtain⟨o,es,ep,ho,r⟩:=hm
  exact⟨o,es,ep,k _ o (Ne.symm fa.1) (Ne.symm fb.1) ho,r⟩
 ·refine(I.hok c u e).stay (λc' v hc q=>?_) (λ_ q=>q) (λ_ _ q=>q) λ_ _ _ q=>q
  have:c'≠a/\c'≠b:=by
   rcases hc with z|z
   ·rw[z];exact nn c u e
   ·exact nn c' _ z
  exact k c' v this.1 this.2 q
noncomputable def Ite(K:PySem.W.Frag)(a:Addr):It:=
 ⟨λi H=>∃xs x,SqL K H a xs/\xs[i]?=some x,λi H x H'=>∃p y,H p=none/\x=.ref p/\H'=upd H p (.tup [.int i,y])/\∀xs,SqL K H a xs->xs[i]?=some y,λi H=>∃xs,SqL K H a xs/\xs.length<=i⟩
theorem HS{Pg:Program}{w:World}{K:PySem.W.Frag}{es:List Expr}{kk:Nat}{pos:Pos}(a en it:Addr)(hne:en≠it):Turn Pg w K (.Tuple es kk pos) (Ite K a) [en,it] en (λi h=>∃old,IsEnum h en it i old/\h.IsListIter it a i) where
 mem:=by simp
 obj:=λi h st b hb=>by
  obtain⟨old,st1,o,e,c,d⟩:=st
  rcases aV.mp hb with rfl|hb
  ·exact⟨_,st1,λv z=>by
    have z':Data.fields _=Data.cell v:=z
    cases z'⟩
  ·have e':b=it:=by simpa using hb
   subst e'
   exact⟨o,e,λv z=>by rw[d]at z;cases z⟩
 keep:=λi h h' st k=>by
  obtain⟨old,st1,st2⟩:=st
  exact⟨old,k en (by simp) _ st1,st2.at λo e=>k it (by simp) o e⟩
 item:=by
  intro X hP hw hK hc i pins s σ H E I hf st hg
  subst hP hw hK
  obtain⟨xs,x,hq,hx⟩:=hg
  obtain⟨old,st1,st2⟩:=st
  obtain⟨its,rv,p,hz⟩:=I.list hq
  obtain⟨u,hu,ru⟩:=rv.get hx
  obtain⟨f0,f1,f2,f3,f4,f5⟩:=hf en (by simp)
  obtain⟨g0,g1,g2,g3,g4,g5⟩:=hf it (by simp)
  refine wpAny_pyNext_enum_item st1 st2 p.isList (x:=u) (by simpa using hu) hne λh₁ heo hit₁ ht₁ hz₁ hk₁=>?_
  refine⟨_,rfl,wpAny_letOwnedTupleGo_enum heo λh₂ he₂ hs₂=>?_⟩
  replace hs₂:Heap.SameBut en h₁ h₂:=hs₂
  have enl:en<s.heap.objs.size:=Heap.lt_size st1
  have itl:it<s.heap.objs.size:=by
   obtain⟨o,q,_⟩:=id st2
   exact Heap.lt_size q
  have fr:H s.heap.objs.size=none:=I.hok.fresh (aS _)
  have hm:∃hm:Heap,hm=s.heap.push {cls:=.type "tuple", data:=.seq #[.int i s.toks,u] }:=⟨_,rfl⟩
  obtain⟨hm,ehm⟩:=hm
  have I1:Inv X pins σ (upd H s.heap.objs.size (.tup [.int i,x])) {s with heap:=hm}:=by
   rw[ehm]
   refine I.laid (t':=s.toks) (λb o q=>Heap.get?_push_of_some _ q) (aS _) ?_
   exact⟨by show 2<=sizeLine;decide,[.int i s.toks,u],.cons ⟨_,rfl⟩ (.cons ru .nil),⟨_,Heap.get?_push_size _ rfl,rfl,_,rfl⟩⟩
  have kept:∀b o,b≠en->b≠it->hm.get? b=some o->h₂.get? b=some o:=λb o hb1 hb2 q=>by
   refine(hs₂.2 b hb1).trans ?_
   rw[ehm]at q
   rcases Heap.get?_push_cases q with⟨e1,e2⟩|q
   ·rw[e1,e2];exact ht₁
   ·exact hk₁ b o hb1 hb2 q
  have up:∀{c:Addr},c<s.heap.objs.size->H c=none->upd H s.heap.objs.size (.tup [.int i,x]) c=none:=λhl hn=>by rw[aH (bI hl)];exact hn
  have I2:Inv X pins σ (upd H s.heap.objs.size (.tup [.int i,x])) {s with heap:=h₂,toks:=s.toks+1}:=HR (s:={s with heap:=hm}) (t':=s.toks+1) I1 kept (up enl f0) (up itl g0) ⟨f1,f3,f4,f5⟩ ⟨g1,g3,g4,g5⟩
  refine⟨.ref s.heap.objs.size,_,I2,rfl,⟨_,x,fr,rfl,rfl,λys hy=>by rw[I.list_inj hy hq];exact hx⟩,⟨u,?_,hit₁.extBut hs₂.extBut (Ne.symm hne)⟩,λb hb=>?_⟩
  ·have:((i+1:Nat):Int)=(i:Int)+1:=by push_cast;rfl
   rw[this];exact he₂
  ·rcases aV.mp hb with rfl|hb
   ·exact up enl f0
   ·have e':b=it:=by simpa using hb
    subst e'
    exact up itl g0
 done:=by
  intro X hP hw hK hc i pins s σ H E I hf st hg
  subst hP hw hK
  obtain⟨xs,hq,hx⟩:=hg
  obtain⟨old,st1,st2⟩:=st
  obtain⟨its,rv,p,hz⟩:=I.list hq
  obtain⟨g0,g1,g2,g3,g4,g5⟩:=hf it (by simp)
  have hl:=rv.length
  exact wpAny_pyNext_enum_end (I.ok.hd hc) st1 st2 p.isList (by simp;lia) λh' eb=>⟨rfl,I.turned (t':=s.toks) (λb o hb e=>eb b o hb e) g0 g1 g3 g4 g5⟩
 self:=λ_ _ _ _ _ st h=>by
  obtain⟨old,st1,_⟩:=st
  exact wpAny_pyIter_enum st1 h
theorem vF(k:Int):∀ds:List D,(dB k ds).length=ds.length
 |[]=>rfl
 |d::ds=>by rw[dB,aW,aW,vF (k+1) ds]
theorem Bw:∀(k:Int)(ds:List D)(i:Nat)(d:D),ds[i]?=some d->(dB k ds)[i]?=some (.tup [.int (k+i),d])
 |k,[],i,d,h=>by simp at h
 |k,d0::ds,0,d,h=>by simp at h;subst h;rw[dB];simp
 |k,d0::ds,i+1,d,h=>by
  rw[dB,LJ,Bw (k+1) ds i d (by simpa using h)]
  congr 4
  push_cast
  lia
theorem HU{K:PySem.W.Frag}{a:Addr}{ds:List D}:Wk1 K (Ite K a) (.lst ds) (.ref a) (dB 0 ds):=by
 intro i H O r
 obtain⟨a',xs,e,q,w⟩:=r.lst
 cases e
 have hl:=w.length
 rw[vF]
 refine⟨λh=>?_,λh=>⟨xs,q,by lia⟩,λx H' d hd y=>?_⟩
 ·obtain⟨v,h1,h2⟩:=w.get (bD h)
  exact⟨xs,v,q,h1⟩
 ·obtain⟨p,yv,hp,rfl,rfl,hy⟩:=y
  refine⟨cG hp _,?_⟩
  have hi:i<ds.length:=by
   have:=(gC.mp hd).1
   rwa [vF]at this
  obtain⟨v,h1,h2⟩:=w.get (bD hi)
  have:=(hy xs q).symm.trans h1
  cases this
  rw[Bw 0 ds i _ (bD hi)]at hd
  cases hd
  refine nK (RDs.cons ?_ (RDs.cons h2 RDs.nil)) hp
  show V.int (i:Int)=V.int (0+(i:Int))
  rw[Int.zero_add]
theorem HV {rd:Bool} {n:Str} {pn:Pos} {es:List Expr} {kk:Nat} {tpos:Pos} (hn:n = "enumerate") (hg:Gl X n) (hm:X.mg "enumerate" = none) (hp:bA p=true) (ha:SR T cf X x p) (hv:rd=false->SE T cf X x p) :
 SI T cf X (.Tuple es kk tpos) (.enum x) rd (.Call (.Name n pn) [p] [] pos):=by
 intro H₀ O₀ pins s σ H R I h
 subst hn
 obtain⟨O,own,e,ds,F,ev,k⟩:=h
 replace k:=qH k
 rw[Ar]at ev
 obtain⟨d1,e1,ev⟩:=Res.bind_ok ev
 have main:∀{u:Value} {s1:Shared} {v:V} {H1:Hp},Inv X pins σ H1 s1->RelV v u->Same H H1->RR X.K H1 O d1 v->(rd=false->RD X.K H1 O d1 v)->wpAny (model X.prog X.w) X.A (call (.type "enumerate") [u]) (λv s1=>wpAny (model X.prog X.w) X.A (pyIter v) (PIE X pins σ (.Tuple es kk tpos) R) X.xe s1) X.xe s1:=by
  intro u s1 v H1 I1 r1 s1' rr rv
  cases d1 with
  |lst dl=>
   cases ev
   obtain⟨a,xs,e,q1,w1⟩:=rr.lst
   subst e
   cases r1
   obtain⟨its,r',pl,hz⟩:=I1.list q1
   refine call_enumerate_list pl.isList λh' he hit hz' hk=>?_
   refine wpAny_pyIter_enum he ?_
   have I2:Inv X pins σ H1 {s1 with heap:=h' }:=I1.kept (t':=s1.toks) hk
   refine⟨s1.heap.objs.size+1,[s1.heap.objs.size+1,s1.heap.objs.size],_,Ite X.K a,H1,rfl,I2,HS a _ _ (LL _),⟨_,he,hit⟩,λb hb=>?_,k _ H1 _ _ s1' rr rv HU⟩
   rcases aV.mp hb with rfl|hb
   ·exact I1.fpOk (oY _) (I1.hok.fresh (oY _))
   ·have e':b=s1.heap.objs.size:=by simpa using hb
    subst e'
    exact I1.fpOk (aS _) (I1.hok.fresh (aS _))
  |tup _=>cases ev
  |non=>cases ev
  |bl _=>cases ev
  |int _=>cases ev
  |str _=>cases ev
  |dct _=>cases ev
  |tdc _=>cases ev
 cases rd with
 |true=>
  refine Call_ (jI I hg hm PyProof.Rows.boot_enumerate (PyProof.Rows.callWith_type1 (thn (cM (ha H₀ O₀) eG (bH hp) pos pins s σ H (λvs H1=>∃v,vs=[v]/\Same H H1/\RR X.K H1 O d1 v) I ⟨O,own,e,d1,F,e1,λv H' s' r=>⟨v,rfl,s',r⟩⟩) λus s1 ⟨vs,H1,I1,r1,v,ev1,s1',rr⟩=>?_) (bH hp) rfl))
  subst ev1
  obtain⟨u,rfl,ru⟩:=gH r1
  exact main I1 ru s1' rr (λz=>by cases z)
 |false=>
  refine Call_ (jI I hg hm PyProof.Rows.boot_enumerate (PyProof.Rows.callWith_type1 (thn (cM (hv rfl H₀ O₀) eG (bH hp) pos pins s σ H (λvs H1=>∃v,vs=[v]/\Same H H1/\RD X.K H1 O d1 v) I ⟨O,own,e,d1,F,e1,λv H' s' r _=>⟨v,rfl,s',r⟩⟩) λus s1 ⟨vs,H1,I1,r1,v,ev1,s1',rr⟩=>?_) (bH hp) rfl))
  subst ev1
  obtain⟨u,rfl,ru⟩:=gH r1
  exact main I1 ru s1' rr.rr (λ_=>rr)
end
section
variable{K:PySem.W.Frag}{H₀ H H':Hp}{O₀ O O':Addr->Prop}{own:Nat->Option Addr}{e:Nv}{σ:L2.St}
theorem Bx{H:Hp}{O:Addr->Prop}(ks:List Int):RDs K H O (ks.map D.int) (ks.map V.int):=by
 induction ks with
 |nil=>exact rfl
 |cons k ks ih=>exact⟨.int k,ks.map V.int,rfl,rfl,ih⟩
end
section
variable{T:Tab}{cf:Nat->List D->Res D}{X:Cx}{x y z:E}{p q r tg:Expr}{pos pos':Pos}{es:List Expr}
end
section
variable{prog:Program}{w:World}{A:Around}{E:Value->Shared->Prop}{s:Shared}
set_option maxHeartbeats 1600000 in
theorem HW{a:Addr}{kvs:List (Key×Value)}{ep:Nat}{Q:List Value->Shared->Prop}(hh:A.handled=none)(hd:(a==sysModules)=false)(hz:kvs.length<64)(hS:s.heap.DictAt (bW prog w) a kvs ep)
 (hQ:∀vs h' tk,vs.length=kvs.length->(∀(i:Nat) v,vs[i]?=some v->∃k x,kvs[i]?=some (k,x)/\gY k v=true)->s.heap.objs.size<=h'.objs.size->(∀b o,b<s.heap.objs.size->s.heap.get? b=some o->h'.get? b=some o)->Q vs {s with heap:=h',toks:=tk}) :
 wpAny (model prog w) A (collect (.ref a)) Q E s:=by
 have hT:=hS.dictOf.typeIs (s:=s)
 have hlt:a<s.heap.objs.size:=by obtain⟨o,es,ho,_⟩:=hS;exact Heap.lt_size ho
 unfold collect
 refine wpAny_bind (wpAny_runValue (codeAny_builtin PySem.F.entry_proto_collect ?_))
 rw[Around.under_plainId PySem.F.plain_proto_collect _]
 show wpAny _ A.in1 (newList []>>=λl=>again (.builtin "list.__iadd__" ⟨[l,.ref a],[]⟩)) _ _ s
 refine wpAny_bind (wpAny_newObj_type ?_)
 refine wpAny_pure ⟨plainId_quiet PySem.F.plain_list_iadd _,codeAny_builtin PySem.F.entry_list_iadd ?_⟩
 rw[Around.under_plainId PySem.F.plain_list_iadd _]
 have hS₁:(s.heap.push {cls:=.type "list", data:=.seq ([]:List Value).toArray}).get? s.heap.objs.size=some {cls:=.type "list", data:=.seq ([]:List Value).toArray}:=Heap.get?_push_size _ rfl
 have hE₁:(s.heap.push {cls:=.type "list", data:=.seq ([]:List Value).toArray}).DictAt (bW prog w) a kvs ep:=hS.at' λo e=>Heap.get?_push_of_some _ e
 have hsz₁:(s.heap.push {cls:=.type "list", data:=.seq ([]:List Value).toArray}).objs.size=s.heap.objs.size+1:=size_push' _ _
 have hk₁:∀b o,s.heap.get? b=some o->(s.heap.push {cls:=.type "list", data:=.seq ([]:List Value).toArray}).get? b=some o:=λb o e=>Heap.get?_push_of_some _ e
 generalize s.heap.push {cls:=.type "list", data:=.seq ([]:List Value).toArray}=H1 at *
 have h1:Builtin.List.listSameRef (.ref s.heap.objs.size) (.ref a)=false:=by simp[Builtin.List.listSameRef,kT hlt]
 show wpAny _ A.in1 (Builtin.List.listExtendWith (.ref s.heap.objs.size) (.ref a) (.ref s.heap.objs.size)) _ _ _
 unfold Builtin.List.listExtendWith
 have hT1:Shared.TypeIs {s with heap:=H1} (.ref a) "dict" := hE₁.dictOf.typeIs (s:={s with heap:=H1})
 refine wpAny_bind (wpAny_typeOf hT1 ?_)
 rw[if_neg (by rw[h1];decide)]
 refine wpAny_bind (wpAny_pyIter_dict (s:={s with heap:=H1}) hd hE₁ ?_)
 show wpAny _ _ _ _ _ {s with heap:=H1.push {cls:=.type "dict_keyiterator", data:=.fields #[.ref a,.int 0 0,.int kvs.length 0,.int ep 0] } }
 have hI2:(H1.push {cls:=.type "dict_keyiterator", data:=.fields #[.ref a,.int 0 0,.int kvs.length 0,.int ep 0] }).get? H1.objs.size=some {cls:=.type "dict_keyiterator", data:=.fields #[.ref a,.int 0 0,.int kvs.length 0,.int ep 0] }:=Heap.get?_push_size _ rfl
 have hk₂:∀b o,H1.get? b=some o->(H1.push {cls:=.type "dict_keyiterator", data:=.fields #[.ref a,.int 0 0,.int kvs.length 0,.int ep 0] }).get? b=some o:=λb o e=>Heap.get?_push_of_some _ e
 generalize H1.push {cls:=.type "dict_keyiterator", data:=.fields #[.ref a,.int 0 0,.int kvs.length 0,.int ep 0] }=H2 at *
 have hE₂:H2.DictAt (bW prog w) a kvs ep:=hE₁.at' λo e=>hk₂ _ o e
 have hT2:Shared.TypeIs {s with heap:=H2} (.ref a) "dict" := hE₂.dictOf.typeIs (s:={s with heap:=H2})
 refine wpAny_bind (wpAny_holding ?_)
 unfold Builtin.List.listLengthHint
 refine wpAny_bind (wpAny_specialOf hT2 PySem.F.slot_dict_len.lookup ?_)
 (generalize hid:("dict.__len__" : String)=id0;(fail_if_success (clear hid id0));wp_delta;rw[show splitId id0=some ("dict", "__len__")from by subst hid;decide +kernel];subst hid)
 refine wpAny_bind (wpAny_isInstance (b:=true) hT2 (by rw[isSubtype_type];kernel_rfl) ?_)
 rw[if_neg (by decide)]
 show wpAny _ A.in1 (typeOf (Value.ref a)>>=_) _ _ _
 refine wpAny_bind (wpAny_typeOf hT2 ?_)
 refine wpAny_pure ?_
 rw[if_pos (by decide +kernel)]
 refine wpAny_bind (wpAny_rule ?_)
 have hL2:H2.get? s.heap.objs.size=some (seqObj "list" #[] 0):=hk₂ _ _ hS₁
 unfold Builtin.List.listTouch
 refine wpAny_bind ?_
 refine wpAny_bind (listUpdate_at (s:={s with heap:=H2}) hL2 rfl ?_)
 have hL3:=get?_update_seq hL2 (·.push Value.none)
 refine listUpdate_at (s:={s with heap:=H2.update s.heap.objs.size (Obj.mapSeq (·.push Value.none)) }) hL3 rfl ?_
 have hL4:∃c,((H2.update s.heap.objs.size (Obj.mapSeq (·.push Value.none))).update s.heap.objs.size (Obj.mapSeq (·.pop))).get? s.heap.objs.size=some (seqObj "list" #[] c):=⟨_,(get?_update_seq hL3 (·.pop)).trans (by rw[show((#[]:Array Value).push Value.none).pop=#[]from rfl])⟩
 obtain⟨c4,hL4⟩:=hL4
 have hk₃:∀b o,b≠s.heap.objs.size->H2.get? b=some o->((H2.update s.heap.objs.size (Obj.mapSeq (·.push Value.none))).update s.heap.objs.size (Obj.mapSeq (·.pop))).get? b=some o:=λb o hb e=>by
  rw[Heap.get?_update_other _ _ (λh=>hb h.symm),Heap.get?_update_other _ _ (λh=>hb h.symm)];exact e
 dsimp only
 generalize (H2.update s.heap.objs.size (Obj.mapSeq (·.push Value.none))).update s.heap.objs.size (Obj.mapSeq (·.pop))=H3 at *
 have hIs:H3.IsKeyIter H1.objs.size a 0 kvs.length ep:=⟨_,hk₃ _ _ (by rw[hsz₁];exact LL _) hI2,rfl,rfl⟩
 have hE₃:H3.DictAt (bW prog w) a kvs ep:=hE₂.at' λo e=>hk₃ _ o (bI hlt) e
 have W:=(Walks.dictKeys (prog:=prog) (w:=w) (knd:=bW prog w) (A:=A.in1) hh H1.objs.size a (by rw[hsz₁];exact bI (tH hlt)) kvs ep).toS
 refine wpAny_pure ⟨plainId_quiet PySem.F.plain_extend_loop _,codeAny_extend_loopS W (by rw[sizeLine_eq];lia) s.heap.objs.size ?_ _ kvs.length 0 _ #[] c4 (by lia) (eW _) ⟨hIs,hE₃⟩ hL4 (ItemsOf.nil _) λs' acc' c' hm hS' hacc=>?_⟩
 ·rw[hsz₁]
  simp only[aV,mH,or_false,not_or]
  exact⟨bI (LK _),kT hlt⟩
 ·show wpAny _ A (load s.heap.objs.size>>=_) _ _ s'
  refine wpAny_bind (wpAny_load hS' ?_)
  obtain⟨h',g',d',tk',os'⟩:=s'
  have eg:g'=s.gens:=hm.gens
  have ed:d'=s.drawn:=hm.drawn
  have eo:os'=s.os:=hm.os
  subst eg;subst ed;subst eo
  refine wpAny_pure ?_
  have hge:s.heap.objs.size<=h'.objs.size:=jF (Heap.lt_size hS')
  refine hQ acc'.toList h' tk' (by rw[oR];exact hacc.1) (λi v hv=>by rw[LH]at hv;exact hacc.2 i v hv) hge λb o hb e=>?_
  refine hm.heap b o ?_ (hk₃ b o (bI hb) (hk₂ b o (hk₁ b o e)))
  rw[hsz₁]
  simp only[aV,mH,or_false,not_or]
  exact⟨bI hb,bI (tH hb)⟩
theorem intsAre_of:∀{vs:List Value} {ns:List Int},vs.length=ns.length->(∀(i:Nat) v,vs[i]?=some v->∃n t,ns[i]?=some n/\v=.int n t)->IntsAre vs ns
 |[],[],_,_=>.nil
 |[],_::_,h,_=>by cases h
 |_::_,[],h,_=>by cases h
 |v::vs,n::ns,h,q=>by
  obtain⟨m,t,e1,e2⟩:=q 0 v rfl
  cases e1
  subst e2
  exact .cons n t (intsAre_of (by simpa using h) λi v hv=>q (i+1) v hv)
theorem HX{n:Int}{v:Value}(h:gY (.inl n) v=true):∃t,v=.int n t:=Value.isInt_shape (k:=n) (v:=v) h
theorem HY{a:Addr}{kvs:List (Key×Value)}{ep:Nat}{ns:List Int}{Q:Value->Shared->Prop}(hh:A.handled=none)(hd:(a==sysModules)=false)(hk:kvs.map (·.1)=ns.map Sum.inl)(hz:ns.length<64)(hS:s.heap.DictAt (bW prog w) a kvs ep)
 (h:∀h' tk l its c ns',(∀b o,b<s.heap.objs.size->s.heap.get? b=some o->h'.get? b=some o)->s.heap.objs.size<=l->h'.get? l=some (seqObj "list" its c)->IntsAre its.toList ns'->ns'.Perm ns->ns'.Pairwise (·<=·)->Q (.ref l) {s with heap:=h',toks:=tk}) :
 wpAny (model prog w) A (call (.builtin "sorted") [.ref a]) Q E s:=by
 have hl:kvs.length=ns.length:=by have:=congrArg List.length hk;rw[aE,aE]at this;exact this
 refine Calls.call_function_entry kind_sorted plain_sorted entry_sorted (args_sorted1 _) ?_
 unfold Builtin.«sorted»
 refine wpAny_bind (m:=checkCount "sorted" 1 1 _) (wpAny_pure ?_)
 refine wpAny_bind (HW (A:=A.in1) hh hd (by lia) hS λvs H1 tk hvl hva hsz hk1=>?_)
 have hI:IntsAre vs ns:=intsAre_of (by rw[hvl,hl]) λi v hv=>by
  obtain⟨k,x,e1,e2⟩:=hva i v hv
  have e3:(kvs.map (·.1))[i]?=some k:=by rw[bT,e1];rfl
  rw[hk,bT]at e3
  cases e4:ns[i]? with
  |none=>rw[e4]at e3;cases e3
  |some n=>
   rw[e4]at e3
   cases e3
   obtain⟨t,rfl⟩:=HX e2
   exact⟨n,t,rfl,rfl⟩
 have h64:vs.length<64:=by lia
 refine wpAny_bind (wpAny_newList ?_ (by rw[sizeLine_eq];lia))
 have hoL:(H1.push (seqObj "list" vs.toArray 0)).get? H1.objs.size=some (seqObj "list" vs.toArray 0):=Heap.get?_push_size _ rfl
 refine wpAny_bind (wpAny_holding (wpAny_call_entry slot_list_sort ⟨_,hoL,rfl⟩ entry_list_sort (list_sort_tree (s:={s with heap:=H1.push (seqObj "list" vs.toArray 0),toks:=tk}) hoL hI h64 λout ns' a1 a2 a3=>⟨_,rfl,?_⟩) (args_list_sort _)))
 obtain⟨c,hc⟩:=sortedHeap_at (out:=out) (vs:=vs) hoL
 refine wpAny_pure ⟨_,rfl,h _ _ _ out c ns' (λb o hb q=>?_) hsz hc a1 a2 a3⟩
 have hb1:b<H1.objs.size:=cU hb hsz
 rw[sortedHeap_old (bI hb1) (by rw[size_push'];exact tH hb1),Heap.get?_push_ne _ _ _ (bI hb1)]
 exact hk1 b o hb q
theorem HZ {X:Cx} (hc:X.calm=true):cZ X (.builtin "sorted") (λvs H Q=>∃(a:Addr) (ps:List (Key×V)) (ns:List Int),vs=[.ref a]/\Rd H a (.dK ps)/\ps.map (·.1)=ns.map Sum.inl/\ns.length<64/\∀(l:Addr) (ns':List Int),H l=none->ns'.Perm ns->ns'.Pairwise (·<=·)->Q (.ref l) (upd H l (.lst (ns'.map V.int)))):=by
 intro pins s σ H vs us Q I rv h
 obtain⟨a,ps,ns,rfl,hR,hk,hz,q⟩:=h
 obtain⟨u,rfl,ru⟩:=rv.one
 cases ru
 obtain⟨_,hd,xs,r,m⟩:=(show ObjOk X.prog X.w H s.heap a (.dK ps)from mT I.hok hR)
 obtain⟨ep,m⟩:=m.dictAt
 refine HY (I.ok.hd hc) hd (by rw[<-KV.keys r];exact hk) hz m λh' tk l its c ns' hk hge hl hI hp hs=>?_
 refine⟨.ref l,_,I.laid (t':=tk) (λb o e=>hk b o (Heap.lt_size e) e) hge ?_,rfl,q _ ns' (I.hok.fresh hge) hp hs⟩
 refine⟨by rw[aE,hp.length_eq,sizeLine_eq];lia,its.toList,c,uL hI,by simpa using hl⟩
theorem H0 {X:Cx} (hc:X.calm=true):cZ X (.builtin "sorted") (λvs H Q=>(∃(a:Addr) (ns:List Int),vs=[.ref a]/\SqL X.K H a (ns.map V.int)/\ns.length<64/\∀(l:Addr) (ns':List Int),H l=none->ns'.Perm ns->ns'.Pairwise (·<=·)->Q (.ref l) (upd H l (.lst (ns'.map V.int)))) \/
 ∃(a:Addr)(ps:List (Key×V))(ns:List Int),vs=[.ref a]/\Rd H a (.dK ps)/\ps.map (·.1)=ns.map Sum.inl/\ns.length<64/\∀(l:Addr)(ns':List Int),H l=none->ns'.Perm ns->ns'.Pairwise (·<=·)->Q (.ref l) (upd H l (.lst (ns'.map V.int)))):=by
 intro pins s σ H vs us Q I rv h
 rcases h with h|h
 ·exact GJ pins s σ H vs us Q I rv h
 ·exact HZ hc pins s σ H vs us Q I rv h
end
end Tr
namespace Tr
open PySem PySem.Spec PyProof.Rows L2 PySem.W
noncomputable def AskB{α:Type}(n:Nat)(R:α->Prop):KasT α->Prop
 |.ret a=>R a
 |.ask i j k=>i<n/\j<n/\∀b,AskB n R (k b)
theorem AskB.bind{α β:Type}{n:Nat}{R:α->Prop}{S:β->Prop}{f:α->KasT β}(hf:∀a,R a->AskB n S (f a)):∀{t:KasT α},AskB n R t->AskB n S (t.bind f)
 |.ret a,h=>hf a h
 |.ask i j k,h=>⟨h.1,h.2.1,λb=>AskB.bind hf (h.2.2 b)⟩
noncomputable def BelA(n:Nat)(p:Array Nat):Prop:=∀x∈p.toList,x<n
theorem BelA.getD{n:Nat}{p:Array Nat}(h:BelA n p)(h0:0<n)(i:Nat):p.getD i 0<n:=by
 by_cases hi:i<p.size
 ·rw[show p.getD i 0=p[i] by simp[Array.getD,hi]]
  exact h _ (by simp)
 ·rw[show p.getD i 0=0 by simp[Array.getD,hi]];exact h0
theorem BelA.perm{n:Nat}{p q:Array Nat}(h:BelA n p)(e:q.Perm p):BelA n q:=λx hx=>h x ((Array.perm_iff_toList_perm.mp e).mem_iff.mp hx)
theorem BelA.rev{n:Nat}{p:Array Nat}(h:BelA n p)(i j:Nat):BelA n (kas_rev p i j):=h.perm (mirror_perm ..)
theorem vG{n:Nat}(h0:0<n){p:Array Nat}(h:BelA n p):∀f m,AskB n (λ_=>True) (kas_asc p f m)
 |0,_=>trivial
 |f+1,m=>⟨h.getD h0 _,h.getD h0 _,λb=>by
  cases b with
  |true=>exact trivial
  |false=>exact vG h0 h f (m+1)⟩
theorem qI{n:Nat}(h0:0<n):∀(f:Nat)(p:Array Nat)(m q:Nat),BelA n p->AskB n (λr:Array Nat×Nat×Nat=>BelA n r.1) (kas_desc f p m q)
 |0,_,_,_,h=>h
 |f+1,p,m,q,h=>⟨h.getD h0 _,h.getD h0 _,λb=>by
  cases b with
  |true=>
   dsimp only
   rw[if_pos rfl]
   split
   ·exact qI h0 f _ _ _ (h.rev _ _)
   ·exact qI h0 f _ _ _ h
  |false=>
   dsimp only
   rw[if_neg aO]
   exact⟨h.getD h0 _,h.getD h0 _,λb=>by
    cases b with
    |true=>exact h
    |false=>exact qI h0 f _ _ _ h⟩⟩
theorem By{n:Nat}(h0:0<n){p:Array Nat}(h:BelA n p)(m r:Nat):AskB n (λr:Nat×Array Nat=>BelA n r.2) (kas_tail3 m r p):=by
 unfold kas_tail3
 refine AskB.bind (R:=λ_=>True) ?_ (vG h0 (h.rev 0 m) _ _)
 exact λ_ _=>h.rev 0 m
theorem Bz{n:Nat}(h0:0<n){p:Array Nat}(h:BelA n p)(m r:Nat):AskB n (λr:Nat×Array Nat=>BelA n r.2) (kas_descPart m r p):=
 AskB.bind (λz hz=>by
  split
  ·exact By h0 (BelA.rev hz _ _) _ _
  ·exact By h0 hz _ _) (qI h0 _ p _ _ h)
theorem H_{n:Nat}(h0:0<n){p:Array Nat}(h:BelA n p)(r:Nat):AskB n (λr:Nat×Array Nat=>BelA n r.2) (kas_count r p):=
 AskB.bind (R:=λ_=>True) (λm _=>by
  split
  ·exact h
  ·split
   ·exact⟨h.getD h0 _,h.getD h0 _,λb=>by
     cases b with
     |true=>exact h
     |false=>exact Bz h0 (h.rev _ _) _ _⟩
   ·exact Bz h0 h _ _) (vG h0 h _ _)
theorem vH{n:Nat}(h0:0<n){p:Array Nat}(h:BelA n p)(k:Nat):∀f l r,AskB n (λ_=>True) (kas_place p k f l r)
 |0,_,_=>trivial
 |f+1,l,r=>by
  show AskB n _ (if l≥r then _ else _)
  split
  ·exact trivial
  ·exact⟨h.getD h0 _,h.getD h0 _,λb=>by
    cases b with
    |true=>exact vH h0 h k f _ _
    |false=>exact vH h0 h k f _ _⟩
theorem CA{n:Nat}(h0:0<n):∀(f:Nat)(p:Array Nat)(k:Nat),BelA n p->AskB n (λr:Array Nat=>BelA n r) (kas_bin f p k)
 |0,_,_,h=>h
 |f+1,p,k,h=>AskB.bind (R:=λ_=>True) (λl _=>CA h0 f _ _ (h.perm (bubble_perm ..))) (vH h0 h k k 0 k)
theorem Ha{n:Nat}(h0:0<n):AskB n (λr:Array Nat=>BelA n r) (kas_sort n):=
 AskB.bind (λr hr=>by
  split
  ·exact CA h0 _ _ _ hr
  ·exact hr) (H_ h0 (λx hx=>by simpa using hx) n)
noncomputable def TpI (h:Heap) (v:Value) (ks:List Int):Prop:=∃a o items n,v=.ref a/\h.get? a=some o/\o.cls=.type "tuple" /\ o.data=.seq items n/\IntsAre items.toList ks
section
variable{prog:Program}{w:World}{A:Around}{E:Value->Shared->Prop}{s:Shared}
theorem CB{α:Type}{n:Nat}{R:α->Prop}{lt:Nat->Nat->Bool}{cmp:Nat->Nat->(Bool->Shared->Prop)->Shared->Prop}{Q:α->Shared->Prop}(hc:∀i j C,i<n->j<n->C (lt i j) s->cmp i j C s):∀(t:KasT α),AskB n R t->Q (mW lt t) s->t.kasWp cmp Q s
 |.ret a,_,h=>h
 |.ask i j k,hb,h=>hc i j _ hb.1 hb.2.1 (CB hc (k (lt i j)) (hb.2.2 _) h)
theorem Hc{a b:Int}{t u:Tok}{Q:Value->Shared->Prop}(h:Q (.bool (decide (a<b))) s):wpAny (model prog w) A (richCompare .Lt (.int a t) (.int b u)) Q E s:=
 wpAny_richCompare_same (op:=.Lt) (typeIs_int s a t) (typeIs_int s b u) slot_int_lt (call_int_lt ⟨nofun,h⟩) rfl
theorem Hd {x y:List Int} {a b:Addr} {oa ob:Obj} {xs ys:Array Value} {na nb:Nat} {P:PySem.Fin->Shared->Prop} (hoa:s.heap.get? a=some oa) (hda:oa.data=.seq xs na) (hia:IntsAre xs.toList x) (hob:s.heap.get? b=some ob) (hcb:ob.cls=.type "tuple") (hdb:ob.data=.seq ys nb) (hib:IntsAre ys.toList y) (h:P (.done (.ret (.bool (eX x y)))) s) :
 wpAny (model prog w) A (Builtin.«tuple.__lt__» ⟨[.ref a,.ref b],[]⟩) P E s:=by
 have hTb:s.TypeIs (.ref b) "tuple" := ⟨ob,hob,hcb⟩
 show wpAny _ _ (isInstance (.ref b) (.type "tuple")>>=_) _ _ s
 refine wpAny_bind (wpAny_isInstance hTb isSubtype_tuple_tuple ?_)
 simp only[Bool.not_true,mF,if_false]
 refine wpAny_bind (wpAny_tupleItemsOf hoa hda ?_)
 refine wpAny_bind (wpAny_tupleItemsOf hob hdb ?_)
 refine wpAny_bind ?_
 refine wpAny_forIn_list _
  (λrest r s'=>r.1=none/\s'=s/\∃x' y' xs' ys',rest=List.zip xs' ys'/\IntsAre xs' x'/\IntsAre ys' y'/\eX x' y'=eX x y/\decide (xs'.length<ys'.length)=decide (xs.size<ys.size))
  _ ?_ ?_ _ _ ⟨rfl,rfl,x,y,xs.toList,ys.toList,rfl,hia,hib,rfl,by simp⟩
 ·rintro⟨u,v⟩ rest r s' ⟨hr,rfl,x',y',xs',ys',hz,hx',hy',hdec,hlen⟩
  cases hx' with
  |nil=>simp at hz
  | @cons k1 u' x'' xs'' hx''=>
   cases hy' with
   |nil=>simp at hz
   | @cons k2 v' y'' ys'' hy''=>
    simp only[List.zip_cons_cons,List.cons.injEq,Prod.mk.injEq]at hz
    obtain⟨⟨rfl,rfl⟩,rfl⟩:=hz
    refine wpAny_bind (wpAny_eqBool_int ?_)
    by_cases hk:k1=k2
    ·subst hk
     simp only[beq_self_eq_true,Bool.not_true,mF,if_false]
     refine wpAny_pure ⟨rfl,rfl,xs'',ys'',x'',y'',rfl,hx'',hy'',?_,by simpa using hlen⟩
     rw[<-hdec,eX,if_pos rfl]
    ·rw[show(k1==k2)=false by simpa using hk]
     simp only[LM,if_true]
     rw[<-hdec,eX,if_neg hk]at h
     refine wpAny_bind (wpAny_rule (wpAny_bind (Hc ?_)))
     exact wpAny_bind (wpAny_pure (wpAny_pure (wpAny_pure h)))
 ·rintro⟨r1,r2⟩ s' ⟨hr,rfl,x',y',xs',ys',hz,hx',hy',hdec,hlen⟩
  simp only at hr
  subst hr
  refine wpAny_pure ?_
  have hfin:decide (xs.size<ys.size)=eX x y:=by
   rw[<-hdec,<-hlen]
   cases hx' with
   |nil=>
    cases hy' with
    |nil=>simp[eX]
    |cons _ _=>simp[eX]
   |cons _ _=>
    cases hy' with
    |nil=>simp[eX]
    |cons _ _=>simp at hz
  show P (.done (.ret (.bool (decide (xs.size<ys.size))))) s'
  rw[hfin];exact h
end
noncomputable def TpV(K:PySem.W.Frag)(H:Hp):List V->List (List Int)->Prop
 |[],kss=>kss=[]
 |v::r,kss=>∃a ks q,v=.ref a/\kss=ks::q/\SqT K H a (ks.map V.int)/\TpV K H r q
theorem CC:∀{xs:List V} {its:List Value},Vals xs its->∀i,RelV (xs.getD i .non) (its.getD i Value.none)
 |_,_,.nil,i=>by cases i<;>exact rfl
 |_,_,.cons r1 r,0=>r1
 |_,_,.cons r1 r,i+1=>CC r i
theorem CD{xs:List V}{its:List Value}(r:Vals xs its):∀ps:List Nat,Vals (ps.map λi=>xs.getD i .non) (ps.map λi=>its.getD i Value.none)
 |[]=>.nil
 |p::ps=>.cons (CC r p) (CD r ps)
end Tr
namespace Tr
open PySem PySem.Spec PyProof.Rows L2
section
variable{prog:Program}{w:World}{A:Around}{s:Shared}{d:Addr}{es:Array DictEntry}{ep:Nat}
end
theorem CF{K:PySem.W.Frag}{H:Hp}{O:Addr->Prop}:∀{ds:List D} {kss:List (List Int)} {xs:List V},jK ds=.ok kss->RDs K H O ds xs->TpV K H xs kss
 |[],kss,xs,h,r=>by
  cases h
  cases (show xs=[]from r)
  exact rfl
 |.tup ks::ds,kss,xs,h,r=>by
  obtain⟨a,e1,h⟩:=Res.bind_ok (show(cN ks>>=λa=>jK ds>>=λq=>Res.ok (a::q))=.ok kss from h)
  obtain⟨q,e2,h⟩:=Res.bind_ok h
  cases h
  obtain⟨v,r',rfl,⟨b,ys,rfl,h1,h2⟩,h3⟩:=r
  rw[qG e1 h2]at h1
  exact⟨b,a,q,rfl,rfl,h1.sq,CF e2 h3⟩
 |.non::_,_,_,h,_ | .bl _::_,_,_,h,_ | .int _::_,_,_,h,_ | .str _::_,_,_,h,_ | .lst _::_,_,_,h,_ | .dct _::_,_,_,h,_ | .tdc _::_,_,_,h,_=>by cases h
theorem CG{K:PySem.W.Frag}{H:Hp}{O:Addr->Prop}:∀{ds:List D} {xs:List V},RDs K H O ds xs->∀i,RD K H O (ds.getD i .non) (xs.getD i .non)
 |[],xs,h,i=>by
  cases (show xs=[]from h)
  cases i<;>exact rfl
 |d::ds,xs,h,0=>by
  obtain⟨v,r,rfl,h1,_⟩:=h
  exact h1
 |d::ds,xs,h,i+1=>by
  obtain⟨v,r,rfl,_,h2⟩:=h
  exact CG h2 i
theorem vI{K:PySem.W.Frag}{H:Hp}{O:Addr->Prop}{ds:List D}{xs:List V}(h:RDs K H O ds xs):∀ps:List Nat,RDs K H O (ps.map λi=>ds.getD i .non) (ps.map λi=>xs.getD i .non)
 |[]=>rfl
 |p::ps=>⟨_,_,rfl,CG h p,vI h ps⟩
section
variable{T:Tab}{cf:Nat->List D->Res D}{X:Cx}{x:E}{p:Expr}{pos:Pos}
end
end Tr
namespace Tr
open PySem PySem.Spec PyProof.Rows L2 PySem.W
section
variable{P:Program}{w:World}{K:PySem.W.Frag}{mg:Str->Option Value}{base:Heap}
theorem He{N ps:List Str}{name qual:Str}{params:Arguments}{body:Expr}{scope:Scope}{pm ctv:Value}{f c:Addr}{A:Around}{outer:List Env}{s:Shared}{H:Hp}{us:List Value}{vs:List V}{Q:VK}{t:TE}{k:Nat}
 (hf:s.heap.get? f=some (kla_obj name qual params body scope [] pm c ctv)) (hc:s.heap.CodeRec (.ref c) qual) (S:FnScope N ps scope) (hb:bindArgs (kla_fn name qual params body scope [] pm (.ref c) ctv) ⟨us,[]⟩=pure (ps.zip us))
 (hr:Room k A) (e0:Env0 P w K mg base A outer s H) (r:Vals vs us) (hl:vs.length=ps.length)
 (hB:PE (eI CX0 P w K mg base N qual scope f (.ref c) A outer s H E0) body t) (h:t (cF N vs) H Q) :
 codeAny (model P w) A (.call (.ref f) ⟨us,[]⟩) (CR CX0 outer P w H s Q E0) s:=by
 have lim:s.heap.NoLimit:=e0.mod.nolimit.keeps λb o e=>(e0.bs b o e).1
 have hkind:∀y∈ps.zip us,scope.names.lookup y.1=some .local\/(scope.names.lookup y.1=some .cell/\((cellsFrom (s.heap.objs.size+1) scope.names []).lookup y.1).isSome=true):=λ⟨n,v⟩ hy=>by
  rcases S.par n (zM hy).1 with q|q
  ·exact .inl q
  ·exact .inr ⟨q,PySem.W.cellsFrom_some _ _ _ (.inl q)⟩
 refine kla_callFunE hr.depth hf rfl S.co S.gen rfl hc ?_
 rw[hb]
 refine wpAny_pure ?_
 refine wpAny_newFunctionEnv_cells S.kind hkind λenv he s1 x=>?_
 subst he
 refine⟨lim.keeps x.toInCall.keep,kla_codeExpr ?_⟩
 have I:Inv (eI CX0 P w K mg base N qual scope f (.ref c) A outer s H E0) [] (cF N vs) H s1:=AX S hr.hd e0 hl r x
 exact wpAny_mono (hB [] s1 (cF N vs) H _ I h) (λu s' ⟨v,H',J,rv,q⟩=>⟨v,H',J.os,J.bare,J.base,J.hok,rv,q⟩) λe s' hs=>hs
end
theorem CI{p q:Pos}{c:Addr}:∀(l:List Value),TriplesOk l->∀cv,codeAmong p (l++[rawInt q.line,rawInt q.col,.ref c])=some cv->codeAmong p l=some cv\/cv=.ref c
 |[],_,cv,h=>by
  have h:(if(q.line:Int)==p.line&&(q.col:Int)==p.col then some (Value.ref c)else none)=some cv:=h
  split at h
  ·cases h;exact .inr rfl
  ·cases h
 |.int a t::.int b u::v::r,ht,cv,h=>by
  have h:(if a==p.line&&b==p.col then some v else codeAmong p (r++[rawInt q.line,rawInt q.col,.ref c]))=some cv:=h
  show(if a==p.line&&b==p.col then some v else codeAmong p r)=some cv\/_
  split at h
  ·rename_i z
   rw[if_pos z]
   exact .inl h
  ·rename_i z
   rw[if_neg z]
   exact CI r ht cv h
section
variable{X:Cx}{pins:List (Addr×Obj)}{σ:L2.St}{H:Hp}{s:Shared}
theorem Hf {p:Pos} {params:Arguments} {body:Expr} {scope:Scope} {P c0:Addr} (I:Inv X pins σ H s) (hcode:X.env.code=.ref c0) (hd:codeHdIn X.K c0 P=true) (hP:H P=some (.ctab p (X.env.qual ++ "<lambda>"))) (hbm:BmK X.K H)
 (hdef:defaultsOf params X.env=([],[])) (hcl:closureFor scope X.env=pure []) {Q:Value->Shared->Prop} {E:Value->Shared->Prop}
 (h:∀f c ctv pm oc vs t s' H',Inv X ((f,kla_obj "<lambda>" (X.env.qual ++ "<lambda>") params body scope [] pm c ctv)::pins) σ H' s'->Same H H'->H' c=some (.frz oc (.own P))->oc.data=.fields vs->vs[1]?=some (.str (X.env.qual ++ "<lambda>") t)->Q (.ref f) s') :
 wpAny (model X.prog X.w) X.A (eval (.Lambda params body scope p) X.env) Q E s:=by
 obtain⟨ps,hT,tr,hc⟩:=(show ObjOk X.prog X.w H s.heap P (.ctab p _)from I.hok P _ hP)
 obtain⟨bm,ob,b1,b2,b3,b4,b5,b6⟩:=hbm
 have hg:s.heap.Ns mainGlobals X.mg:=I.mod.glob.keeps I.bk
 have hgP:mainGlobals≠P:=λz=>by
  obtain⟨o,es,ep,e,_⟩:=I.mod.glob
  have:=(I.bs _ _ e).2
  rw[z,hP]at this;cases this
 have hbo:s.heap.get? bm=some ob:=(show ObjOk X.prog X.w H s.heap bm (.frz ob (.own bm))from I.hok bm _ b2).1
 have hbG:bm≠mainGlobals:=λz=>by
  obtain⟨o,es,ep,e,_⟩:=I.mod.glob
  have:=(I.bs _ _ e).2
  rw[<-z,b2]at this;cases this
 have hbP:bm≠P:=λz=>by rw[z,hP]at b2;cases b2
 have hB:s.heap.BuiltinsAt X.mg P:=⟨bm,ob,mg_of I.mod.kin I.mod.glob b1,b6,hbG,hbP,hbo,b3,b4,b5⟩
 have C:CodeHd s.heap c0 P:=codeHd_of_K I.kIn hd
 have hLlt:=I.lt
 have fsn:∀b∈X.fs,b<s.heap.objs.size:=λb hb=>by
  obtain⟨_,o,ho,_⟩:=I.ok.funs.mem hb
  obtain⟨o',e⟩:=I.base.there b o ho (λz=>I.ok.exfs b z hb)
  exact Heap.lt_size e
 have pin:∀{s':Shared} {H':Hp} {f c:Addr} {ctv pm:Value},Inv X pins σ H' s'->s'.heap.get? f=some (kla_obj "<lambda>" (X.env.qual ++ "<lambda>") params body scope [] pm c ctv)->H' f=none->s.heap.objs.size<=f->Inv X ((f,kla_obj "<lambda>" (X.env.qual ++ "<lambda>") params body scope [] pm c ctv)::pins) σ H' s':=λJ e n le=>
  J.pins_of λq hq=>by
   rcases aV.mp hq with z|z
   ·subst z
    exact⟨e,n,λz=>absurd hLlt (by rw[<-z];exact Ed.mpr le),λz=>absurd (fsn _ z) (Ed.mpr le),λv z=>by cases z⟩
   ·exact J.pin q (cR _ z)
 refine kla_eval hdef ?_
 cases hf:codeAmong p ps.toList with
 |some cv=>
  obtain⟨c,oc,vs,t,rfl,e2,e3,e4⟩:=hc cv hf
  refine kla_makeFunctionHit (mg:=X.mg) hcl I.ok.glob hg hcode C hT tr hf hB λctv h' tk hk hsz=>?_
  have k2:∀b o,s.heap.get? b=some o->(h'.push {cls:=.type "function", data:=.func (kla_fn "<lambda>" (X.env.qual ++ "<lambda>") params body scope [] ((X.mg "__name__").getD .none) (.ref c) ctv) }).get? b=some o:=λb o e=>Heap.get?_push_of_some _ (hk b o e)
  have J:Inv X pins σ H {s with heap:=h'.push {cls:=.type "function", data:=.func (kla_fn "<lambda>" (X.env.qual ++ "<lambda>") params body scope [] ((X.mg "__name__").getD .none) (.ref c) ctv) },toks:=tk}:=I.kept k2
  exact h _ c ctv _ oc vs t _ H (pin J (Heap.get?_push_size _ rfl) (I.hok.fresh hsz) hsz) (Same.refl H) e2 e3 e4
 |none=>
  refine kla_makeFunction (mg:=X.mg) hcl I.ok.glob hg hcode C hT tr hf hgP hB λc ctv h' tk hx hge hlt hrec htb=>?_
  obtain⟨c2,oc,vs,t,e,hoc,hdd,hv⟩:=hrec
  cases e
  have nc:H c=none:=I.hok.fresh hge
  have k2:∀b o,b≠P->s.heap.get? b=some o->(h'.push (kla_obj "<lambda>" (X.env.qual ++ "<lambda>") params body scope [] ((X.mg "__name__").getD .none) c ctv)).get? b=some o:=λb o hb e=>Heap.get?_push_of_some _ (hx b o hb e)
  have hP':(h'.push (kla_obj "<lambda>" (X.env.qual ++ "<lambda>") params body scope [] ((X.mg "__name__").getD .none) c ctv)).get? P=some (tabObj (ps++#[rawInt p.line,rawInt p.col,.ref c])):=Heap.get?_push_of_some _ htb
  have hoc':(h'.push (kla_obj "<lambda>" (X.env.qual ++ "<lambda>") params body scope [] ((X.mg "__name__").getD .none) c ctv)).get? c=some oc:=Heap.get?_push_of_some _ hoc
  have hff:(h'.push (kla_obj "<lambda>" (X.env.qual ++ "<lambda>") params body scope [] ((X.mg "__name__").getD .none) c ctv)).get? h'.objs.size=some (kla_obj "<lambda>" (X.env.qual ++ "<lambda>") params body scope [] ((X.mg "__name__").getD .none) c ctv):=Heap.get?_push_size _ rfl
  have nP:∀{b},H b=none->b≠P:=λe z=>by rw[z,hP]at e;cases e
  have ncu:∀{b u},H b=some u->b≠c:=λe z=>by rw[z,nc]at e;cases e
  have hle:s.heap.objs.size<=h'.objs.size:=bX hge (jF hlt)
  generalize h'.push (kla_obj "<lambda>" (X.env.qual ++ "<lambda>") params body scope [] ((X.mg "__name__").getD .none) c ctv)=h2 at *
  have J:Inv X pins σ (upd H c (.frz oc (.own P))) {s with heap:=h2,toks:=tk}:=by
   refine I.step (h':=h2) (g':=s.gens) (d':=s.drawn) (t':=tk) (ch:=[]) (λb hb=>by cases hb) (λb u _ _ _ x1 x2=>k2 b u (nP x2) x1) (λb u _ _ _ x1 x2=>⟨u.slots,k2 b u (nP x2) x1⟩) (λb u _ x1 x2=>?_) (λb u _ x1=>?_) (λb xs x1=>?_) (λb v w x1=>?_) (λb qs x1=>⟨#[],?_⟩) (λm x1=>?_) (λb v x1=>?_) I.bare
   ·rw[aH (bI (cU (Heap.lt_size x1) hge))];exact x2
   ·by_cases z:b=P
    ·exact⟨_,by rw[z];exact hP'⟩
    ·exact⟨u,k2 b u z x1⟩
   ·rw[aH (ncu x1)];exact x1
   ·rw[aH (ncu x1)];exact x1
   ·rw[aH (ncu x1)];simpa using x1
   ·obtain⟨o',es,ep,y1,y2⟩:=x1
    exact⟨o',es,ep,k2 _ _ (nP I.free) y1,y2⟩
   ·by_cases z:b=c
    ·subst z
     rw[bM]at x1
     cases x1
     exact⟨hoc',_,hoc'⟩
    ·rw[aH z]at x1
     by_cases z2:b=P
     ·subst z2
      rw[hP]at x1
      cases x1
      refine⟨_,hP',?_,λcv q=>?_⟩
      ·rw[LN]
       exact TriplesOk_snoc _ _ _ _ tr
      ·rw[LN]at q
       rcases CI _ tr cv q with w|w
       ·obtain⟨c2,oc2,vs2,t2,g1,g2,g3⟩:=hc cv w
        exact⟨c2,oc2,vs2,t2,g1,by rw[aH (ncu g2)];exact g2,g3⟩
       ·exact⟨c,oc,vs,t,w,bM,hdd,hv⟩
     ·refine(I.hok b v x1).stay (λc2 u hc2 y1=>k2 c2 u ?_ y1) (λc2 y1=>by rw[aH (ncu y1)];exact y1) (λc2 xs y1=>by rw[aH (ncu y1)];exact y1) λc2 o2 u2 y1=>by rw[aH (ncu y1)];exact y1
      rcases hc2 with w|w
      ·rw[w];exact z2
      ·intro w2
       rw[w2,hP]at w;cases w
  have nf:upd H c (.frz oc (.own P)) h'.objs.size=none:=by
   rw[aH (kT hlt)]
   exact I.hok.fresh hle
  exact h _ c ctv _ oc vs t _ _ (pin J hff nf hle) (λb o e=>by rw[aH (ncu e)];exact e) bM hdd hv
end
theorem CJ:∀x:List Int,eX x x=false
 |[]=>rfl
 |a::x=>by rw[eX,if_pos rfl];exact CJ x
noncomputable def TpK (h:Heap) (v:Value) (ks:List Int):Prop:=∃a o n t u,v=.ref a/\h.get? a=some o/\o.cls=.type "tuple" /\ o.data=.seq #[.int (ks.length:Nat) t,u] n/\TpI h u ks
noncomputable def TpKs(h:Heap):List Value->List (List Int)->Prop
 |[],kss=>kss=[]
 |v::vs,kss=>∃ks r,kss=ks::r/\TpK h v ks/\TpKs h vs r
theorem TpKs.at{h:Heap}:∀{vs:List Value} {kss:List (List Int)},TpKs h vs kss->∀i,i<vs.length->TpK h (vs.getD i .none) (kss.getD i [])
 |v::vs,_,e,0,_=>by
  obtain⟨ks,r,rfl,e,_⟩:=e
  exact e
 |v::vs,_,e,i+1,hi=>by
  obtain⟨ks,r,rfl,_,e⟩:=e
  exact TpKs.at e i (by rw[aW]at hi;lia)
theorem TpKs.tups{h:Heap}:∀{vs:List Value} {kss:List (List Int)},TpKs h vs kss->∃fs,KatTups h vs fs/\fs.length=vs.length/\∀f∈fs,∃n t,f=.int n t
 |[],_,_=>⟨[],.nil,rfl,λf hf=>by cases hf⟩
 |v::vs,_,e=>by
  obtain⟨ks,r,rfl,⟨a,o,n,t,u,rfl,h1,h2,h3,_⟩,e⟩:=e
  obtain⟨fs,g1,g2,g3⟩:=TpKs.tups e
  refine⟨.int (ks.length:Nat) t::fs,.cons h1 h2 h3 rfl g1,by rw[aW,aW,g2],λf hf=>?_⟩
  rcases aV.mp hf with z|z
  ·exact⟨_,_,z⟩
  ·exact g3 f z
section
variable{prog:Program}{w:World}{A:Around}{E:Value->Shared->Prop}{s:Shared}
theorem Hg{ks:List Value}{kss:List (List Int)}{Q:SortKind->Shared->Prop}(t:TpKs s.heap ks kss)(h0:0<ks.length)(h:Q (tuples' true) s):wpAny (model prog w) A (keyKind' ks.toArray) Q E s:=by
 obtain⟨fs,g1,g2,g3⟩:=t.tups
 refine kat_kind (T:=.type "int") g1 (by lia) (λv hv=>?_) (by decide) h
 obtain⟨n,t,rfl⟩:=g3 v hv
 exact .now
theorem CK {h:Heap} {a:Addr} {o:Obj} {xs:Array Value} {n:Nat} {x:List Int} (h1:h.get? a=some o) (h2:o.cls=.type "tuple") (h3:o.data=.seq xs n) (h4:IntsAre xs.toList x):IsTupleKey (intKind prog w) h x a:=by
 refine⟨o,xs,n,h1,h2,h3,?_⟩
 generalize xs.toList=l at h4
 induction h4 with
 |nil=>exact .nil
 |cons k t _ ih=>exact .cons (by show decide (k=k)=true;simp) ih
theorem key_lt{u v:Value}{x y:List Int}{Q:Bool->Shared->Prop}(hu:A.units<cLine)(hx:TpK s.heap u x)(hy:TpK s.heap v y)(h:Q (kH x y) s):wpAny (model prog w) A (keyLt' (tuples' true) u v) Q E s:=by
 obtain⟨a,oa,na,ta,ua,rfl,a1,a2,a3,a',oa',xs,na',rfl,b1,b2,b3,b4⟩:=hx
 obtain⟨b,ob,nb,tb,ub,rfl,c1,c2,c3,b',ob',ys,nb',rfl,d1,d2,d3,d4⟩:=hy
 refine kat_lt a1 a3 c1 c3 ?_
 show KatLex prog w A true (decide (2<2)) Q [(.int (x.length:Nat) ta,.int (y.length:Nat) tb),(.ref a',.ref b')] 0 s
 refine kat_cons (wpAny_eqBool_int ?_)
 by_cases hl:x.length=y.length
 ·rw[show(((x.length:Nat):Int)==((y.length:Nat):Int))=true by rw[hl];simp]
  refine kat_yes (kat_cons (wpAny_eqBool_tuple (knd:=intKind prog w) hu (CK b1 b2 b3 b4) (CK d1 d2 d3 d4) ?_))
  unfold kH at h
  rw[if_pos hl]at h
  by_cases he:x=y
  ·rw[decide_eq_true he]
   rw[he,CJ]at h
   exact kat_yes (kat_nil h)
  ·rw[decide_eq_false he]
   refine kat_no (kat_one _ _ ?_)
   have hTa:s.TypeIs (.ref a') "tuple" := ⟨oa',b1,b2⟩
   have hTb:s.TypeIs (.ref b') "tuple" := ⟨ob',d1,d2⟩
   refine wpAny_richCompare_same_or (op:=.Lt) hTa hTb F.slot_tuple_lt (wpAny_call_entry F.slot_tuple_lt hTa F.entry_tuple_lt (Hd b1 b3 b4 d1 d2 d3 d4 ⟨_,rfl,?_⟩) (F.args_tuple_lt_2 _ _)) (.inr hu)
   exact⟨nofun,h⟩
 ·rw[show(((x.length:Nat):Int)==((y.length:Nat):Int))=false by rw[beq_eq_false_iff_ne];lia]
  unfold kH at h
  rw[if_neg hl]at h
  refine kat_no (oneLt_int ?_)
  rw[show decide (((x.length:Nat):Int)<((y.length:Nat):Int))=decide (x.length<y.length) by by_cases z:x.length<y.length<;>simp[z]]
  exact h
theorem Hh {a kS:Addr} {vs ks:List Value} {kss:List (List Int)} {e e1:Nat} {P:PySem.Fin->Shared->Prop} (hka:kS≠a) (hk:s.heap.get? kS=some (seqObj "list" ks.toArray e)) (ha:s.heap.get? a=some (seqObj "list" #[] e1))
 (ht:TpKs s.heap ks kss) (hl:ks.length=vs.length) (hn:kss.length=vs.length) (h64:vs.length<64) (hu:A.units<cLine)
 (h:(bS kss).length=vs.length->∀c1 c2,((s.heap.update kS (Obj.mapSeq λ_=>(#[]:Array Value))).update a (Obj.mapSeq λ_=>eO ((bS kss).map λi=>vs.getD i Value.none))).get? kS=some (seqObj "list" #[] c1)->((s.heap.update kS (Obj.mapSeq λ_=>(#[]:Array Value))).update a (Obj.mapSeq λ_=>eO ((bS kss).map λi=>vs.getD i Value.none))).get? a=some (seqObj "list" (eO ((bS kss).map λi=>vs.getD i Value.none)) c2) ->
  P (.done (.ret .none)) {s with heap:=(s.heap.update kS (Obj.mapSeq λ_=>(#[]:Array Value))).update a (Obj.mapSeq λ_=>eO ((bS kss).map λi=>vs.getD i Value.none)) }) :
 wpAny (model prog w) A (ksk_end a false vs.toArray e1 (.ref kS) ks.toArray) P E s:=by
 have tail:∀st':SortSt,(arrOf st').map (·.2)=eO ((bS kss).map λi=>vs.getD i Value.none)->(bS kss).length=vs.length->failedOf st'=none->wpAny (model prog w) A (ksk_tail a false e1 (.ref kS) st') P E s:=by
  intro st' hout hlen hf
  have hsz:(eO ((bS kss).map λi=>vs.getD i Value.none)).size=vs.length:=by rw[bG,aE,hlen]
  have s1:=Heap.SameBut.update s.heap kS (Obj.mapSeq λ_=>(#[]:Array Value))
  have na:(s.heap.update kS (Obj.mapSeq λ_=>(#[]:Array Value))).get? a=some (seqObj "list" #[] e1):=(s1.2 a hka.symm).trans ha
  obtain⟨ck,hck⟩:∃ck,(s.heap.update kS (Obj.mapSeq λ_=>(#[]:Array Value))).get? kS=some (seqObj "list" #[] ck):=⟨_,get?_update_seq hk λ_=>#[]⟩
  have s2:=Heap.SameBut.update (s.heap.update kS (Obj.mapSeq λ_=>(#[]:Array Value))) a (Obj.mapSeq λ_=>eO ((bS kss).map λi=>vs.getD i Value.none))
  obtain⟨c2,hc2⟩:∃c2,((s.heap.update kS (Obj.mapSeq λ_=>(#[]:Array Value))).update a (Obj.mapSeq λ_=>eO ((bS kss).map λi=>vs.getD i Value.none))).get? a=some (seqObj "list" (eO ((bS kss).map λi=>vs.getD i Value.none)) c2):=⟨_,get?_update_seq na λ_=>eO ((bS kss).map λi=>vs.getD i Value.none)⟩
  unfold ksk_tail
  dsimp only
  rw[hout]
  refine wpAny_bind (listUpdate_at hk rfl ?_ (by rw[bG,sizeLine_eq];lia) (eW _))
  refine wpAny_bind (wpAny_letGo ?_)
  refine wpAny_bind (seqEpoch_at na rfl ?_)
  rw[if_neg aO]
  refine wpAny_bind (listUpdate_at na rfl ?_ (eW _) (bX (Ee hsz) (by rw[sizeLine_eq];lia)))
  rw[hf]
  simp only[bne_self_eq_false,mF,if_false]
  exact wpAny_pure (h hlen ck c2 ((s2.2 kS hka).trans hck) hc2)
 unfold ksk_end
 dsimp only
 rw[if_neg aO]
 by_cases h2:vs.length<2
 ·have hn2:vs.toArray.size<2:=by rw[bG];exact h2
  rw[if_pos hn2,if_pos hn2]
  refine wpAny_bind (wpAny_pure ?_)
  rw[if_neg aO,StateT.run_pure]
  refine wpAny_bind (wpAny_pure ?_)
  have e0:bS kss=aD vs.length:=by unfold bS;rw[if_pos (by lia),hn]
  refine tail _ ?_ (by rw[e0,cC]) rfl
  apply Eb.mp
  rw[e0]
  show((ks.toArray.zip vs.toArray).map (·.2)).toList=_
  rw[Array.toList_map,ksk_zip]
  rcases vs with _|⟨v,_|⟨v2,r⟩⟩
  ·simp
  ·rcases ks with _|⟨k,_|⟨k2,r⟩⟩
   ·cases hl
   ·rfl
   ·cases hl
  ·exact absurd h2 (by rw[aW,aW];lia)
 have hn2:¬vs.toArray.size<2:=by rw[bG];exact h2
 rw[if_neg hn2,if_neg hn2]
 refine wpAny_bind (Hg ht (by lia) ?_)
 rw[if_neg aO]
 have run:=kat_run (prog:=prog) (w:=w) (A:=A) (κ:=tuples' true) (ks:=ks) (vs:=vs) (E:=E) (s:=s) (Q:=λst' s'=>∃p:Array Nat,p.size=vs.length/\arrOf st'=p.map (kas_item (ks.toArray.zip vs.toArray))/\failedOf st'=none/\p=mW (λi j=>kH (kss.getD i []) (kss.getD j [])) (kas_sort vs.length)/\s'=s)
  (G:=λp s'=>p=mW (λi j=>kH (kss.getD i []) (kss.getD j [])) (kas_sort vs.length)/\s'=s) hl (by lia) h64 (λp st' s' a1 a2 a3 a4=>⟨p,a1,a2,a3,a4⟩)
  (CB (lt:=λi j=>kH (kss.getD i []) (kss.getD j [])) (λi j C hi hj hC=>key_lt hu (ht.at i (by lia)) (ht.at j (by lia)) hC) (kas_sort vs.length) (Ha (by lia)) ⟨rfl,rfl⟩)
 refine wpAny_bind (wpAny_mono run ?_ λ_ _ e=>e)
 rintro⟨⟨⟩,st'⟩ s' ⟨p,hp,har,hf,hpe,rfl⟩
 dsimp only
 have hout:(arrOf st').map (·.2)=eO ((bS kss).map λi=>vs.getD i Value.none):=by
  rw[kat_snds hl har]
  unfold bS
  rw[if_neg (by lia),hn,<-hpe]
 have hlen:(bS kss).length=vs.length:=by
  unfold bS
  rw[if_neg (by lia),hn,<-hpe,oR,hp]
 exact tail st' hout hlen hf
end
noncomputable abbrev eZ(x:Str)(an:Option Expr)(ap:Pos):Arguments:=⟨[],[⟨x,an,ap⟩],none,[],[],none,[]⟩
noncomputable abbrev fT (x:Str) (p1 p2 p3 p4 p5:Pos) (k:Nat):Expr:=.Tuple [.Call (.Name "len" p1) [.Name x p2] [] p3,.Name x p4] k p5
noncomputable abbrev eS (x:Str):Scope:=⟨.function,[(x,.local),("len", .globalImplicit)],false,false,[]⟩
theorem Hj(x:Str):FnScope [x] [x] (eS x):=by
 refine⟨rfl,rfl,rfl,by simp,rfl,λy hy=>?_,λy hy=>?_⟩
 ·rw[cI.mp hy]
  exact .inl (by show zS x [(x,_),_]=_;rw[gU,beq_self_eq_true])
 ·rcases aV.mp hy with z|z
  ·rw[z];exact λq=>by cases q
  ·rw[cI.mp z];exact λq=>by cases q
theorem Hk{name qual x:Str}{an:Option Expr}{ap:Pos}{body:Expr}{scope:Scope}{pm cv ctv u:Value}:bindArgs (kla_fn name qual (eZ x an ap) body scope [] pm cv ctv) ⟨[u],[]⟩=pure [(x,u)]:=by
 have e:zS x [(x,u)]=some u:=by rw[gU,beq_self_eq_true]
 unfold bindArgs
 simp[seqItems?]
 rfl
theorem CL{h:Heap}:∀{vs:List Value} {kss:List (List Int)},kss.length=vs.length->(∀(i:Nat) v ks,vs[i]?=some v->kss[i]?=some ks->TpK h v ks)->TpKs h vs kss
 |[],[],_,_=>rfl
 |[],_::_,h,_=>by cases h
 |_::_,[],h,_=>by cases h
 |v::vs,ks::kss,hl,k=>⟨ks,kss,rfl,k 0 v ks rfl rfl,CL (by simpa using hl) λi v ks h1 h2=>k (i+1) v ks h1 h2⟩
theorem TpV.at{K:PySem.W.Frag}{H:Hp}:∀{xs:List V} {kss:List (List Int)},TpV K H xs kss->∀(i:Nat) x ks,xs[i]?=some x->kss[i]?=some ks->∃a,x=.ref a/\SqT K H a (ks.map V.int)
 |v::xs,_,h,0,x,ks,h1,h2=>by
  obtain⟨a,ks',q,rfl,rfl,h3,_⟩:=h
  cases h1;cases h2
  exact⟨a,rfl,h3⟩
 |v::xs,_,h,i+1,x,ks,h1,h2=>by
  obtain⟨a,ks',q,rfl,rfl,_,h3⟩:=h
  exact TpV.at h3 i x ks h1 h2
theorem TpV.len{K:PySem.W.Frag}{H:Hp}:∀{xs:List V} {kss:List (List Int)},TpV K H xs kss->kss.length=xs.length
 |[],_,h=>by cases (show _=[]from h);rfl
 |v::xs,_,h=>by
  obtain⟨a,ks',q,rfl,rfl,_,h3⟩:=h
  rw[aW,aW,TpV.len h3]
theorem TpV.same{K:PySem.W.Frag}{H H':Hp}(s:Same H H'):∀{xs:List V} {kss:List (List Int)},TpV K H xs kss->TpV K H' xs kss
 |[],_,h=>h
 |v::xs,_,h=>by
  obtain⟨a,ks',q,rfl,rfl,h1,h3⟩:=h
  refine⟨a,ks',q,rfl,rfl,?_,TpV.same s h3⟩
  rcases h1 with(h1|⟨o,h1⟩)|h1
  ·exact .inl (.inl (s _ _ h1))
  ·exact .inl (.inr ⟨o,s _ _ h1⟩)
  ·exact .inr h1
section
variable{X:Cx}{pins:List (Addr×Obj)}{σ:L2.St}{H:Hp}{s:Shared}
noncomputable def KyI(H:Hp)(xs:List V)(kss:List (List Int))(ys:List V):Prop:=∀(j:Nat) y,ys[j]?=some y->∃k x ks,y=.ref k/\xs[j]?=some x/\kss[j]?=some ks/\H k=some (.tup [.int (ks.length:Nat),x])
theorem KyI.same{H H':Hp}{xs:List V}{kss:List (List Int)}{ys:List V}(h:KyI H xs kss ys)(s:Same H H'):KyI H' xs kss ys:=λj y e=>by
 obtain⟨k,x,ks,e1,e2,e3,e4⟩:=h j y e
 exact⟨k,x,ks,e1,e2,e3,s _ _ e4⟩
theorem Hl{xs ys:List V}{us:List Value}{kss:List (List Int)}(I:Inv X pins σ H s)(tv:TpV X.K H xs kss)(ky:KyI H xs kss ys)(r:Vals ys us)(hl:ys.length=xs.length):TpKs s.heap us kss:=by
 have e1:=r.length
 have e2:=tv.len
 refine CL (by lia) λi u ks h1 h2=>?_
 have hi:i<us.length:=(gC.mp h1).1
 obtain⟨y,hy⟩:∃y,ys[i]?=some y:=⟨_,bD (by lia)⟩
 obtain⟨u',h3,ry⟩:=r.get hy
 rw[h1]at h3
 cases h3
 obtain⟨k,x,ks',rfl,g1,g2,g3⟩:=ky i y hy
 rw[h2]at g2
 cases g2
 cases ry
 obtain⟨its,r',⟨o,e,hc,n,hd⟩,_⟩:=I.tuple (show SqT X.K H k _ from .inl (.inl g3))
 obtain⟨a,rfl,hS⟩:=tv.at i x ks g1 h2
 cases r' with
 |cons ra rb=>
  obtain⟨t,rfl⟩:=ra
  cases rb with
  |cons rc rd=>
   cases rc
   cases rd
   obtain⟨its2,r2,⟨o2,e2,hc2,n2,hd2⟩,_⟩:=I.tuple hS
   exact⟨k,o,n,t,.ref a,rfl,e,hc,hd,a,o2,_,n2,rfl,e2,hc2,hd2,by simpa using uM r2⟩
theorem Hm{x:Str}{an:Option Expr}{ap p1 p2 p3 p4 p5:Pos}{k0:Nat}{f c P:Addr}{oc:Obj}{ws:Array Value}{t:Tok}{pm ctv:Value}{qual:Str}{A:Around}{m:Nat}
 (hxl:x ≠ "len") (hxd:(x==("__debug__" : Str))=false) (hxc:(x==("__classdict__" : Str))=false) (hm:X.mg "len" = none)
 (I:Inv X ((f,kla_obj "<lambda>" qual (eZ x an ap) (fT x p1 p2 p3 p4 p5 k0) (eS x) [] pm c ctv)::pins) σ H s) (hcc:H c=some (.frz oc (.own P))) (hd:oc.data=.fields ws) (hv:ws[1]?=some (.str qual t))
 (hr:Room m A) (e0:Env0 X.prog X.w X.K X.mg X.base A X.stack s H) {a:Addr} {ns:List Int} (hS:SqT X.K H a (ns.map V.int)) {Q:VK} (h:∀k H',Same H H'->H' k=some (.tup [.int (ns.length:Nat),.ref a])->Q (.ref k) H') {E:Value->Shared->Prop} :
 wpAny (model X.prog X.w) A (call (.ref f) [.ref a]) (EP X ((f,kla_obj "<lambda>" qual (eZ x an ap) (fT x p1 p2 p3 p4 p5 k0) (eS x) [] pm c ctv)::pins) σ Q) E s:=by
 have hf:=(I.pin _ (cR _ bC)).1
 have hco:s.heap.get? c=some oc:=(show ObjOk X.prog X.w H s.heap c (.frz oc (.own P))from I.hok c _ hcc).1
 have hV:∀(Y:Cx),Y.env.scope=eS x->Vis Y.env.scope x:=λY e=>.inl (by rw[e];show zS x [(x,_),_]=_;rw[gU,beq_self_eq_true])
 refine wpAny_call (codeAny_mono (He (N:=[x]) (ps:=[x]) (vs:=[.ref a]) (us:=[.ref a]) (Q:=Q) (t:=tTup (pI (tCB _ (pI (tVar 0) pH)) (pI (tVar 0) pH))) hf ⟨c,oc,ws,t,rfl,hco,hd,hv⟩ (Hj x) Hk hr e0 (.cons rfl .nil) rfl
  (AN (cM (mP (tY) ?gl hm (by decide +kernel) (cM (eP (i:=0) rfl (hV _ rfl) hxd hxc) eG)) (cM (eP (i:=0) rfl (hV _ rfl) hxd hxc) eG))) ?run) λr s' hq=>?_)
 case gl=>
  show zS ("len" : Str) [(x,NameKind.local),(("len" : Str),.globalImplicit)]=some .globalImplicit
  rw[gU,beq_eq_false_iff_ne.mpr (Ne.symm hxl)]
  rfl
 case run=>
  refine⟨.ref a,rfl,a,ns.map V.int,rfl,.inr hS,.ref a,rfl,?_⟩
  refine⟨by rw[sizeLine_eq];show 2<=_;decide,λk hk=>?_⟩
  refine h k _ (λb o e=>by rw[aH (λz=>by rw[z,hk]at e;cases e)];exact e) ?_
  rw[bM,aE]
 ·cases r with
  |error e=>exact False.elim hq
  |ok fl=>
   cases fl with
   |ret u=>exact I.after hq
   |next=>exact False.elim hq
   |brk=>exact False.elim hq
   |cont=>exact False.elim hq
end
section
variable{X:Cx}{pins:List (Addr×Obj)}{σ:L2.St}{H:Hp}{s:Shared}
theorem Hn{x:Str}{an:Option Expr}{ap p1 p2 p3 p4 p5:Pos}{k0:Nat}{f c P a:Addr}{oc:Obj}{ws:Array Value}{t:Tok}{pm ctv:Value}{qual:Str}{xs:List V}{kss:List (List Int)}
 (hxl:x ≠ "len") (hxd:(x==("__debug__" : Str))=false) (hxc:(x==("__classdict__" : Str))=false) (hm:X.mg "len" = none)
 (I:Inv X ((f,kla_obj "<lambda>" qual (eZ x an ap) (fT x p1 p2 p3 p4 p5 k0) (eS x) [] pm c ctv)::pins) σ H s) (hcc:H c=some (.frz oc (.own P))) (hd:oc.data=.fields ws) (hv:ws[1]?=some (.str qual t))
 (hr:Room 2 X.A) (hS:SqL X.K H a xs) (tv:TpV X.K H xs kss) (h64:xs.length<64) {Q:VK}
 (h:∀H2 l,Same H H2->H l=none->H2 l=some (.lst ((bS kss).map λi=>xs.getD i .non))->Q (.ref l) H2) :
 wpAny (model X.prog X.w) X.A (call (.builtin "sorted") [.ref a] [(Str.ofString "key", .ref f)]) (EP X pins σ Q) X.xe s:=by
 obtain⟨its,r,pl,hz⟩:=I.list hS
 have hl:=r.length
 have hlt:=I.lt
 have fsn:∀b∈X.fs,b<s.heap.objs.size:=λb hb=>by
  obtain⟨_,o,ho,_⟩:=I.ok.funs.mem hb
  obtain⟨o',e⟩:=I.base.there b o ho (λz=>I.ok.exfs b z hb)
  exact Heap.lt_size e
 have pinlt:∀q∈X.pn++((f,kla_obj "<lambda>" qual (eZ x an ap) (fT x p1 p2 p3 p4 p5 k0) (eS x) [] pm c ctv)::pins),q.1<s.heap.objs.size:=λq hq=>Heap.lt_size (I.pin q hq).1
 have celllt:∀y c,X.env.cells.lookup y=some c->c<s.heap.objs.size:=λy c e=>by
  obtain⟨v,o,ho,_⟩:=I.cell y c e
  exact Heap.lt_size ho
 have s0:X.s₀.heap.objs.size<=s.heap.objs.size:=I.sz
 generalize hfo:kla_obj "<lambda>" qual (eZ x an ap) (fT x p1 p2 p3 p4 p5 k0) (eS x) [] pm c ctv=fo at *
 refine call_function_entry_kw kind_sorted plain_sorted entry_sorted (ksk_s1 _ _) ?_
 unfold Builtin.«sorted»
 refine wpAny_bind (m:=checkCount "sorted" 1 1 _) (wpAny_pure ?_)
 refine wpAny_bind (collect_list pl.isList ?_ (by rw[sizeLine_eq];lia))
 refine wpAny_bind (wpAny_newList ?_ (by rw[sizeLine_eq];lia))
 have hsz:((s.heap.push (seqObj "list" #[] 0)).update s.heap.objs.size (Obj.mapSeq (·++its.toArray))).objs.size=s.heap.objs.size+1:=by
  rw[Heap.size_update,size_push']
 have hoL:(((s.heap.push (seqObj "list" #[] 0)).update s.heap.objs.size (Obj.mapSeq (·++its.toArray))).push (seqObj "list" its.toArray 0)).get? (s.heap.objs.size+1)=some (seqObj "list" its.toArray 0):=by
  rw[<-hsz];exact Heap.get?_push_size _ rfl
 have keep:∀b o,s.heap.get? b=some o->(((s.heap.push (seqObj "list" #[] 0)).update s.heap.objs.size (Obj.mapSeq (·++its.toArray))).push (seqObj "list" its.toArray 0)).get? b=some o:=λb o q=>by
  have hlt:b<s.heap.objs.size:=Heap.lt_size q
  rw[Heap.get?_push_ne _ _ _ (by rw[hsz];exact bI (tH hlt)),Heap.get?_update_ne _ _ _ _ (bI hlt),Heap.get?_push_ne _ _ _ (bI hlt)]
  exact q
 have hszB:(((s.heap.push (seqObj "list" #[] 0)).update s.heap.objs.size (Obj.mapSeq (·++its.toArray))).push (seqObj "list" its.toArray 0)).objs.size=s.heap.objs.size+2:=by rw[size_push',hsz]
 show wpAny _ _ _ _ _ {s with heap:=((s.heap.push (seqObj "list" #[] 0)).update s.heap.objs.size (Obj.mapSeq (·++its.toArray))).push (seqObj "list" its.toArray 0) }
 rw[hsz]
 refine wpAny_bind (wpAny_holding (wpAny_call_entry_kw slot_list_sort ⟨_,hoL,rfl⟩ entry_list_sort ?body (ksk_l1 _ _)))
 case body=>
 show wpAny (model X.prog X.w) X.A.in1.in1 (Builtin.«list.sort» ⟨[.ref (s.heap.objs.size+1)],[(Str.ofString "key", .ref f)]⟩) _ _ _
 rw[ksk_t1]
 generalize ((s.heap.push (seqObj "list" #[] 0)).update s.heap.objs.size (Obj.mapSeq (·++its.toArray))).push (seqObj "list" its.toArray 0)=hB at *
 have ltn:∀{b d:Addr},b<s.heap.objs.size->s.heap.objs.size<=d->b≠d:=λh1 h2=>bI (cU h1 h2)
 generalize hDa:s.heap.objs.size+1=D at *
 have leD:s.heap.objs.size<=D:=by rw[<-hDa];exact oY _
 obtain⟨e1,ho1⟩:∃e1,(hB.update D (Obj.mapSeq λ_=>(#[]:Array Value))).get? D=some (seqObj "list" #[] e1):=⟨_,get?_update_seq hoL λ_=>#[]⟩
 unfold ksk_tree
 refine wpAny_bind (listItems_at hoL rfl ?_)
 refine wpAny_bind (listUpdate_at hoL rfl ?_ (by rw[bG,sizeLine_eq];lia) (eW _))
 refine wpAny_bind (seqEpoch_at ho1 rfl ?_)
 refine wpAny_bind (wpAny_newTuple ?_ (by show its.length<=_;rw[sizeLine_eq];lia))
 refine wpAny_bind (wpAny_newList ?_ (eW _))
 refine wpAny_holding ?_
 have hkS:((hB.update D (Obj.mapSeq λ_=>(#[]:Array Value))).push (seqObj "tuple" its.toArray 0)).objs.size=s.heap.objs.size+3:=by rw[size_push',Heap.size_update,hszB]
 have hk3:(((hB.update D (Obj.mapSeq λ_=>(#[]:Array Value))).push (seqObj "tuple" its.toArray 0)).push (seqObj "list" #[] 0)).get? ((hB.update D (Obj.mapSeq λ_=>(#[]:Array Value))).push (seqObj "tuple" its.toArray 0)).objs.size=some (seqObj "list" #[] 0):=Heap.get?_push_size _ rfl
 have hD3:(((hB.update D (Obj.mapSeq λ_=>(#[]:Array Value))).push (seqObj "tuple" its.toArray 0)).push (seqObj "list" #[] 0)).get? D=some (seqObj "list" #[] e1):=Heap.get?_push_of_some _ (Heap.get?_push_of_some _ ho1)
 have keep3:∀b o,s.heap.get? b=some o->(((hB.update D (Obj.mapSeq λ_=>(#[]:Array Value))).push (seqObj "tuple" its.toArray 0)).push (seqObj "list" #[] 0)).get? b=some o:=λb o q=>by
  have hb:b≠D:=ltn (Heap.lt_size q) leD
  refine Heap.get?_push_of_some _ (Heap.get?_push_of_some _ ?_)
  rw[Heap.get?_update_ne _ _ _ _ hb]
  exact keep b o q
 show wpAny _ _ _ _ _ {s with heap:=((hB.update D (Obj.mapSeq λ_=>(#[]:Array Value))).push (seqObj "tuple" its.toArray 0)).push (seqObj "list" #[] 0) }
 generalize hka:((hB.update D (Obj.mapSeq λ_=>(#[]:Array Value))).push (seqObj "tuple" its.toArray 0)).objs.size=kS at *
 generalize ((hB.update D (Obj.mapSeq λ_=>(#[]:Array Value))).push (seqObj "tuple" its.toArray 0)).push (seqObj "list" #[] 0)=h3 at *
 have leK:s.heap.objs.size<=kS:=by rw[hkS];exact zR _ _
 have nkD:kS≠D:=λz=>by
  have z:(s.heap.objs.size+3:Nat)=s.heap.objs.size+1:=hkS.symm.trans (z.trans hDa.symm)
  lia
 have I3:Inv X ((f,fo)::pins) σ H {s with heap:=h3}:=I.kept keep3
 have pin1:∀{H':Hp} {s':Shared} {pins':List (Addr×Obj)} {b:Addr} {o:Obj},Inv X pins' σ H' s'->s'.heap.get? b=some o->H' b=none->s.heap.objs.size<=b->(∀v,o.data≠.cell v)->∀{q},q∈(b,o)::pins'->s'.heap.get? q.1=some q.2/\H' q.1=none/\q.1≠X.env.locals/\q.1∉X.fs/\∀v,q.2.data≠.cell v:=λJ e n le nc q hq=>by
  rcases aV.mp hq with z|z
  ·subst z
   exact⟨e,n,λz=>ltn hlt le z.symm,λz=>absurd (fsn _ z) (Ed.mpr le),nc⟩
  ·exact J.pin q (cR _ z)
 have I4:Inv X ((f,fo)::(D,seqObj "list" #[] e1)::pins) σ H {s with heap:=h3}:=I3.pins_of λq hq=>by
  have p1:=@pin1 _ _ _ D (seqObj "list" #[] e1) I3 hD3 (I.hok.fresh leD) leD (λv z=>by cases z)
  rcases aV.mp hq with z|z
  ·exact p1 (aR _ (z▸bC))
  ·rcases aV.mp z with z|z
   ·exact p1 (z▸bC)
   ·exact p1 (aR _ (aR _ z))
 unfold ksk_rest
 refine wpAny_bind (wpAny_rule ?_)
 rw[List.forIn_toArray]
 refine wpAny_bind (ksk_fold (λi s'=>∃H' ys us e,Inv X ((f,fo)::(D,seqObj "list" #[] e1)::pins) σ H' s'/\Same H H'/\H' kS=none/\s'.heap.get? kS=some (seqObj "list" us.toArray e)/\Vals ys us/\ys.length=i/\KyI H' xs kss ys) its 0 _
  ⟨H,[],[],0,I4,Same.refl H,I.hok.fresh leK,hk3,.nil,rfl,λj y e=>by simp at e⟩ ?step ?done)
 case step=>
  rintro j u s' hx ⟨H',ys,us,e,J,sm,nk,hk,rv,hj,ky⟩
  rw[kB]at hj⊢
  have hjl:j<its.length:=(gC.mp hx).1
  obtain⟨v,hv'⟩:∃v,xs[j]?=some v:=⟨_,bD (by lia)⟩
  have tl:=tv.len
  obtain⟨ks,hks⟩:∃ks,kss[j]?=some ks:=⟨_,bD (by lia)⟩
  obtain⟨u',hu',ru⟩:=r.get hv'
  rw[hx]at hu'
  cases hu'
  obtain⟨aj,rfl,hSj⟩:=(tv.same sm).at j v ks hv' hks
  cases ru
  have J2:Inv X ((f,fo)::(kS,seqObj "list" us.toArray e)::(D,seqObj "list" #[] e1)::pins) σ H' s':=J.pins_of λq hq=>by
   have p1:=@pin1 _ _ _ kS (seqObj "list" us.toArray e) J hk nk leK (λv z=>by cases z)
   rcases aV.mp hq with z|z
   ·exact p1 (aR _ (z▸bC))
   ·rcases aV.mp z with z|z
    ·exact p1 (z▸bC)
    ·exact p1 (aR _ (aR _ z))
  have e0:=J2.env0.in1.in1
  subst hfo
  refine wpAny_bind (wpAny_attempt (wpAny_mono (Hm (m:=0) (Q:=λv H2=>Same H' H2/\∃k,v=.ref k/\H2 k=some (.tup [.int (ks.length:Nat),.ref aj])) (E:=λ_ _=>False) hxl hxd hxc hm J2 (sm _ _ hcc) hd hv hr.in1.in1 e0 hSj (λk H2 s2 e2=>⟨s2,k,rfl,e2⟩)) (λu2 s2 hq=>?_) λ_ _ z=>z.elim))
  obtain⟨v2,H2,J3,r2,s2',k,rfl,e2⟩:=hq
  cases r2
  have hk2:=(J3.pin (kS,_) (cR _ (aR _ bC)))
  have ul:us.length=j:=by rw[<-rv.length];exact hj
  have hsb:=Heap.SameBut.update s2.heap kS (Obj.mapSeq (·.push (.ref k)))
  have ea:us.toArray.push (Value.ref k)=eO (us++[.ref k]):=by simp
  obtain⟨c2,hc2⟩:∃c2,(s2.heap.update kS (Obj.mapSeq (·.push (Value.ref k)))).get? kS=some (seqObj "list" (eO (us++[.ref k])) c2):=⟨_,by rw[<-ea];exact get?_update_seq hk2.1 (·.push (.ref k))⟩
  dsimp only
  refine wpAny_bind (listUpdate_at hk2.1 rfl ?_ (by rw[bG,sizeLine_eq];lia) (bX (Ee (Array.size_push ..)) (by rw[bG,sizeLine_eq];lia)))
  have J4:Inv X ((f,kla_obj "<lambda>" qual (eZ x an ap) (fT x p1 p2 p3 p4 p5 k0) (eS x) [] pm c ctv)::(D,seqObj "list" #[] e1)::pins) σ H2 s2:=J3.pins_of λq hq=>J3.pin q (cR _ (by
   rcases aV.mp hq with z|z
   ·exact z▸bC
   ·exact aR _ (aR _ z)))
  have J5:=J4.turned (h':=s2.heap.update kS (Obj.mapSeq (·.push (Value.ref k)))) (t':=s2.toks) (it:=kS) (λb o hb e=>(hsb.2 b hb).trans e) hk2.2.1 hk2.2.2.1 (.inr (bX s0 leK)) (λy c e z=>ltn (celllt y c e) leK z) (λq hq z=>by
   rcases fK.mp hq with w|w
   ·exact ltn (pinlt q (sX _ w)) leK z
   ·rcases aV.mp w with w|w
    ·exact ltn (pinlt q (cR _ (w▸bC))) leK z
    ·rcases aV.mp w with w|w
     ·rw[w]at z;exact nkD z.symm
     ·exact ltn (pinlt q (cR _ (aR _ w))) leK z)
  refine wpAny_pure ⟨rfl,H2,ys++[.ref k],us++[.ref k],c2,J5,sm.trans s2',hk2.2.1,hc2,rv.append (show Vals [V.ref k] [Value.ref k]from .cons rfl .nil),by rw[cD,hj];rfl,λi y hy=>?_⟩
  by_cases hi:i<ys.length
  ·rw[kU hi]at hy
   exact(ky.same s2') i y hy
  ·rw[gD (by lia)]at hy
   have hi0:i-ys.length=0:=by
    cases hq:i-ys.length with
    |zero=>rfl
    |succ m=>rw[hq]at hy;cases hy
   rw[hi0]at hy
   cases hy
   have:i=j:=by lia
   subst this
   exact⟨k,.ref aj,ks,rfl,hv',hks,e2⟩
 case done=>
  rintro s' ⟨H',ys,us,e,J,sm,nk,hk,rv,hj,ky⟩
  rw[kB]at hj
  have hD:=J.pin (D,_) (cR _ (aR _ bC))
  have ul:us.length=its.length:=by rw[<-rv.length];exact hj
  have tl:=tv.len
  refine wpAny_bind (listItems_at hk rfl ?_)
  refine Hh nkD hk hD.1 (Hl J (tv.same sm) ky rv (by lia)) (by lia) (by lia) (by lia) hr.in1.in1.units0 λhp c1 c2 g1 g2=>?_
  refine⟨_,rfl,wpAny_pure ⟨_,rfl,?_⟩⟩
  have sb1:=Heap.SameBut.update s'.heap kS (Obj.mapSeq λ_=>(#[]:Array Value))
  have sb2:=Heap.SameBut.update (s'.heap.update kS (Obj.mapSeq λ_=>(#[]:Array Value))) D (Obj.mapSeq λ_=>eO ((bS kss).map λi=>its.getD i Value.none))
  have k5:∀b o,b≠D->b≠kS->s'.heap.get? b=some o->((s'.heap.update kS (Obj.mapSeq λ_=>(#[]:Array Value))).update D (Obj.mapSeq λ_=>eO ((bS kss).map λi=>its.getD i Value.none))).get? b=some o:=λb o h1 h2 e=>(sb2.2 b h1).trans ((sb1.2 b h2).trans e)
  generalize (s'.heap.update kS (Obj.mapSeq λ_=>(#[]:Array Value))).update D (Obj.mapSeq λ_=>eO ((bS kss).map λi=>its.getD i Value.none))=h5 at *
  have nD:=hD.2.1
  have ne:∀{b u},H' b=some u->b≠D/\b≠kS:=λe=>⟨λz=>(by rw[z,nD]at e;cases e),λz=>(by rw[z,nk]at e;cases e)⟩
  have J1:Inv X pins σ H' s':=J.pins_of λq hq=>J.pin q (cR _ (aR _ (aR _ hq)))
  have no2:∀{b},b∉[D,kS]->b≠D/\b≠kS:=λhc=>⟨λz=>hc (by simp[z]),λz=>hc (by simp[z])⟩
  have J6:Inv X pins σ (upd H' D (.lst ((bS kss).map λi=>xs.getD i .non))) {s' with heap:=h5}:=by
   refine J1.step (h':=h5) (g':=s'.gens) (d':=s'.drawn) (t':=s'.toks) (ch:=[D,kS]) (λb hb=>?_) (λb u _ _ hc x1 _=>k5 b u (no2 hc).1 (no2 hc).2 x1) (λb u _ _ hc x1 _=>⟨u.slots,k5 b u (no2 hc).1 (no2 hc).2 x1⟩) (λb u hc x1 x2=>by rw[aH (no2 hc).1];exact x2) (λb u hc x1=>⟨u,k5 b u (no2 hc).1 (no2 hc).2 x1⟩) (λb xs x1=>by rw[aH (ne x1).1];exact x1) (λb v w x1=>by rw[aH (ne x1).1];exact x1) (λb qs x1=>⟨#[],by rw[aH (ne x1).1];simpa using x1⟩) (λm x1=>?_) (λb v x1=>?_) J1.bare
   ·have hb2:b=D\/b=kS:=by simpa using hb
    have le:s.heap.objs.size<=b:=by
     rcases hb2 with z|z
     ·rw[z];exact leD
     ·rw[z];exact leK
    refine⟨.inr (bX s0 le),λz=>ltn hlt le z.symm,λy c e z=>ltn (celllt y c e) le z,λq hq z=>?_⟩
    rcases fK.mp hq with w|w
    ·exact ltn (pinlt q (sX _ w)) le z
    ·exact ltn (pinlt q (cR _ (aR _ w))) le z
   ·obtain⟨o',es,ep,y1,y2⟩:=x1
    exact⟨o',es,ep,k5 _ _ (ltn hlt leD) (ltn hlt leK) y1,y2⟩
   ·by_cases z:b=D
    ·subst z
     rw[bM]at x1
     cases x1
     exact⟨by rw[aE,hp,sizeLine_eq];lia,_,c2,CD r _,g2⟩
    ·rw[aH z]at x1
     refine(J1.hok b v x1).stay (λb2 u hc2 y1=>?_) (λb2 y1=>by rw[aH (ne y1).1];exact y1) (λb2 xs y1=>by rw[aH (ne y1).1];exact y1) λb2 o2 u2 y1=>by rw[aH (ne y1).1];exact y1
     have:b2≠D/\b2≠kS:=by
      rcases hc2 with w|w
      ·rw[w];exact ne x1
      ·exact ne w
     exact k5 b2 u this.1 this.2 y1
  exact⟨.ref D,_,J6,rfl,h _ D (sm.trans λb o e=>by rw[aH (ne e).1];exact e) (I.hok.fresh leD) bM⟩
end
noncomputable def qJ (X:Cx) (p:Pos):Prop:=Room 2 X.A/\∃c0 P,X.env.code=.ref c0/\codeHdIn X.K c0 P=true/\(P,p,X.env.qual ++ "<lambda>")∈nE X.K
noncomputable def rSK(K:PySem.W.Frag):List V->Hp->VK->Prop:=λvs H1 Q=>∃a xs kss,vs=[.ref a]/\SqL K H1 a xs/\TpV K H1 xs kss/\xs.length<64/\TabK K H1/\∀H2 l,Same H1 H2->H1 l=none->H2 l=some (.lst ((bS kss).map λi=>xs.getD i .non))->Q (.ref l) H2
section
variable{T:Tab}{cf:Nat->List D->Res D}{X:Cx}{y:E}{p:Expr}{pos cpos pn kp lp:Pos}
theorem Ho {x:Str} {an:Option Expr} {ap p1 p2 p3 p4 p5:Pos} {k0:Nat} {ta:TA} (lx:qJ X lp) (hxl:x ≠ "len") (hxd:(x==("__debug__" : Str))=false) (hxc:(x==("__classdict__" : Str))=false) (hm:X.mg "len" = none) (hm1:X.mg "sorted" = none) (hg1:Gl X "sorted") (hp:bA p=true) (h:PA X [p] ta) :
 PE X (.Call (.Name "sorted" pn) [p] [⟨some "key", .Lambda (eZ x an ap) (fT x p1 p2 p3 p4 p5 k0) (eS x) lp,kp⟩] cpos) (tCB (rSK X.K) ta):=by
 intro pins s σ H Q I hq
 obtain⟨hr,c0,P,hc0,hd0,hmem⟩:=lx
 refine wpAny_Call_Name_kw (jI I hg1 hm1 (show bootBuiltins "sorted" = some (.builtin "sorted") by decide +kernel) ?_ (by decide) (by decide))
 refine PyProof.Rows.callWith_kw (thn (h cpos pins s σ H _ I hq) λus s1 ⟨vs,H1,I1,r1,q1⟩=>?_) (by rw[bH hp];rfl) (by rw[bH hp];rfl)
 obtain⟨a,xs,kss,rfl,hS,tv,h64,tab,q⟩:=q1
 obtain⟨u,rfl,ru⟩:=r1.one
 cases ru
 show wpAny _ _ (evalAll [do let v<-eval (.Lambda (eZ x an ap) (fT x p1 p2 p3 p4 p5 k0) (eS x) lp) X.env;standAt cpos;pure v]) _ _ s1
 refine wpAny_evalAll_cons (wpAny_bind (Hf I1 hc0 hd0 (tab.1 _ hmem) (tab.2 (λz=>by rw[z]at hmem;cases hmem)) rfl rfl λf c ctv pm oc ws t s2 H2 I2 sm hcc hd hv=>?_))
 refine wpAny_bind (wpAny_standAt (wpAny_pure (wpAny_evalAll_nil ?_)))
 show wpAny _ _ (call (.builtin "sorted") [.ref a] [(Str.ofString "key", .ref f)]) _ _ s2
 refine Hn hxl hxd hxc hm I2 hcc hd hv hr (sm.seq hS) (tv.same sm) h64 λH3 l s3 hl e=>?_
 exact q H3 l (sm.trans s3) (sm.free hl) e
theorem Hq {x:Str} {an:Option Expr} {ap p1 p2 p3 p4 p5:Pos} {k0:Nat} (lx:qJ X lp) (hxl:x ≠ "len") (hxd:(x==("__debug__" : Str))=false) (hxc:(x==("__classdict__" : Str))=false) (hm:X.mg "len" = none) (hm1:X.mg "sorted" = none) (hg1:Gl X "sorted") (hp:bA p=true) (h:SR T cf X y p) :
 SS T cf X (.retK y) (.Return (some (.Call (.Name "sorted" pn) [p] [⟨some "key", .Lambda (eZ x an ap) (fT x p1 p2 p3 p4 p5 k0) (eS x) lp,kp⟩] cpos)) pos):=λH₀ O₀=>by
 refine PS.imp (λD' σ H hq=>?_) (kD (Ho lx hxl hxd hxc hm hm1 hg1 hp (cM (h H₀ O₀) eG (bH hp))))
 obtain⟨ts,e,out,⟨O,own,F,tt⟩,ev,k⟩:=hq
 rw[Az]at ev
 obtain⟨d,e1,ev⟩:=Res.bind_ok ev
 obtain⟨d2,e2,ev⟩:=Res.bind_ok ev
 cases ev
 refine⟨O,own,e,d,F,e1,λv1 H1 s1 r1=>?_⟩
 cases d with
 |lst ds=>
  obtain⟨kss,e3,ev2⟩:=Res.bind_ok (show(jK ds>>=_)=Res.ok d2 from e2)
  obtain⟨c,ev3⟩:=aZ ev2
  cases ev3
  rw[decide_eq_true_eq]at c
  obtain⟨a,xs,rfl,q1,w1⟩:=r1.lst
  have hl:=w1.length
  refine⟨a,xs,kss,rfl,q1,CF e3 w1,by lia,(F.grow s1).tab,λH2 l s2 n2 g2=>?_⟩
  have w2:=(vI w1 (bS kss)).same s2
  have nO:¬O l:=λz=>by
   obtain⟨o,w⟩:=(F.grow s1).trk l z
   rw[n2]at w;cases w
  have nO₀:¬O₀ l:=λz=>nO (F.sub l z)
  have n0:H₀ l=none:=(F.same.trans s1).free n2
  refine k (.ref l) H2 (F.same.trans (s1.trans s2)) ⟨l,_,rfl,.inl ⟨nO₀,.inl g2⟩,w2.weak F.sub⟩ λ_=>NewR.of (λ_=>⟨l,rfl,n0,_,g2,(((vI w1 (bS kss)).new n2).same s2).weak λa h=>h.elim (λz=>.inl (F.sub a z)) .inr⟩) rfl
 |_=>cases e2
end
end Tr
namespace Tr
open PySem PySem.Spec PyProof.Rows L2
section
variable{T:Tab}{cf:Nat->List D->Res D}{X:Cx}{x y z:E}{p q r tg:Expr}{pos pos':Pos}{es:List Expr}
noncomputable def spM(K:PySem.W.Frag)(j:Nat)(F:List D->Res D)(fr:Bool):Sp:=λvs H Q E=>∃O ds Hb d0 v0,Same Hb H/\Trk K Hb O/\RDs K H O ds vs/\ds[j]?=some d0/\vs[j]?=some v0/\NV K H O d0 v0/\(∀a,v0=.ref a->Hb a=none) /\
 ((∃d,F ds=.ok d/\∀v H',Same Hb H'->RD K H' O d v->(fr=true->NewR K Hb H' O d v)->Q v H')\/∃c d,F ds=.err c d/\∀od H',Same Hb H'->uX d od H'->E (cvK K c) od H')
noncomputable def vJ(a b:Addr)(H H':Hp):Prop:=∀c o,c≠a->c≠b->H c=some o->H' c=some o
noncomputable def spR(K:PySem.W.Frag)(F:List D->Res D)(vs:List V)(H:Hp)(Q:VK)(_:XK):Prop:=∃(O:Addr->Prop)(x y:D)(j k:List (Sum Int Str×D))(v w:V)(a b:Addr)(r:D)(j' k':List (Sum Int Str×D)),
 vs=[v,.ref a,.ref b,w]/\a≠b/\(O a/\O b/\Trk K H O)/\(RD K H O x v/\RD K H O y w/\OwnAt K H O a (.dct j)/\OwnAt K H O b (.dct k))/\F [x,.tup [.int (a:Nat),.dct j],.tup [.int (b:Nat),.dct k],y]=.ok (.tup [r,.dct j',.dct k']) /\
 ∀v H',vJ a b H H'->RD K H' O r v->OwnAt K H' O a (.dct j')->OwnAt K H' O b (.dct k')->Q v H'
noncomputable def gK(K:PySem.W.Frag)(T:Tab)(F:List D->Res D)(i:Nat):Sp:=match T.mv i with
 |none=>spD K F (T.fresh i)
 |some j=>if j=1000 then spR K F else spM K j F (T.fresh i)
theorem nT{K:PySem.W.Frag}{F:List D->Res D}{i:Nat}(h:T.mv i=none):gK K T F i=spD K F (T.fresh i):=by unfold gK;rw[h]
theorem CM{K:PySem.W.Frag}{F:List D->Res D}{i j:Nat}(h:T.mv i=some j)(hj:¬j=1000):gK K T F i=spM K j F (T.fresh i):=by unfold gK;rw[h];exact if_neg hj
theorem vK{K:PySem.W.Frag}{F:List D->Res D}{i:Nat}(h:T.mv i=some 1000):gK K T F i=spR K F:=by unfold gK;rw[h];exact if_pos rfl
noncomputable def lJ(T:Tab)(cf:Nat->List D->Res D)(X:Cx)(f:Nat)(n:Str):Prop:=
 ∃k a fd ps,FnOk X.prog X.w X.K X.mg X.base (CXE X.prog X.w) k a fd ps (gK X.K T (cf f) f)/\Room k X.A/\X.mg n=some (.ref a)/\PySem.W.keepIn X.K (.ref a)=true/\Binds X.K fd ps []
theorem Hr{d:D}(h:d.flatL=true):∃ds,d=.lst ds/\D.flats ds=true:=by
 cases d with
 |lst ds=>exact⟨ds,rfl,h⟩
 |_=>cases h
theorem NewL.nv{K:PySem.W.Frag}{H H':Hp}{O:Addr->Prop}{d:D}{v:V}(n:NewL K H H' O d v)(h:d.flatL=true)(tr:∀a,O a->∃o,H a=some o):NV K H' O d v/\∀a,v=.ref a->H a=none:=by
 obtain⟨ds,rfl,hf⟩:=Hr h
 obtain⟨a,rfl,ha,xs,hx,hr⟩:=n rfl
 have nO:¬O a:=λz=>by
  obtain⟨o,w⟩:=tr a z
  rw[ha]at w;cases w
 exact⟨.inr ⟨ds,a,xs,rfl,hf,rfl,hx,nO,hr.flat hf⟩,λb e=>by cases e;exact ha⟩
theorem getD_some{ds:List D}{j:Nat}(h:(ds.getD j .non).flatL=true):∃d,ds[j]?=some d/\d.flatL=true:=by
 rw[jH]at h
 cases q:ds[j]? with
 |none=>rw[q]at h;cases h
 |some d=>rw[q]at h;exact⟨d,rfl,h⟩
theorem vQ(n:Int):∀(l:List Int),(gI n l).Perm (n::l)
 |[]=>.refl _
 |m::r=>by
  unfold gI
  split
  ·exact .refl _
  ·exact((vQ n r).cons m).trans (.swap n m r)
theorem vS:∀(l:List Int),(dO l).Perm l
 |[]=>.refl _
 |n::r=>(vQ n (dO r)).trans ((vS r).cons n)
theorem CN(n:Int):∀{l:List Int},l.Pairwise (·<=·)->(gI n l).Pairwise (·<=·)
 |[],_=>List.pairwise_singleton _ _
 |m::r,h=>by
  obtain⟨h1,h2⟩:=tJ.mp h
  unfold gI
  split
  ·rename_i c
   refine tJ.mpr ⟨λy hy=>?_,h⟩
   rcases aV.mp hy with rfl|hy
   ·exact c
   ·exact Int.le_trans c (h1 y hy)
  ·rename_i c
   refine tJ.mpr ⟨λy hy=>?_,CN n h2⟩
   rcases aV.mp ((vQ n r).mem_iff.mp hy)with rfl|hy
   ·lia
   ·exact h1 y hy
theorem vT:∀(l:List Int),(dO l).Pairwise (·<=·)
 |[]=>.nil
 |n::r=>CN n (vT r)
theorem vU:∀{a b:List Int},a.Perm b->a.Pairwise (·<=·)->b.Pairwise (·<=·)->a=b
 |[],b,h,_,_=>(List.Perm.nil_eq h)
 |x::a,[],h,_,_=>absurd h.length_eq (by simp)
 |x::a,y::b,h,ha,hb=>by
  obtain⟨a1,a2⟩:=tJ.mp ha
  obtain⟨b1,b2⟩:=tJ.mp hb
  have e:x=y:=by
   have h1:x∈y::b:=h.mem_iff.mp (bC ..)
   have h2:y∈x::a:=h.mem_iff.mpr (bC ..)
   rcases aV.mp h1 with z|z
   ·exact z
   ·rcases aV.mp h2 with w|w
    ·exact w.symm
    ·exact Int.le_antisymm (a1 y w) (b1 x z)
  subst e
  rw[vU (List.Perm.cons_inv h) a2 b2]
theorem CO{K:PySem.W.Frag}{H:Hp}{O:Addr->Prop}:∀{kvs:List (Sum Int Str×D)} {ps:List (Key×V)} {ns:List Int},jL kvs=.ok ns->RDk K H O kvs ps->ps.map (·.1)=ns.map Sum.inl
 |[],ps,ns,h,r=>by cases h;cases (show ps=[]from r);rfl
 |(.inl n,d)::q,ps,ns,h,r=>by
  obtain⟨m,e1,h⟩:=Res.bind_ok (show(jL q>>=λx=>Res.ok (n::x))=.ok ns from h)
  cases h
  obtain⟨v,r',e,_,h2⟩:=r
  subst e
  rw[aK,aK,CO e1 h2]
 |(.inr _,d)::q,ps,ns,h,r=>by cases h
theorem se_srt {pn:Pos} (hcm:X.calm=true) (hm1:X.mg "sorted" = none) (hg1:Gl X "sorted") (hp:bA p=true) (ha:SR T cf X x p):SE T cf X (.srt x) (.Call (.Name "sorted" pn) [p] [] pos):=λH₀ O₀=>by
 refine PE.imp (λσ H Q hq=>?_) (mP (H0 hcm) hg1 hm1 (by decide +kernel) (cM (ha H₀ O₀) eG (bH hp)) (by decide) (by decide) (bH hp) rfl)
 obtain⟨O,own,e,d,F,ev,k⟩:=hq
 (first|rw[nB]at ev|rw[xE_srt]at ev)
 obtain⟨d1,e1,ev1⟩:=Res.bind_ok ev
 refine⟨O,own,e,d1,F,e1,λv1 H1 s1 r1=>?_⟩
 cases d1 with
 |lst ds=>
  obtain⟨ns,e2,ev2⟩:=Res.bind_ok (show(cN ds>>=_)=Res.ok d from ev1)
  obtain⟨c,ev3⟩:=aZ ev2
  cases ev3
  obtain⟨a,xs,rfl,q1,w1⟩:=r1.lst
  rw[qG e2 w1]at q1
  refine .inl ⟨a,ns,rfl,q1,of_decide_eq_true c,λl ns' hl hp hs=>?_⟩
  rw[vU (hp.trans (vS ns).symm) hs (vT ns)]
  have z:=jN (K:=X.K) (O:=O) (Bx (dO ns)) hl (F.grow s1).trk
  exact k _ _ (s1.trans (cG hl _)) z.1 λ_=>z.2.back s1
 |dct kvs=>
  obtain⟨ns,e2,ev2⟩:=Res.bind_ok (show(jL kvs>>=_)=Res.ok d from ev1)
  obtain⟨c,ev3⟩:=aZ ev2
  cases ev3
  obtain⟨a,ps,rfl,q1,w1⟩:=r1.dct
  refine .inr ⟨a,ps,ns,rfl,q1,CO e2 w1,of_decide_eq_true c,λl ns' hl hp hs=>?_⟩
  rw[vU (hp.trans (vS ns).symm) hs (vT ns)]
  have z:=jN (K:=X.K) (O:=O) (Bx (dO ns)) hl (F.grow s1).trk
  exact k _ _ (s1.trans (cG hl _)) z.1 λ_=>z.2.back s1
 |_=>cases ev1
theorem CP{e:Nv}{H₀ H H':Hp}{O₀ O:Addr->Prop}{own:Nat->Option Addr}{σ:L2.St}{K:PySem.W.Frag}{d:D}{v:V}(F:Fm K H₀ O₀ H O own e σ)(s:Same H H')(ev:evE T cf x e=.ok d)(hn:nA T x e=true)(hf:d.flatL=true)(n:bJ T x=true->NewL K H H' O d v)
 (hv:∀j,x=.var j->bY σ j=some v):NV K H' O d v/\∀a,v=.ref a->H₀ a=none:=by
 unfold nA at hn
 rw[fL]at hn
 rcases hn with hn|hn
 ·obtain⟨h1,h2⟩:=(n hn).nv hf F.trk
  exact⟨h1,λa e=>F.same.free (h2 a e)⟩
 ·cases x with
  |var j=>
   have hn:(e.at j).isN=true:=hn
   have q:=F.sl j
   cases w:e.at j with
   |n d'=>
    rw[w]at q
    (first|rw[uJ]at ev|rw[Am]at ev)
    rw[w]at ev
    cases ev
    obtain⟨v',e1,r⟩:=q
    rw[hv j rfl]at e1
    cases e1
    exact⟨r.map (λq=>q.same s) λa xs z q=>⟨z,s _ _ q⟩,λa e=>F.nw j _ a w (by rw[hv j rfl,e])⟩
   |_=>rw[w]at hn;cases hn
  |_=>cases hn
noncomputable def CQ:E->Option Nat
 |.var j=>some j
 |_=>none
theorem Hs{i:Nat}{n:Str}(hx:dH p=true)(hN:X.N.Nodup)(hi:X.N[i]?=some n)(hl:Loc X.env.scope n)(hf:X.fn n=true\/X.env.scope.names.lookup n=some .local)(hv:CQ x=none)(h:SE T cf X x p):SS T cf X (.asgN i x) (.Assign [.Name n pos'] p pos):=λH₀ O₀=>by
 refine PS.imp (λD' σ H hq=>?_) (kZ hN hi hl (h H₀ O₀) (jO hx) hf)
 obtain⟨ts,e,out,⟨O,own,F,tt⟩,ev,k⟩:=hq
 rw[Ay]at ev
 obtain⟨d,e1,ev⟩:=Res.bind_ok ev
 obtain⟨c,ev⟩:=aZ ev
 cases ev
 rw[aF,fL]at c
 refine⟨O,own,e,d,F,e1,λv H' s' r n=>?_⟩
 have key:NV X.K H' O d v/\∀a,v=.ref a->H₀ a=none:=by
  rcases c.2 with z|z
  ·cases d with
   |non=>cases (show v=_ from r);exact⟨.inl ⟨rfl,rfl⟩,λa e=>by cases e⟩
   |_=>cases z
  ·exact CP F s' e1 c.1 z n λj e=>by rw[e]at hv;cases hv
 exact k _ H' ⟨O,_,(F.grow s').setN i key.1 key.2,λt ht=>(tt t ht).same s'⟩
theorem Ht {i j:Nat} {n m:Str} {pm:Pos} (hN:X.N.Nodup) (hi:X.N[i]?=some n) (hl:Loc X.env.scope n) (hf:X.fn n=true\/X.env.scope.names.lookup n=some .local) (hj:X.N[j]?=some m) (hv:Vis X.env.scope m) (hd:(m==("__debug__" : Str))=false) (hc:(m==("__classdict__" : Str))=false):SS T cf X (.asgN i (.var j)) (.Assign [.Name n pos'] (.Name m pm) pos):=λH₀ O₀=>by
 refine PS.imp (λD' σ H hq=>?_) (kZ hN hi hl (eP hj hv hd hc) (jO rfl) hf)
 obtain⟨ts,e,out,⟨O,own,F,tt⟩,ev,k⟩:=hq
 rw[Ay]at ev
 obtain⟨d,e1,ev⟩:=Res.bind_ok ev
 obtain⟨c,ev⟩:=aZ ev
 cases ev
 rw[aF,fL]at c
 obtain⟨v,g1,g2⟩:=F.val (i:=j) (by rw[uJ]at e1;exact e1)
 have g3:bY σ j=some v:=by unfold bY;rw[g1];rfl
 have key:NV X.K H O d v/\∀a,v=.ref a->H₀ a=none:=by
  rcases c.2 with z|z
  ·cases d with
   |non=>cases (show v=_ from g2);exact⟨.inl ⟨rfl,rfl⟩,λa e=>by cases e⟩
   |_=>cases z
  ·exact CP F (Same.refl H) e1 c.1 z (λz=>by cases z) λj e=>by cases e;exact g3
 exact⟨v,g1,k _ H ⟨O,_,F.setN i key.1 key.2,tt⟩⟩
end
theorem Hu:typeLookup (.type "list") "keys" = pure none:=am_miss_of_fast (by decide +kernel)
theorem Hv{prog:Program}{w:World}{A:Around}{E:Value->Shared->Prop}{s:Shared}{a:Addr}{o:Obj}{xs:Array Value}{k:Nat}{Q:Option Value->Shared->Prop}
 (hx:s.heap.get? a=some o) (hc:o.cls=.type "list") (hdat:o.data=.seq xs k) (hd:o.dict=none) (hA:A.handled=none)
 (h:∀h' tk e,Heap.NewExcOf s.heap h' e "AttributeError" -> Q none {s with heap:=h',toks:=tk}) :
 wpAny (model prog w) A (getAttr? (.ref a) "keys") Q E s:=by
 obtain⟨c,dct,dat,sl⟩:=o
 simp only at hc hdat hd
 subst hc hdat hd
 obtain⟨hp,g,d,tk,os⟩:=s
 have hT:∀tk',(⟨hp,g,d,tk',os⟩:Shared).TypeIs (.ref a) "list" := λ_=>⟨_,hx,rfl⟩
 have f1:=sub_AttributeError
 have f3:=F.slot_list_getattribute.lookup
 have f4:=F.slot_list_getattribute.bind (.ref a)
 have f5:=am_list_getattr_none
 unfold getAttr? getAttrBy? getAttrBy
 repeat(any_goals(first|assumption|exact hT _|((with_reducible show wpAny _ _ (call (Value.builtin "list.__getattribute__") _ _) _ _ _);refine call_meets F.slot_list_getattribute (hT _) am_entry_list_getattribute (F.args_list_getattribute_2 _ _) (meets_getattribute_miss_list a xs k sl "keys" _ Hu (by decide +kernel) (by size_fits)) ⟨hx,hA,λh' tk' e hx'=>?_⟩)|wp_step))
 obtain⟨t',u',he⟩:=hx'.there
 show wpAny _ _ (getattributeRaised _ _ _ _ _ _ _) _ _ _
 unfold getattributeRaised
 repeat(any_goals(first|assumption|wp_step))
 exact h _ _ _ hx'.of
theorem CT:entryFor table "dict.update.loop" = some Builtin.«dict.update.loop»:=entryFor_of_tree (by kernel_rfl)
theorem qK:plainId "dict.update.loop" = true:=by decide +kernel
section
variable{prog:Program}{w:World}
variable{A:Around}{R:Result->Shared->Prop}{I:Addr}{fp wr:List Addr}{G:Array GenState->Array GenState->Prop}{n:Nat}{P:Nat->Value->Prop}{St:Nat->Shared->Prop}
end
section
variable{prog:Program}{w:World}{A:Around}{E:Value->Shared->Prop}{s:Shared}
end
theorem Hw{α β:Type}(f:β->α->β)(z:α)(vs:List α)(x:β):(cW 0 vs.length).foldl (λb j=>f b (vs.getD j z)) x=vs.foldl f x:=by
 have e:(cW 0 vs.length).map (λj=>vs.getD j z)=vs:=by
  rw[<-Ef]
  apply List.ext_getElem
  ·simp
  ·intro i h1 h2
   simp[h2]
 rw[<-List.foldl_map (f:=λj=>vs.getD j z) (g:=f),e]
section
variable{T:Tab}{cf:Nat->List D->Res D}{X:Cx}{x y z:E}{p q r tg:Expr}{pos pos':Pos}{es:List Expr}
theorem CU{K:PySem.W.Frag}{H:Hp}{O:Addr->Prop}:∀{kvs:List (Sum Int Str×D)} {ps:List (Key×V)} {i:Nat} {kv:Sum Int Str×D},RDk K H O kvs ps->kvs[i]?=some kv->∃q,ps[i]?=some q/\q.1=kv.1
 |[],_,_,_,_,e=>by simp at e
 |(k,d)::r,ps,i,kv,h,e=>by
  obtain⟨v,q,rfl,_,h2⟩:=h
  cases i with
  |zero=>cases e;exact⟨_,rfl,rfl⟩
  |succ i=>exact CU (i:=i) h2 (by simpa using e)
theorem CV{K:PySem.W.Frag}{H:Hp}{O:Addr->Prop}:∀{kvs:List (List (Sum Int Str)×D)} {ps:List (List Key×V)} {i:Nat} {kv:List (Sum Int Str)×D},RDt K H O kvs ps->kvs[i]?=some kv->∃q,ps[i]?=some q/\q.1=kv.1
 |[],_,_,_,_,e=>by simp at e
 |(k,d)::r,ps,i,kv,h,e=>by
  obtain⟨v,q,rfl,_,h2⟩:=h
  cases i with
  |zero=>cases e;exact⟨_,rfl,rfl⟩
  |succ i=>exact CV (i:=i) h2 (by simpa using e)
theorem CW{K:PySem.W.Frag}{H:Hp}{O:Addr->Prop}(k:Key):RD K H O (hF k) (kV k):=by
 cases k with
 |inl i=>exact rfl
 |inr x=>exact rfl
theorem CY{K:PySem.W.Frag}{H:Hp}{O:Addr->Prop}:∀(ks:List Key),RDs K H O (ks.map hF) (ks.map kV)
 |[]=>rfl
 |k::ks=>⟨_,_,rfl,CW k,CY ks⟩
theorem Hx{K:PySem.W.Frag}{a:Addr}{o:Obj}{kvs:List (Sum Int Str×D)}{ps:List (Key×V)}(hl:ps.length=kvs.length)(hk:∀(i:Nat)(kv:Sum Int Str×D),kvs[i]?=some kv->∃q:Key×V,ps[i]?=some q/\q.1=kv.1):Wk K (Itk a o kvs.length) [.fr a o (.dK ps)] (kvs.map λkv=>hF kv.1):=by
 intro i H O r
 have h:H a=some (.frz o (.dK ps)):=r _ (cI.mpr rfl)
 rw[aE]
 refine⟨λhi=>.inl ⟨ps,h,hl,hi⟩,λhi=>⟨.inl ⟨ps,h,hl⟩,hi⟩,λx H' d hd y=>?_⟩
 obtain⟨rfl,y⟩:=y
 refine⟨Same.refl _,?_⟩
 rw[bT]at hd
 cases hz:kvs[i]? with
 |none=>rw[hz]at hd;cases hd
 |some kv=>
  rw[hz]at hd
  cases hd
  obtain⟨q,h1,h2⟩:=hk i kv hz
  rcases y with⟨ps',y1,y2,y3⟩|⟨ps',y1,_⟩
  ·rw[h]at y1
   cases y1
   rw[h1]at y3
   cases y3
   show RD K _ O (hF kv.1) (kV q.1)
   rw[h2]
   exact CW _
  ·rw[h]at y1;cases y1
theorem Hy{K:PySem.W.Frag}{a:Addr}{o:Obj}{kvs:List (List (Sum Int Str)×D)}{ps:List (List Key×V)}(hl:ps.length=kvs.length)(hk:∀(i:Nat)(kv:List (Sum Int Str)×D),kvs[i]?=some kv->∃q:List Key×V,ps[i]?=some q/\q.1=kv.1):Wk K (Itk a o kvs.length) [.fr a o (.dT ps)] (kvs.map λkv=>.tup (kv.1.map hF)):=by
 intro i H O r
 have h:H a=some (.frz o (.dT ps)):=r _ (cI.mpr rfl)
 rw[aE]
 refine⟨λhi=>.inr ⟨ps,h,hl,hi⟩,λhi=>⟨.inr ⟨ps,h,hl⟩,hi⟩,λx H' d hd y=>?_⟩
 obtain⟨rfl,y⟩:=y
 refine⟨Same.refl _,?_⟩
 rw[bT]at hd
 cases hz:kvs[i]? with
 |none=>rw[hz]at hd;cases hd
 |some kv=>
  rw[hz]at hd
  cases hd
  obtain⟨q,h1,h2⟩:=hk i kv hz
  rcases y with⟨ps',y1,_⟩|⟨ps',y1,y2,y3⟩
  ·rw[h]at y1;cases y1
  ·rw[h]at y1
   cases y1
   rw[h1]at y3
   rcases y3 with⟨z,_⟩|⟨q',b,z1,z2,z3⟩
   ·cases z
   ·cases z1
    cases z2
    rw[h2]at z3
    exact⟨b,_,rfl,.inl z3,CY _⟩
theorem SI.up(h:SI T cf X tg x false p):SI T cf X tg x true p:=λH₀ O₀ pins s σ H R I q=>
 h H₀ O₀ pins s σ H R I (let ⟨O,own,e,ds,F,ev,k⟩:=q;⟨O,own,e,ds,F,ev,λJ H' srs s' r _ wk=>k J H' srs s' r (λz=>nomatch z) wk⟩)
theorem CZ(hv:SE T cf X x p):SI T cf X tg (.seqD x) false p:=by
 intro H₀ O₀ pins s σ H R I h
 obtain⟨O,own,e,ds,F,ev,k⟩:=h
 rw[Fx]at ev
 obtain⟨d1,e1,ev⟩:=Res.bind_ok ev
 refine thn (hv H₀ O₀ pins s σ H (λv H1=>Same H H1/\RD X.K H1 O d1 v) I ⟨O,own,e,d1,F,e1,λv H' s' r _=>⟨s',r⟩⟩) λu s1 ⟨v,H1,I1,r1,s1',rr⟩=>?_
 have go:∀(a:Addr)(o:Obj)(n:Nat)(es:Array DictEntry)(ep:Nat)(pn:Pin),o.data=.dict es ep->RawD s1.heap a es ep->(a==sysModules)=false->es.size=n->PinOk X.K H1 O pn->Wk X.K (Itk a o n) [pn] ds->wpAny (model X.prog X.w) X.A (pyIter (.ref a)) (PIE X pins σ tg R) X.xe s1:=by
  intro a o n es ep pn hd rw' ns hn hp wk
  subst hn
  refine GL ns rw' ?_
  refine⟨s1.heap.objs.size,[s1.heap.objs.size],_,Itk a o es.size,H1,rfl,I1.kept (t':=s1.toks) λb u e=>Heap.get?_push_of_some _ e,GP hd a _ es.size rfl,⟨_,Heap.get?_push_size _ rfl,rfl,rfl⟩,λb hb=>?_,k _ H1 [pn] s1' (λt ht=>by rw[cI.mp ht];exact hp.rr) (λ_ t ht=>by rw[cI.mp ht];exact hp) wk⟩
  rcases aV.mp hb with rfl|hb
  ·exact I1.fpOk (aS _) (I1.hok.fresh (aS _))
  ·cases hb
 cases d1 with
 |tdc kvs=>
  cases (show Res.ok _=Res.ok ds from ev)
  obtain⟨a,ps,rfl,⟨o,hf⟩,w⟩:=rr
  cases r1
  obtain⟨e1,e2,e3,xs,e4,o',es,ep,g1,g2,g3,g4⟩:=(show ObjOk X.prog X.w H1 s1.heap a (.frz o (.dT ps))from I1.hok a _ hf)
  have eo:o'=o:=by rw[e1]at g1;cases g1;rfl
  subst eo
  obtain⟨x1,x2,x3,x4⟩:=uO I1 hf g3
  exact go a o' kvs.length es ep (.fr a o' (.dT ps)) g3 x1 x2 (by rw[x3,w.length]) hf (Hy w.length λi kv=>CV w)
 |dct kvs=>
  cases (show Res.ok _=Res.ok ds from ev)
  obtain⟨a,ps,rfl,⟨o,hf⟩,w⟩:=rr
  cases r1
  obtain⟨e1,e2,e3,xs,e4,o',es,ep,g1,g2,g3,g4⟩:=(show ObjOk X.prog X.w H1 s1.heap a (.frz o (.dK ps))from I1.hok a _ hf)
  have eo:o'=o:=by rw[e1]at g1;cases g1;rfl
  subst eo
  obtain⟨x1,x2,x3,x4⟩:=uN I1 hf g3
  exact go a o' kvs.length es ep (.fr a o' (.dK ps)) g3 x1 x2 (by rw[x3,w.length]) hf (Hx w.length λi kv=>CU w)
 |_=>cases ev
end
section
variable{K:PySem.W.Frag}{H₀ H H':Hp}{O₀ O:Addr->Prop}{own:Nat->Option Addr}{e:Nv}{σ:L2.St}
theorem Hz{a b:Addr}{u1 u2 n1 n2:HO}(ab:a≠b)(h1:H a=some u1)(h2:H b=some u2)(g1:H' a=some n1)(g2:H' b=some n2)(s:vJ a b H H') :
 ∃H1,Same H H1/\H1 a=some u1/\H1 b=some u2/\upd (upd H1 a n1) b n2=H'/\upd H1 a n1=upd H' b u2:=by
 have e1:upd (upd H' a u1) b u2 a=some u1:=by rw[aH ab,bM]
 refine⟨upd (upd H' a u1) b u2,λc o q=>?_,e1,bM,funext λc=>?_,funext λc=>?_⟩
 ·by_cases z2:c=b
  ·subst z2;rw[bM,<-h2,q]
  ·rw[aH z2]
   by_cases z1:c=a
   ·subst z1;rw[bM,<-h1,q]
   ·rw[aH z1];exact s c o z1 z2 q
 ·by_cases z2:c=b
  ·subst z2;rw[bM,g2]
  ·rw[aH z2]
   by_cases z1:c=a
   ·subst z1;rw[bM,g1]
   ·rw[aH z1,aH z2,aH z1]
 ·by_cases z1:c=a
  ·subst z1;rw[bM,aH ab,g1]
  ·rw[aH z1]
   by_cases z2:c=b
   ·subst z2;rw[bM,bM]
   ·rw[aH z2,aH z2,aH z1]
theorem Sl.giv_ok{x:Sl}{g:List (Sum Int Str×D)}(h:x.givD=.ok g):x=.o (.dct g)\/∃a,x=.r a (.dct g):=by
 unfold Sl.givD at h
 split at h
 ·cases h;exact .inl rfl
 ·cases h;exact .inr ⟨_,rfl⟩
 ·cases h
theorem Sl.refD_ok{x:Sl}{g:Nat×List (Sum Int Str×D)}(h:x.refD=.ok g):x=.r g.1 (.dct g.2):=by
 unfold Sl.refD at h
 split at h
 ·cases h;rfl
 ·cases h
theorem Fm.giv(F:Fm K H₀ O₀ H O own e σ){i:Nat}{g:List (Sum Int Str×D)}(h:(e.at i).givD=.ok g):∃a,own i=some a/\bY σ i=some (.ref a)/\OwnAt K H O a (.dct g)/\O a/\H₀ a=none:=by
 have q:=F.sl i
 rcases Sl.giv_ok h with z|⟨a,z⟩
 ·rw[z]at q
  obtain⟨a,e1,e2,h1⟩:=q
  exact⟨a,e1,e2,h1,F.new i a e1⟩
 ·rw[z]at q
  exact⟨a,q.1,q.2.1,q.2.2,F.new i a q.1⟩
theorem Fm.mutG(F:Fm K H₀ O₀ H O own e σ){i:Nat}{g:List (Sum Int Str×D)}(hi:(e.at i).givD=.ok g){p:Addr}(e1:own i=some p){d':D}{o':HO}(r:OwnAt K (upd H p o') O p d') :
 Fm K H₀ O₀ (upd H p o') O own (e.set i ((e.at i).giv d')) σ:=by
 obtain⟨p',e1',e2,h1,hn⟩:=F.giv hi
 rw[e1]at e1'
 cases e1'
 obtain⟨o,ho,hm⟩:=h1.obj
 have hlen:i<e.length:=by
  by_cases h:i<e.length
  ·exact h
  ·rw[hW h]at hi;cases hi
 have hx:∀d,(e.at i).giv d'≠.n d:=λd z=>by
  rcases Sl.giv_ok hi with q|⟨a,q⟩
  ·rw[q]at z;cases z
  ·rw[q]at z;cases z
 refine⟨by rw[dY];exact F.len,λj=>?_,F.inj,λb u hb=>?_,F.sub,F.trk0,λa ha=>?_,F.new,pT hx F.nw⟩
 ·by_cases h:i=j
  ·subst h
   rw[iT hlen,e2]
   rcases Sl.giv_ok hi with q|⟨a,q⟩
   ·rw[q];exact⟨p,e1,rfl,r⟩
   ·have q2:=F.sl i
    rw[q]at q2⊢
    have ea:a=p:=by have:=q2.1;rw[e1]at this;cases this;rfl
    subst ea
    exact⟨e1,rfl,r⟩
  ·rw[eY h]
   refine RS.map (λq=>q.updM hn.1 ho hm) (λq=>q.updM hn.1 ho hm) (λq=>q.updM hn.1 ho hm) (λq=>q.updM hn.1 ho hm) (λa u ea _ q=>?_) (F.sl j) (pU hn.1) (dQ (K:=K) hn.1 ho hm).1
   have:a≠p:=λz=>h (F.inj i j p e1 (z▸ea))
   rw[aH this];exact q
 ·rw[aH (λz=>by rw[z,hn.2]at hb;cases hb)];exact F.same b u hb
 ·by_cases h:a=p
  ·subst h;exact⟨_,bM⟩
  ·obtain⟨ys,q⟩:=F.trk a ha
   exact⟨ys,by rw[aH h];exact q⟩
theorem Fm.mut2(F:Fm K H₀ O₀ H O own e σ){i j:Nat}(ij:i≠j){g h g' h':List (Sum Int Str×D)}(hi:(e.at i).givD=.ok g)(hj:(e.at j).givD=.ok h){a b:Addr}(ea:own i=some a)(eb:own j=some b)(s:vJ a b H H')(oa:OwnAt K H' O a (.dct g'))(ob:OwnAt K H' O b (.dct h')) :
 Fm K H₀ O₀ H' O own ((e.set i ((e.at i).giv (.dct g'))).set j ((e.at j).giv (.dct h'))) σ/\∀t,PinOk K H O t->PinOk K H' O t:=by
 obtain⟨a',ea',_,h1,hn1⟩:=F.giv hi
 rw[ea]at ea';cases ea'
 obtain⟨b',eb',_,h2,hn2⟩:=F.giv hj
 rw[eb]at eb';cases eb'
 have ab:a≠b:=λz=>ij (F.inj i j a ea (z▸eb))
 obtain⟨ps1,g1,r1⟩:=oa
 obtain⟨ps2,g2,r2⟩:=ob
 obtain⟨u1,w1,m1⟩:=h1.obj
 obtain⟨u2,w2,m2⟩:=h2.obj
 obtain⟨H1,s1,x1,x2,eq,eq2⟩:=Hz ab w1 w2 g1 g2 s
 have y2:upd H1 a (.dK ps1) b=some u2:=by rw[aH (Ne.symm ab)];exact x2
 refine⟨?_,λt ht=>?_⟩
 ·have F1:=(F.grow s1).mutG hi ea (d':=.dct g') (o':=.dK ps1) ⟨ps1,bM,by rw[eq2];exact r1.updM hn2.1 g2 trivial⟩
  have hj1:Nv.at (e.set i ((e.at i).giv (.dct g'))) j=e.at j:=eY ij
  have F2:=F1.mutG (i:=j) (by rw[hj1];exact hj) eb (d':=.dct h') (o':=.dK ps2) (by rw[eq];exact⟨ps2,g2,r2⟩)
  rw[hj1,eq]at F2
  exact F2
 ·have q:=((ht.same s1).updM hn1.1 x1 m1 (o':=.dK ps1)).updM hn2.1 y2 m2 (o':=.dK ps2)
  rw[eq]at q
  exact q
end
section
variable{T:Tab}{cf:Nat->List D->Res D}{X:Cx}{x y c:E}{p q:Expr}{pos:Pos}{a b:S}
noncomputable def tRf(T:Tab)(cf:Nat->List D->Res D)(K:PySem.W.Frag)(H₀:Hp)(O₀:Addr->Prop)(f:Nat)(x:E)(i j:Nat)(y:E):TT:=λσ H Q=>
 ∃O own e d1 g h d2 r k,Fm K H₀ O₀ H O own e σ/\i≠j/\evE T cf x e=.ok d1/\(e.at i).givD=.ok g/\(e.at j).givD=.ok h/\evE T cf y e=.ok d2/\fO cf f d1 g h d2=.ok r/\r.1.truth=.ok k /\
  ∀H',Fm K H₀ O₀ H' O own ((e.set i ((e.at i).giv (.dct r.2.1))).set j ((e.at j).giv (.dct r.2.2))) σ->(∀t,PinOk K H O t->PinOk K H' O t)->Q k H'
theorem C0 {f i j:Nat} {n n1 n2:Str} {pn p1 p2:Pos} (hm0:T.mv f=some 1000) (hd:lJ T cf X f n) (hg:Gl X n) (hdb:(n==("__debug__" : Str))=false) (hp:bA p=true) (hq:bA q=true)
 (h1:X.N[i]?=some n1/\Vis X.env.scope n1/\(n1==("__debug__" : Str))=false/\(n1==("__classdict__" : Str))=false) (h2:X.N[j]?=some n2/\Vis X.env.scope n2/\(n2==("__debug__" : Str))=false/\(n2==("__classdict__" : Str))=false)
 (hx:SE T cf X x p) (hy:SE T cf X y q) (H₀:Hp) (O₀:Addr->Prop) :
 PT X (.Call (.Name n pn) [p,.Name n1 p1,.Name n2 p2,q] [] pos) (tRf T cf X.K H₀ O₀ f x i j y):=by
 obtain⟨k,a,fd,ps,Fk,hr,hm,hk,hb⟩:=hd
 rw[vK hm0]at Fk
 have hA:=cM (hx H₀ O₀) (cM (eP (pos:=p1) h1.1 h1.2.1 h1.2.2.1 h1.2.2.2) (cM (eP (pos:=p2) h2.1 h2.2.1 h2.2.2.1 h2.2.2.2) (cM (hy H₀ O₀) eG (bH hq)))) (bH hp)
 refine PT.imp (λσ H Q hq=>?_) (AL (AQ Fk hr hg hm hk hb .nil uP hA hdb (bH hp) (iV (by simp[hq];exact⟨rfl,rfl⟩))) λ_=>rfl)
 obtain⟨O,own,e,d1,g,h,d2,r,kk,F,ij,e1,e2,e3,e4,e5,e6,qk⟩:=hq
 obtain⟨pa,fa,ga,oa,na⟩:=F.giv e2
 obtain⟨pb,fb,gb,ob,nb⟩:=F.giv e3
 have ab:pa≠pb:=λz=>ij (F.inj i j pa fa (z▸fb))
 refine⟨O,own,e,d1,F,e1,λv1 H1 s1 r1 _=>⟨.ref pa,eA ga,.ref pb,eA gb,O,own,e,d2,F.grow s1,e4,λv4 H4 s4 r4 _=>?_⟩⟩
 have F4:=F.grow (s1.trans s4)
 refine⟨O,d1,d2,g,h,v1,v4,pa,pb,r.1,r.2.1,r.2.2,rfl,ab,⟨na.1,nb.1,F4.trk,F4.tab⟩,⟨r1.same s4,r4,oa.same (s1.trans s4),ob.same (s1.trans s4)⟩,Fz e5 pa pb ab,λv H' sx rv oa' ob'=>⟨kk,nM rv.rr e6,?_⟩⟩
 obtain⟨F',pin⟩:=F4.mut2 ij e2 e3 fa fb sx oa' ob'
 exact qk H' F' λt ht=>pin t (ht.same (s1.trans s4))
variable{ps qs:List Stmt}{cp:Expr}
theorem C1{f i j:Nat}{neg:Bool}{σ:L2.St}{H₀ H:Hp}{O₀:Addr->Prop}{D':Ends}{ts:List Pin}{e:Nv}{out:Out}{O:Addr->Prop}{own:Nat->Option Addr}(ij:i≠j)(F:Fm X.K H₀ O₀ H O own e σ)(tt:∀t∈ts,PinOk X.K H O t)(kx:Ends.to X.K H₀ O₀ ts D' out)
 (ev:(do
  let d1<-evE T cf x e
  let g<-(e.at i).givD
  let h<-(e.at j).givD
  let d2<-evE T cf y e
  let r<-fO cf f d1 g h d2
  let k<-r.1.truth
  let e1:=(e.set i ((e.at i).giv (.dct r.2.1))).set j ((e.at j).giv (.dct r.2.2))
  if(k != neg)then exS T cf a e1 else exS T cf b e1)=.ok out) :
 tRf T cf X.K H₀ O₀ f x i j y σ H λc H1=>if(c != neg)=true then tS T cf X.K H₀ O₀ a D' σ H1 else tS T cf X.K H₀ O₀ b D' σ H1:=by
 obtain⟨d1,e1,ev⟩:=Res.bind_ok ev
 obtain⟨g,e2,ev⟩:=Res.bind_ok ev
 obtain⟨h,e3,ev⟩:=Res.bind_ok ev
 obtain⟨d2,e4,ev⟩:=Res.bind_ok ev
 obtain⟨r,e5,ev⟩:=Res.bind_ok ev
 obtain⟨k,e6,ev⟩:=Res.bind_ok ev
 dsimp only at ev
 ·refine⟨O,own,e,d1,g,h,d2,r,k,F,ij,e1,e2,e3,e4,e5,e6,λH' F' pin=>?_⟩
  by_cases c:(k != neg)=true
  ·rw[if_pos c]at ev⊢
   exact⟨ts,_,out,⟨O,own,F',λt ht=>pin t (tt t ht)⟩,ev,kx⟩
  ·rw[if_neg c]at ev⊢
   exact⟨ts,_,out,⟨O,own,F',λt ht=>pin t (tt t ht)⟩,ev,kx⟩
theorem ss_ifN {f i j:Nat} {n n1 n2:Str} {pn p1 p2 pos' pos2:Pos} (hd:lJ T cf X f n) (hg:Gl X n) (hdb:(n==("__debug__" : Str))=false) (hp:bA p=true) (hq:bA q=true)
 (h1:X.N[i]?=some n1/\Vis X.env.scope n1/\(n1==("__debug__" : Str))=false/\(n1==("__classdict__" : Str))=false) (h2:X.N[j]?=some n2/\Vis X.env.scope n2/\(n2==("__debug__" : Str))=false/\(n2==("__classdict__" : Str))=false)
 (hx:SE T cf X x p) (hy:SE T cf X y q) (ha:SB T cf X a ps) (hb:SB T cf X b qs) :
 SS T cf X (.ifR true c f x i j y a b) (.If (.UnaryOp .Not (.Call (.Name n pn) [p,.Name n1 p1,.Name n2 p2,q] [] pos') pos2) ps qs pos):=λH₀ O₀=>by
 by_cases hm0:T.mv f=some 1000
 rotate_left
 ·exact PS.imp (λD' σ H ⟨ts,e,out,F,ev,k⟩=>by
   rw[lG]at ev
   obtain⟨cc,_⟩:=aZ ev
   rw[aF,decide_eq_true_eq]at cc
   exact hm0 cc.1) tU
 refine PS.imp (λD' σ H hq=>?_) (mM (AF (C0 hm0 hd hg hdb hp hq h1 h2 hx hy H₀ O₀)) (ha H₀ O₀) (hb H₀ O₀))
 obtain⟨ts,e,out,⟨O,own,F,tt⟩,ev,k⟩:=hq
 rw[lG]at ev
 obtain⟨cc,ev⟩:=aZ ev
 rw[aF,decide_eq_true_eq,decide_eq_true_eq]at cc
 rw[if_pos rfl,Res.ok_bind,if_neg aO]at ev
 have:=C1 (X:=X) cc.2 F tt k ev
 have z:∀c:Bool,(c != true)=!c:=λc=>by cases c<;>rfl
 simp only[z]at this
 exact this
theorem ss_ifC {f i j:Nat} {n n1 n2:Str} {pn p1 p2 pos' pos2:Pos} (hd:lJ T cf X f n) (hg:Gl X n) (hdb:(n==("__debug__" : Str))=false) (hp:bA p=true) (hq:bA q=true)
 (h1:X.N[i]?=some n1/\Vis X.env.scope n1/\(n1==("__debug__" : Str))=false/\(n1==("__classdict__" : Str))=false) (h2:X.N[j]?=some n2/\Vis X.env.scope n2/\(n2==("__debug__" : Str))=false/\(n2==("__classdict__" : Str))=false)
 (hc:ST T cf X c cp) (hx:SE T cf X x p) (hy:SE T cf X y q) (ha:SB T cf X a ps) (hb:SB T cf X b qs) :
 SS T cf X (.ifR false c f x i j y a b) (.If (.BoolOp .Or [cp,.Call (.Name n pn) [p,.Name n1 p1,.Name n2 p2,q] [] pos'] pos2) ps qs pos):=λH₀ O₀=>by
 by_cases hm0:T.mv f=some 1000
 rotate_left
 ·exact PS.imp (λD' σ H ⟨ts,e,out,F,ev,k⟩=>by
   rw[lG]at ev
   obtain⟨cc,_⟩:=aZ ev
   rw[aF,decide_eq_true_eq]at cc
   exact hm0 cc.1) tU
 refine PS.imp (λD' σ H hq=>?_) (mM (AE (hc H₀ O₀) (AD (C0 hm0 hd hg hdb hp hq h1 h2 hx hy H₀ O₀))).pt (ha H₀ O₀) (hb H₀ O₀))
 obtain⟨ts,e,out,⟨O,own,F,tt⟩,ev,k⟩:=hq
 rw[lG]at ev
 obtain⟨cc,ev⟩:=aZ ev
 rw[aF,decide_eq_true_eq,decide_eq_true_eq]at cc
 rw[if_neg aO]at ev
 obtain⟨k0,e0,ev⟩:=Res.bind_ok ev
 obtain⟨d0,e00,e0⟩:=Res.bind_ok e0
 refine⟨O,own,e,d0,k0,F,e00,e0,λH1 s1=>?_⟩
 cases k0 with
 |true=>
  rw[if_pos rfl]at ev⊢
  show(if true=true then _ else _)
  rw[if_pos rfl]
  exact⟨ts,e,out,⟨O,own,F.grow s1,λt ht=>(tt t ht).same s1⟩,ev,k⟩
 |false=>
  rw[if_neg aO]at ev⊢
  have:=C1 (X:=X) cc.2 (F.grow s1) (λt ht=>(tt t ht).same s1) k ev
  have z:∀c:Bool,(c != false)=c:=λc=>by cases c<;>rfl
  simp only[z]at this
  exact this
theorem IA {i:Nat} {n:Str} {px tpos:Pos} (hR:iU X) (hN:X.N[i]?=some n) (hv:Vis X.env.scope n) (hd:(n==("__debug__" : Str))=false) (hc:(n==("__classdict__" : Str))=false) (hx:dH p=true) (hk:SE T cf X y q) (h:SE T cf X x p) :
 SS T cf X (.dputR i y x) (.Assign [.Subscript (.Name n px) q tpos] p pos):=λH₀ O₀=>by
 have hR':X.A.units+64<cLine:=hR
 refine PS.imp (λD' σ H hq=>?_) (Fo (by lia) (eP hN hv hd hc) (hk H₀ O₀) (h H₀ O₀) (jO hx))
 obtain⟨ts,e,out,⟨O,own,F,tt⟩,ev,k⟩:=hq
 rw[GA]at ev
 obtain⟨d,e1,ev⟩:=Res.bind_ok ev
 obtain⟨l,e2,ev⟩:=Res.bind_ok ev
 obtain⟨dk,e3,ev⟩:=Res.bind_ok ev
 obtain⟨key,e4,ev⟩:=Res.bind_ok ev
 obtain⟨c,ev⟩:=aZ ev
 cases ev
 have eg:(e.at i).givD=.ok l.2:=by rw[Sl.refD_ok e2];rfl
 obtain⟨q1,f0,g1,g2,g4⟩:=F.giv eg
 refine⟨O,own,e,d,F,e1,λv H1 s1 r1 _=>?_⟩
 refine⟨.ref q1,eA g1,O,own,e,dk,F.grow s1,e3,λvk H2 s2 r2 _=>?_⟩
 have ex:=lI (hZ e4) r2.rr
 subst ex
 have F2:=(F.grow s1).grow s2
 obtain⟨xs2,f2,f3⟩:=(g2.same s1).same s2
 refine⟨q1,_,rfl,DPut.k f2 (by rw[f3.length,<-fS];exact of_decide_eq_true c),?_⟩
 have Fn:=F2.mutG eg f0 (d':=.dct (dG l.2 key d)) (o':=.dK _) ⟨_,bM,(BS (r1.same s2) f3).updM g4.1 f2 trivial⟩
 have eq:(e.at i).giv (.dct (dG l.2 key d))=.r l.1 (.dct (dG l.2 key d)):=by rw[Sl.refD_ok e2];rfl
 rw[eq]at Fn
 exact k _ _ ⟨O,own,Fn,λt ht=>(((tt t ht).same s1).same s2).updM g4.1 f2 trivial⟩
theorem IB{i j:Nat}(h:SE T cf X x p):SS T cf X (.retR x i j) (.Return (some p) pos):=λH₀ O₀=>by
 refine PS.imp (λD' σ H hq=>?_) (kD (h H₀ O₀))
 obtain⟨ts,e,out,⟨O,own,F,tt⟩,ev,k⟩:=hq
 rw[GB]at ev
 obtain⟨d,e1,ev⟩:=Res.bind_ok ev
 obtain⟨l,e2,ev⟩:=Res.bind_ok ev
 obtain⟨m,e3,ev⟩:=Res.bind_ok ev
 cases ev
 have q1:=F.sl i
 rw[Sl.refD_ok e2]at q1
 have q2:=F.sl j
 rw[Sl.refD_ok e3]at q2
 have w:∀c,(O₀ c\/c=l.1\/c=m.1)->O c:=λc hc=>by
  rcases hc with z|z|z
  ·exact F.sub c z
  ·rw[z];exact(F.new i _ q1.1).1
  ·rw[z];exact(F.new j _ q2.1).1
 exact⟨O,own,e,d,F,e1,λv H' s' r n=>k v H' (F.same.trans s') (r.weak w) ((q1.2.2.same s').weak w) ((q2.2.2.same s').weak w)⟩
theorem IC {i j:Nat} {n nm m:Str} {px pm apos cpos:Pos} (hN:X.N[i]?=some n) (hv:Vis X.env.scope n) (hd:(n==("__debug__" : Str))=false) (hc:(n==("__classdict__" : Str))=false) (hnm:nm = "extend") (hline:(apos.endLine==cpos.line)=true)
 (h2:X.N[j]?=some m/\Vis X.env.scope m/\(m==("__debug__" : Str))=false/\(m==("__classdict__" : Str))=false) :
 SS T cf X (.extN i j) (.Expr (.Call (.Attribute (.Name n px) nm apos) [.Name m pm] [] cpos) pos):=λH₀ O₀=>by
 subst hnm
 refine PS.imp (λD' σ H hq=>?_) (mL (tZ PySem.F.plainAttrs_list PySem.F.slot_list_extend PySem.F.type_list_extend A6 (eP hN hv hd hc) (cM (eP (pos:=pm) h2.1 h2.2.1 h2.2.2.1 h2.2.2.2) eG) rfl rfl hline rfl rfl) rfl)
 obtain⟨ts,e,out,⟨O,own,F,tt⟩,ev,k⟩:=hq
 rw[Av]at ev
 split at ev
 ·rename_i b hj
  obtain⟨l,e2,ev⟩:=Res.bind_ok ev
  obtain⟨c,ev⟩:=aZ ev
  cases ev
  obtain⟨q0,xs0,f1,f2,f3,f4,f5⟩:=F.mut i (Sl.own_ok e2)
  have q:=F.sl j
  rw[hj]at q
  obtain⟨v,g1,g2⟩:=q
  rcases g2 with⟨z,_⟩|⟨ds,p,zs,w1,w2,rfl,w4,w5,w6⟩
  ·cases z
  ·cases w1
   refine⟨.ref q0,eA f1,.inl ⟨rfl,xs0,.of f2⟩,.ref p,eA g1,?_⟩
   refine⟨q0,p,xs0,zs,rfl,rfl,f2,w4,by rw[f3.length,w6.length,<-fS];exact of_decide_eq_true c,?_⟩
   exact k _ _ ⟨O,own,f5 _ _ (f3.append w6),λt ht=>(tt t ht).upd f4 f2⟩
 ·cases ev
end
theorem ID{xs:List (Key×Value)}{k:Key}{u:Value}:(stored xs k u).length<=xs.length+1:=by
 unfold stored
 split
 ·rw[aE];exact oY _
 ·rw[cD];exact aS _
noncomputable def PairK(h:Heap)(x:Addr)(q:Key×Value×Value):Prop:=
 (∃o n,h.get? x=some o/\o.cls=.type "tuple" /\ o.data=.seq #[q.2.1,q.2.2] n)/\gY q.1 q.2.1=true
theorem PairK.keeps{h h':Heap}{x:Addr}{q:Key×Value×Value}(p:PairK h x q)(k0:∀o,h.get? x=some o->h'.get? x=some o):PairK h' x q:=by
 obtain⟨⟨o,n,e1,e2,e3⟩,e4⟩:=p
 exact⟨⟨o,n,k0 _ e1,e2,e3⟩,e4⟩
section
variable{prog:Program}{w:World}
theorem qL{h h':Heap}{d:Addr}{xs:List (Key×Value)}(hd:h.DictOf (bW prog w) d xs)(k0:∀o,h.get? d=some o->h'.get? d=some o):h'.DictOf (bW prog w) d xs:=by
 obtain⟨o,es,ep,ho,r⟩:=hd
 exact⟨o,es,ep,k0 o ho,r⟩
variable{A:Around}{R:Result->Shared->Prop}{I:Addr}{fp wr:List Addr}{G:Array GenState->Array GenState->Prop}{n:Nat}{P:Nat->Value->Prop}{St:Nat->Shared->Prop}
theorem IE(W:WalksS prog w A.in1 I fp wr G n P St)(d:Addr)(hdf:d∉fp)(val:Nat->Key×Value×Value)(hu:A.in1.units<cLine) :
 ∀(k i:Nat)(s:Shared)(xs:List (Key×Value)),n-i=k->i<=n->St i s->xs.length+k<=sizeLine ->
  (∀i v,i<n->P i v->∃x,v=.ref x/\(x≠d/\x∉wr)/\PairK s.heap x (val i)) ->
  s.heap.DictOf (bW prog w) d xs ->
  (∀s',Moved (d::wr) G s s'->s'.heap.DictOf (bW prog w) d ((cW i k).foldl (λxs j=>stored xs (val j).1 (val j).2.2) xs)->R (.ok (.ret .none)) s') ->
  codeAny (model prog w) A (.builtin "dict.update.loop" ⟨[.ref d,.ref I,rawInt (i:Nat),.none],[]⟩) R s:=by
 have hdw:d∉wr:=λh=>hdf (W.sub _ h)
 have hsub:∀b∈wr,b∈d::wr:=λb hb=>aR _ hb
 intro k
 induction k with
 |zero=>
  intro i s xs hk hi hst hz hT hD hR
  have hin:i=n:=by lia
  subst hin
  refine codeAny_builtin CT ?_
  rw[Around.under_plainId qK _]
  show wpAny _ A.in1 (pyNext (.ref I)>>=_) _ _ s
  refine wpAny_bind (W.done s _ _ hst λs' hm=>?_)
  show wpAny _ A.in1 (Builtin.Dict.addKeywords d []>>=_) _ _ s'
  exact wpAny_bind (wpAny_pure (wpAny_pure (hR s' (hm.mono hsub) (qL hD λo e=>hm.heap d o hdw e))))
 |succ k ih=>
  intro i s xs hk hi hst hz hT hD hR
  have hlt:i<n:=by lia
  refine codeAny_builtin CT ?_
  rw[Around.under_plainId qK _]
  show wpAny _ A.in1 (pyNext (.ref I)>>=_) _ _ s
  refine wpAny_bind (W.item i s _ _ hlt hst λv s' hP hst' hm=>?_)
  have hT':∀i v,i<n->P i v->∃x,v=.ref x/\(x≠d/\x∉wr)/\PairK s'.heap x (val i):=λi v hi hv=>by
   obtain⟨x,e1,e2,e4⟩:=hT i v hi hv
   exact⟨x,e1,e2,e4.keeps λo e=>hm.heap x o e2.2 e⟩
  obtain⟨x,rfl,hxd,⟨ox,nx,ex,cx,dx⟩,hkx⟩:=hT' i v hlt hP
  have hD':s'.heap.DictOf (bW prog w) d xs:=qL hD λo e=>hm.heap d o hdw e
  show wpAny _ A.in1 (holding [.ref x] _>>=_) _ _ s'
  have tx:s'.TypeIs (.ref x) "tuple" := ⟨ox,ex,cx⟩
  refine wpAny_bind (wpAny_holding ?_)
  refine wpAny_bind (wpAny_tryCatch ?_)
  unfold Builtin.Dict.pairItems
  refine wpAny_bind (wpAny_typeOf tx ?_)
  rw[if_pos (by decide)]
  refine wpAny_bind (wpAny_seqItems ex dx (wpAny_pure ?_))
  show wpAny _ A.in1 (holding [(val i).2.1,(val i).2.2] (dictSet d (val i).2.1 (val i).2.2)) _ _ s'
  refine wpAny_holding ?_
  refine wpAny_dictSet_pairs (knd:=bW prog w) (hsz:=by lia) hkx hD' λh' hD2 hsb=>?_
  show wpAny _ A.in1 (again (.builtin "dict.update.loop" ⟨[.ref d,.ref I,rawInt ((i:Int)+1),.none],[]⟩)) _ _ _
  refine wpAny_pure ⟨plainId_quiet qK _,?_⟩
  have hsame:∀b o,b≠d->s'.heap.get? b=some o->h'.get? b=some o:=λb o hb e=>(hsb.2 b hb).trans e
  refine ih (i+1) _ (stored xs (val i).1 (val i).2.2) (by lia) hlt (W.frame _ s' _ _ hst' (zR _ _) λb hb o e=>?_) (by have:=ID (xs:=xs) (k:=(val i).1) (u:=(val i).2.2);lia) (λi v hi hv=>?_) hD2 λs'' hm'' hD''=>?_
  ·exact hsame b o (λh:b=d=>hdf (by rw[<-h];exact hb)) e
  ·obtain⟨x,e1,e2,e4⟩:=hT' i v hi hv
   exact⟨x,e1,e2,e4.keeps λo e=>hsame x o e2.1 e⟩
  ·refine hR s'' (Moved.trans W.gtrans ((hm.mono hsub).then_heap (zR _ _) λb o hb e=>?_) hm'') ?_
   ·exact hsame b o (λh:b=d=>hb (by rw[h];exact bC)) e
   ·rw[Eg,LD];exact hD''
end
section
variable{prog:Program}{w:World}{A:Around}{E:Value->Shared->Prop}{s:Shared}
theorem IF{l:Addr}{its:Array Value}{nl:Nat}{val:Nat->Key×Value×Value}{Q:Value->Shared->Prop}(hh:A.handled=none)(hu:A.units+8<cLine)
 {ol:Obj} (hl:s.heap.get? l=some ol) (hlc:ol.cls=.type "list") (hld:ol.dict=none) (hls:ol.data=.seq its nl) (hz:its.size<=sizeLine) (hval:∀i v,its[i]?=some v->∃x,v=.ref x/\PairK s.heap x (val i))
 (h:∀(h':Heap)(tk:Nat),h'.DictOf (bW prog w) s.heap.objs.size ((cW 0 its.size).foldl (λxs j=>stored xs (val j).1 (val j).2.2) []) ->
  (∀b o,b<s.heap.objs.size->s.heap.get? b=some o->h'.get? b=some o)->Q (.ref s.heap.objs.size) {s with heap:=h',toks:=tk}) :
 wpAny (model prog w) A (call (.type "dict") [.ref l]) Q E s:=by
 refine callType_codes (Q₁:=λobj s₁=>obj=.ref s.heap.objs.size/\s₁={s with heap:=s.heap.push {cls:=.type "dict", data:=.dict #[] } }) F.kt_called_dict (F.kt_typeCall_dict_1 _) F.entry_dict_init (kt_code_dict_new _ ⟨rfl,rfl⟩) ?_
 rintro obj s₁ ⟨rfl,rfl⟩
 have hnew:(s.heap.push {cls:=.type "dict", data:=.dict #[] }).DictOf (bW prog w) s.heap.objs.size []:=Heap.DictOf.new s.heap
 have hty:({s with heap:=s.heap.push {cls:=.type "dict", data:=.dict #[] } }:Shared).TypeIs (.ref s.heap.objs.size) "dict" := Heap.DictOf.typeIs hnew
 refine⟨hty,F.args_dict_init_2 _ _,?_⟩
 generalize hpu:s.heap.push {cls:=.type "dict", data:=.dict #[] }=hp1 at *
 have hz1:hp1.objs.size=s.heap.objs.size+1:=by rw[<-hpu];exact Heap.size_push ..
 have hold:∀b o,s.heap.get? b=some o->hp1.get? b=some o:=λb o e=>by rw[<-hpu];exact Heap.get?_push_of_some _ e
 have hlS:l<s.heap.objs.size:=Heap.lt_size hl
 have hl1:=hold _ _ hl
 unfold Builtin.«dict.__init__»
 refine wpAny_bind ?_
 unfold Builtin.Dict.selfAndRest
 refine wpAny_bind (wpAny_notOrdered_dict hty ?_)
 show wpAny _ _ (pure (s.heap.objs.size,[Value.ref l])) _ _ _
 refine wpAny_pure ?_
 show wpAny _ _ (Builtin.Dict.updateFrom "dict.__init__" s.heap.objs.size (.ref l) [] .none) _ _ _
 unfold Builtin.Dict.updateFrom
 refine wpAny_bind (wpAny_typeOf (T := "list") ⟨_,hl1,hlc⟩ ?_)
 rw[if_pos (by decide)]
 have hh2:A.in1.in1.handled=none:=by simp[hh]
 refine wpAny_bind (Hv hl1 hlc hls hld hh2 λh2 tk2 e2 hx2=>?_)
 rw[if_pos (by rfl)]
 have hl2:h2.IsList l its:=⟨_,hx2.keeps _ _ hl1,hlc,nl,hls⟩
 have hD2:h2.DictOf (bW prog w) s.heap.objs.size []:=qL hnew λo e=>hx2.keeps _ _ e
 have hdz:s.heap.objs.size<h2.objs.size:=by
  obtain⟨o,_,_,ho,_⟩:=hD2
  exact Heap.lt_size ho
 refine wpAny_bind (wpAny_rule ?_)
 refine wpAny_bind (wpAny_pyIter_list hl2 ?_)
 refine wpAny_pure ⟨plainId_quiet qK _,?_⟩
 have hh3:A.in1.in1.handled=none:=by simp[hh]
 have hu3:A.in1.in1.units<cLine:=by show A.units+1+1<cLine;lia
 have hneI:l≠h2.objs.size:=bI (kX hlS hdz)
 refine IE ((Walks.list hh3 _ l hneI its).toS) s.heap.objs.size (by simp only[aV,cI,mH,or_false,not_or];exact⟨bI hdz,kT hlS⟩) val hu3 its.size 0 _ [] (by lia) (eW _) ⟨⟨_,Heap.get?_push_size _ rfl,rfl,rfl⟩,(hl2.push _)⟩ (by simpa using hz) (λi v _ hv=>?_) (qL hD2 λo e=>Heap.get?_push_of_some _ e) λs' hm hD'=>?_
 ·obtain⟨x,rfl,px⟩:=hval i v hv
  have hlx:x<s.heap.objs.size:=let ⟨⟨_,_,e,_⟩,_⟩:=px;Heap.lt_size e
  refine⟨x,rfl,⟨bI hlx,?_⟩,px.keeps λo e=>Heap.get?_push_of_some _ (hx2.keeps _ _ (hold _ _ e))⟩
  simp only[aV,cI,mH,or_false,not_or];exact bI (kX hlx hdz)
 ·obtain⟨h',g',d',tk',os'⟩:=s'
  have eg:g'=s.gens:=hm.gens
  have ed:d'=s.drawn:=hm.drawn
  have eo:os'=s.os:=hm.os
  subst eg;subst ed;subst eo
  refine⟨rfl,h h' tk' hD' λb o hb e=>?_⟩
  exact hm.heap b o (by simp only[aV,cI,mH,or_false,not_or];exact⟨bI hb,bI (kX hb hdz)⟩) (Heap.get?_push_of_some _ (hx2.keeps _ _ (hold _ _ e)))
end
noncomputable def qM(K:PySem.W.Frag)(H:Hp):List Addr->List (Key×V)->Prop
 |[],qs=>qs=[]
 |a::r,qs=>∃k y q,qs=(k,y)::q/\SqT K H a [kV k,y]/\qM K H r q
noncomputable def iA(qs:List (Key×V))(kvs:List (Key×V)):List (Key×V):=qs.foldl (λm q=>dF m q.1 q.2) kvs
theorem IG{kvs:List (Key×V)}{k:Key}{v:V}:(dF kvs k v).length<=kvs.length+1:=by
 unfold dF
 split
 ·rw[aE];exact oY _
 ·rw[cD];exact aS _
theorem C2:∀{qs:List (Key×V)} {kvs:List (Key×V)},(iA qs kvs).length<=kvs.length+qs.length
 |[],kvs=>aS _
 |q::r,kvs=>by
  have h1:=C2 (qs:=r) (kvs:=dF kvs q.1 q.2)
  have h2:=IG (kvs:=kvs) (k:=q.1) (v:=q.2)
  rw[aW]
  exact bX h1 (by lia)
theorem kV_is{k:Key}{u:Value}(h:RelV (kV k) u):gY k u=true:=by
 cases k with
 |inl i=>obtain⟨t,rfl⟩:=h;exact zY i t
 |inr x=>obtain⟨t,rfl⟩:=h;exact zZ x t
theorem C3{X:Cx}{pins:List (Addr×Obj)}{σ:L2.St}{H:Hp}{s:Shared}(I:Inv X pins σ H s):∀{as:List Addr} {qs:List (Key×V)},qM X.K H as qs ->
 ∃vs:List (Key×Value×Value),vs.length=as.length/\qs.length=as.length/\(∀(i:Nat)(a:Addr),as[i]?=some a->∃q,vs[i]?=some q/\PairK s.heap a q) /\
  ∀{kvs:List (Key×V)} {xs:List (Key×Value)},KV kvs xs->KV (iA qs kvs) (vs.foldl (λxs q=>stored xs q.1 q.2.2) xs)
 |[],qs,h=>by
  cases h
  exact⟨[],rfl,rfl,λi a e=>by simp at e,λr=>r⟩
 |a::r,qs,h=>by
  obtain⟨k,y,q,rfl,ht,hr⟩:=h
  obtain⟨vs,l1,l2,h1,h2⟩:=C3 I hr
  obtain⟨its,rv,⟨o,e,hc,n,d⟩,_⟩:=I.tuple ht
  cases rv with
  | @cons _ u0 _ _ r1 rv=>
   cases rv with
   | @cons _ u _ _ r2 rv=>
    cases rv
    refine⟨(k,u0,u)::vs,by rw[aW,aW,l1],by rw[aW,aW,l2],λi a' e'=>?_,λrk=>?_⟩
    ·cases i with
     |zero=>
      cases e'
      exact⟨_,rfl,⟨o,n,e,hc,d⟩,kV_is r1⟩
     |succ i=>exact h1 i a' e'
    ·exact h2 (rk.put k r2)
theorem IH {X:Cx} (hc:X.calm=true) (hr:X.A.units+64<cLine):cZ X (.type "dict") (λvs H Q=>∃a as qs,vs=[.ref a]/\SqL X.K H a (as.map V.ref)/\qM X.K H as qs/\∀p o,H p=none->Q (.ref p) (upd H p (.frz o (.dK (iA qs []))))):=by
 intro pins s σ H vs us Q I rv h
 obtain⟨a,as,qs,rfl,hS,hP,q⟩:=h
 obtain⟨u,rfl,ru⟩:=rv.one
 cases ru
 obtain⟨its,r,⟨ol,nl,e1,e2,e3,e4⟩,hz⟩:=I.list hS
 have hits:=BG r
 subst hits
 obtain⟨xs,l1,l2,h1,h2⟩:=C3 I hP
 rw[aE]at hz
 refine IF (val:=λi=>xs.getD i (.inl 0,.none,.none)) (I.ok.hd hc) (by lia) e1 e2 e3 e4 (by rw[bG,aE];exact hz) (λi v hv=>?_) λh' tk hD hkeep=>?_
 ·have hv':(as.map Value.ref)[i]?=some v:=by simpa using hv
  rw[bT]at hv'
  cases e:as[i]? with
  |none=>rw[e]at hv';cases hv'
  |some x=>
   rw[e]at hv'
   cases hv'
   obtain⟨q,g1,g2⟩:=h1 i x e
   exact⟨x,rfl,by show PairK _ _ (xs.getD i (.inl 0,.none,.none));rw[jH,g1];exact g2⟩
 ·have fr:H s.heap.objs.size=none:=I.hok.fresh (aS _)
  rw[show(List.map Value.ref as).toArray.size=xs.length from by rw[bG,aE,l1],Hw (λxs q=>stored xs q.1 q.2.2) (.inl 0,.none,.none) xs []]at hD
  have I1:Inv X pins σ (upd H s.heap.objs.size (.dK (iA qs []))) {s with heap:=h',toks:=tk}:=
   I.laid (λb o e=>hkeep b o (Heap.lt_size e) e) (aS _) ⟨bX C2 (by rw[l2,oW,kB];exact hz),beq_eq_false_iff_ne.mpr (Ne.symm (bI I.big)),_,h2 .nil,hD⟩
  obtain⟨o,_,_,_,I2⟩:=BH I1 bM
  rw[show L2.upd (L2.upd H s.heap.objs.size (.dK (iA qs []))) s.heap.objs.size (.frz o (.dK (iA qs [])))=L2.upd H s.heap.objs.size (.frz o (.dK (iA qs [])))from Em]at I2
  exact⟨.ref s.heap.objs.size,_,I2,rfl,q _ o fr⟩
section
variable{T:Tab}{cf:Nat->List D->Res D}{X:Cx}{x:E}{p:Expr}{pos:Pos}
theorem C4{K:PySem.W.Frag}{H:Hp}{O:Addr->Prop}:∀{ds:List D} {qs:List (Sum Int Str×D)} {xs:List V},hJ ds=.ok qs->RDs K H O ds xs->∃(as:List Addr)(ys:List (Key×V)),xs=as.map V.ref/\qM K H as ys/\RDk K H O qs ys
 |[],qs,xs,h,w=>by
  rw[hJ]at h;cases h
  rw[RDs]at w;subst w
  exact⟨[],[],rfl,rfl,rfl⟩
 |d::r,qs,xs,h,w=>by
  unfold hJ at h
  split at h
  ·rename_i e;cases e
  ·rename_i kd v r' e
   cases e
   obtain⟨key,e3,h⟩:=Res.bind_ok h
   obtain⟨q,e4,h⟩:=Res.bind_ok h
   cases h
   obtain⟨u,us,rfl,w1,w2⟩:=w
   obtain⟨as,ys,rfl,p1,p2⟩:=C4 e4 w2
   obtain⟨a,zs,rfl,tq,z1,zr,rfl,rk,z2,zs2,rfl,rv,e5⟩:=w1
   cases (show zs2=[]from e5)
   have ek:=lI (hZ e3) (RD.rr rk)
   subst ek
   exact⟨a::as,(key,z2)::ys,rfl,⟨key,z2,ys,rfl,TupV.sq tq,p1⟩,z2,ys,rfl,rv,p2⟩
  ·cases h
theorem C5{K:PySem.W.Frag}{H:Hp}{O:Addr->Prop}:∀{qs:List (Sum Int Str×D)} {ys:List (Key×V)} {ds:List (Sum Int Str×D)} {ps:List (Key×V)},RDk K H O qs ys->RDk K H O ds ps->RDk K H O (eJ qs ds) (iA ys ps)
 |[],ys,ds,ps,h,w=>by rw[RDk]at h;subst h;exact w
 |(k,d)::qs,ys,ds,ps,h,w=>by
  obtain⟨v,r,rfl,h1,h2⟩:=h
  show RDk K H O (eJ qs (dG ds k d)) (iA r (dF ps k v))
  exact C5 h2 (BS h1 w)
theorem se_dck {pn:Pos} (hh:X.calm=true) (hR:iU X) (hm1:X.mg "dict" = none) (hg1:Gl X "dict") (hp:bA p=true) (ha:SE T cf X x p):SE T cf X (.dck x) (.Call (.Name "dict" pn) [p] [] pos):=λH₀ O₀=>by
 refine PE.imp (λσ H Q hq=>?_) (pK (IH hh hR) hg1 hm1 (by decide +kernel) (cM (ha H₀ O₀) eG (bH hp)) (by decide) (by decide) (bH hp) rfl)
 obtain⟨O,own,e,d,F,ev,k⟩:=hq
 (first|rw[xE_dck]at ev|rw[nB]at ev)
 obtain⟨d1,e1,ev1⟩:=Res.bind_ok ev
 refine⟨O,own,e,d1,F,e1,λv1 H1 s1 r1 _=>?_⟩
 cases d1 with
 |lst ds=>
  obtain⟨qs,e2,ev2⟩:=Res.bind_ok (show(hJ ds>>=_)=Res.ok d from ev1)
  cases ev2
  obtain⟨a,xs,rfl,q1,w1⟩:=(RD.rr r1).lst
  obtain⟨as,ys,rfl,p1,p2⟩:=C4 e2 w1
  refine⟨a,as,ys,rfl,q1,p1,λp o hn=>?_⟩
  have s2:=cG hn (.frz o (.dK (iA ys [])))
  exact k _ _ (s1.trans s2) ⟨p,_,rfl,⟨o,bM⟩,(C5 (ds:=[]) (ps:=[]) p2 rfl).same s2⟩ (λz=>by cases z)
 |_=>cases ev1
end
set_option genInjectivity false in
structure Txt where
 gn:List Str
 dn:List Str
 tf:List (Str×List Nat):=[]
 ts:List (Str×List Str):=[]
 cls:List Str:=[]
 icl:List Str:=[]
 dm:List (Nat×Str):=[]
 lam:Option Pos:=none
noncomputable def Txt.at(Tx:Txt)(st:Stmt):Txt:={Tx with lam:=lH (eQ st) }
noncomputable def gL{α:Type}[BEq α]:List α->Bool
 |[]=>true
 |a::r=>!r.contains a&&gL r
theorem qN{α:Type}[BEq α][LawfulBEq α]:∀{l:List α},gL l=true->l.Nodup
 |[],_=>gW
 |a::r,h=>by
  rw[gL,aF]at h
  refine dD.mpr ⟨λm=>?_,qN h.2⟩
  have:r.contains a=true:=LO.mpr m
  rw[this]at h
  exact absurd h.1 (by simp)
noncomputable def aJ:E->Bool
 |.rd _=>true
 |_=>false
noncomputable def visB(sc:Scope)(n:Str):Bool:=(sc.names.lookup n==some .local)||(sc.names.lookup n==some .cell)||(sc.names.lookup n==some .free)
noncomputable def glB(sc:Scope)(n:Str):Bool:=sc.names.lookup n==some .globalImplicit
noncomputable def eT (n:Str):Bool:=!(n==("__debug__" : Str))&&!(n==("__classdict__" : Str))
noncomputable def dI(N:List Str)(sc:Scope)(i:Nat)(n:Str):Bool:=(N[i]?==some n)&&visB sc n&&eT n
noncomputable def iX(scope sc:Scope):Scope:={scope with names:=scope.names.map λ(n,k)=>if(k==.free&&sc.kind==.function&&sc.names.lookup n==some .cell)then(n,.cell)else(n,k) }
noncomputable def cO:Expr->List Str
 |.Name n _=>[n]
 |.Tuple es _ _=>es.filterMap λ| .Name n _=>some n|_=>none
 |_=>[]
noncomputable def mGs(loc:Bool)(N:List Str)(sc:Scope):List Nat->List Expr->Bool
 |[],[]=>true
 |i::is,.Name n _::es=>(N[i]?==some n)&&((sc.names.lookup n==some .local)||(!loc&&sc.names.lookup n==some .cell))&&mGs loc N sc is es
 |_,_=>false
noncomputable def mG(loc:Bool)(N:List Str)(sc:Scope):G->Expr->Bool
 |.one i,.Name n _=>(N[i]?==some n)&&((sc.names.lookup n==some .local)||(!loc&&sc.names.lookup n==some .cell))
 |.many is,.Tuple es _ _=>mGs loc N sc is es
 |_,_=>false
noncomputable def scB(sc scope:Scope):Bool:=(scope.kind==.function)&&scope.names.all (λx=>!(x.2==.cell))&&scope.names.all (λx=>!(x.2==.local)||(scope.names.lookup x.1==some .local)) &&
 scope.names.all (λx=>!(x.2==.free)||(!(scope.names.lookup x.1==some .local)&&((sc.names.lookup x.1==some .cell)||(sc.names.lookup x.1==some .free))))
noncomputable def cP (N:List Str) (caps:List Nat):List Str:=caps.map λi=>(N[i]?).getD ""
noncomputable def nU(N:List Str)(scope:Scope)(caps:List Nat):Bool:=caps.all λi=>match N[i]? with|some n=>scope.names.contains (n,.free)|none=>false
noncomputable def qO:E->Bool
 |.con (.bl true)=>true
 |_=>false
noncomputable def iB:E->Bool
 |.omit=>true
 |_=>false
noncomputable def vV:Expr->Bool
 |.Tuple _ _ _=>true
 |_=>false
noncomputable def vC(G:Str->List Expr->Bool):Expr->Bool
 |.Call (.Name n _) es [] _=>G n es
 |_=>false
noncomputable def v1(G:Expr->Bool):List Expr->Bool
 |[q]=>G q
 |_=>false
noncomputable def vL(G:List Expr->Bool):List Expr->Bool
 |[]=>false
 |e::es=>G (e::es)
theorem jP{G:Str->List Expr->Bool}{p:Expr}(h:vC G p=true):∃n pn es pos,p=.Call (.Name n pn) es [] pos/\G n es=true:=by
 cases p with
 |Call fn es ks pos=>
  cases fn with
  |Name n pn=>cases ks with
   |nil=>exact⟨n,pn,es,pos,rfl,h⟩
   |cons _ _=>exact absurd h aO
  |_=>exact absurd h aO
 |_=>exact absurd h aO
theorem jQ{G:Expr->Bool}{l:List Expr}(h:v1 G l=true):∃q,l=[q]/\G q=true:=by
 rcases l with _|⟨q,_|⟨q',es⟩⟩
 ·exact absurd h aO
 ·exact⟨q,rfl,h⟩
 ·exact absurd h aO
theorem vL_of{G:List Expr->Bool}{l:List Expr}(h:vL G l=true):∃e es,l=e::es/\G (e::es)=true:=by
 cases l with
 |nil=>exact absurd h aO
 |cons e es=>exact⟨e,es,rfl,h⟩
noncomputable def vP(G:Expr->Expr->Bool):List Expr->Bool
 |[q,r]=>G q r
 |_=>false
theorem C6{G:Expr->Expr->Bool}{l:List Expr}(h:vP G l=true):∃q r,l=[q,r]/\G q r=true:=by
 rcases l with _|⟨q,_|⟨r,_|⟨q',es⟩⟩⟩
 ·exact absurd h aO
 ·exact absurd h aO
 ·exact⟨q,r,rfl,h⟩
 ·exact absurd h aO
noncomputable def v2(G:Str->Str->Expr->Bool):Expr->Bool:=vC λn=>v1 (vC λm=>v1 (G n m))
noncomputable def vM(G:Str->Str->Pos->Pos->List Expr->Bool):Stmt->Bool
 |.Expr (.Call (.Attribute (.Name n _) nm apos) es [] cpos) _=>G n nm apos cpos es
 |_=>false
theorem vW{G:Str->Str->Pos->Pos->List Expr->Bool}{p:Stmt}(h:vM G p=true):∃n px nm apos es cpos pos,p=.Expr (.Call (.Attribute (.Name n px) nm apos) es [] cpos) pos/\G n nm apos cpos es=true:=by
 cases p with
 |Expr v pos=>cases v with
  |Call f es ks cpos=>cases f with
   |Attribute o nm apos=>cases o with
    |Name n px=>cases ks with
     |nil=>exact⟨n,px,nm,apos,es,cpos,pos,rfl,h⟩
     |cons _ _=>exact absurd h aO
    |_=>exact absurd h aO
   |_=>exact absurd h aO
  |_=>exact absurd h aO
 |_=>exact absurd h aO
noncomputable def vA(G:Expr->Expr->Bool):Stmt->Bool
 |.Assign tgs v _=>v1 (λtg=>G tg v) tgs
 |_=>false
theorem C7{G:Expr->Expr->Bool}{p:Stmt}(h:vA G p=true):∃tg v pos,p=.Assign [tg] v pos/\G tg v=true:=by
 cases p with
 |Assign tgs v pos=>
  obtain⟨tg,rfl,h⟩:=jQ h
  exact⟨tg,v,pos,rfl,h⟩
 |_=>exact absurd h aO
noncomputable def vX(G:Str->Expr->Bool):Expr->Bool
 |.Subscript (.Name n _) q _=>G n q
 |_=>false
theorem vX_of{G:Str->Expr->Bool}{p:Expr}(h:vX G p=true):∃n px q pos,p=.Subscript (.Name n px) q pos/\G n q=true:=by
 cases p with
 |Subscript o q pos=>cases o with
  |Name n px=>exact⟨n,px,q,pos,rfl,h⟩
  |_=>exact absurd h aO
 |_=>exact absurd h aO
noncomputable def vN(G:Str->Pos->Bool):Expr->Bool
 |.Name n pn=>G n pn
 |_=>false
theorem vY{G:Str->Pos->Bool}{p:Expr}(h:vN G p=true):∃n pn,p=.Name n pn/\G n pn=true:=by
 cases p with
 |Name n pn=>exact⟨n,pn,rfl,h⟩
 |_=>exact absurd h aO
noncomputable def vD:Expr->Bool
 |.Dict [] [] _=>true
 |_=>false
theorem vD_of{p:Expr}(h:vD p=true):∃pos,p=.Dict [] [] pos:=by
 cases p with
 |Dict ks vs pos=>cases ks with
  |nil=>cases vs with
   |nil=>exact⟨pos,rfl⟩
   |cons _ _=>exact absurd h aO
  |cons _ _=>exact absurd h aO
 |_=>exact absurd h aO
section
variable(Tx:Txt)
mutual
noncomputable def mE:E->List Str->Scope->Expr->Bool
 |.var i,N,sc,.Name n _=>dI N sc i n
 |.rd i,N,sc,.Name n _=>dI N sc i n
 |.con d,_,_,.Constant c _ _=>uQ d c
 |.glob g,_,sc,.Name n _=>(Tx.gn[g]?==some n)&&glB sc n&&eT n
 |.bin o a b,N,sc,.BinOp l o' r _=>(o==o')&&mE a N sc l&&mE b N sc r
 |.cmp o a b,N,sc,.Compare l [o'] [r] _=>(o==o')&&mE a N sc l&&mE b N sc r
 |.neg a,N,sc,.UnaryOp .USub l _=>mE a N sc l
 |.and a b,N,sc,.BoolOp .And [l,r] _=>!aJ a&&!aJ b&&mE a N sc l&&mE b N sc r
 |.and a b,N,sc,.BoolOp .And (l::r::r'::rest) pos=>!aJ a&&!aJ b&&mE a N sc l&&mE b N sc (.BoolOp .And (r::r'::rest) pos)
 |.or a b,N,sc,.BoolOp .Or [l,r] _=>!aJ a&&!aJ b&&mE a N sc l&&mE b N sc r
 |.or a b,N,sc,.BoolOp .Or (l::r::r'::rest) pos=>!aJ a&&!aJ b&&mE a N sc l&&mE b N sc (.BoolOp .Or (r::r'::rest) pos)
 |.not a,N,sc,.UnaryOp .Not l _=>mE a N sc l
 |.ife c a b,N,sc,.IfExp l m r _=>!aJ a&&!aJ b&&mE c N sc l&&mE a N sc m&&mE b N sc r
 |.ix a b,N,sc,.Subscript l r _=>mE a N sc l&&mE b N sc r
 |.sl a lo hi,N,sc,.Subscript l (.Slice p q none _) _=>mE a N sc l&&(match p with|none=>iB lo|some p'=>!aJ lo&&mE lo N sc p')&&(match q with|none=>iB hi|some q'=>!aJ hi&&mE hi N sc q')
 |.tup a,N,sc,.Tuple es _ _=>mA a false N sc es
 |.lst a,N,sc,.List es _=>mA a false N sc es
 |.call f a,N,sc,p=>vC (λn es=>(Tx.dn[f]?==some n)&&glB sc n&&eT n&&mA a false N sc es) p
 |.srt a,N,sc,p=>vC (λn=>v1 λq=>(n == "sorted")&&glB sc n&&mE a N sc q) p
 |.dck a,N,sc,p=>vC (λn=>v1 λq=>(n == "dict")&&glB sc n&&!aJ a&&mE a N sc q) p
 |.bt b a,N,sc,p=>vC (λn=>vL λes=>b.use&&(n==b.nm)&&glB sc n&&mA a true N sc es) p
 |.isi a t,N,sc,p=>vC (λn=>vP λl r=>vN (λm _=>(n == "isinstance")&&(m==Str.ofString t.nm)&&glB sc n&&glB sc m&&mE a N sc l) r) p
 |.comp own caps g elt src cond,N,sc,.ListComp pe [⟨tg,iter,ifs,isa⟩] scope _=>
  (isa==0)&&scB sc scope&&nU N scope caps&&gL caps&&gL (cO tg++cP N caps)&&(own==(cO tg).length)&&g.below own&&mG true (cO tg++cP N caps) (iX scope sc) g tg &&
  mI src true N sc tg iter&&!aJ elt&&mE elt (cO tg++cP N caps) (iX scope sc) pe &&
  (match ifs with
   |[]=>qO cond
   |[c]=>mE cond (cO tg++cP N caps) (iX scope sc) c
   |_=>false)
 |_,_,_,_=>false
termination_by structural x=>x
noncomputable def mA:E->Bool->List Str->Scope->List Expr->Bool
 |.anil,_,_,_,[]=>true
 |.acons a r,rd,N,sc,p::ps=>(rd||!aJ a)&&mE a N sc p&&mA r rd N sc ps
 |_,_,_,_,_=>false
termination_by structural x=>x
noncomputable def mI:E->Bool->List Str->Scope->Expr->Expr->Bool
 |.seq a,rd,N,sc,_,p=>(rd||!aJ a)&&mE a N sc p
 |.rng a,_,N,sc,_,p=>vC (λn=>v1 λq=>(n == "range")&&glB sc n&&!aJ a&&mE a N sc q) p
 |.rng2 a b,_,N,sc,_,p=>vC (λn=>vP λq r=>(n == "range")&&glB sc n&&!aJ a&&!aJ b&&mE a N sc q&&mE b N sc r) p
 |.enum a,rd,N,sc,tg,p=>vC (λn=>v1 λq=>(n == "enumerate")&&glB sc n&&vV tg&&(rd||!aJ a)&&mE a N sc q) p
 |.seqD a,_,N,sc,_,p=>!aJ a&&mE a N sc p
 |_,_,_,_,_,_=>false
termination_by structural x=>x
end
end
section
variable{Tx:Txt}{N:List Str}{sc:Scope}{p tg:Expr}
theorem nof{P:Prop}(h:false=true):P:=absurd h aO
theorem bB{a b:Bool}(h:(a&&b)=true):a=true/\b=true:=by rw[aF]at h;exact h
theorem eU{a:Bool}(h:(!a)=true):a=false:=by rw[bU]at h;exact h
theorem beq1{α:Type}[BEq α][LawfulBEq α]{a b:α}(h:(a==b)=true):a=b:=eq_of_beq h
theorem vZ{i:Nat}(h:mE Tx (.var i) N sc p=true):∃n pos,p=.Name n pos/\dI N sc i n=true:=by
 cases p<;>first|exact nof h|exact⟨_,_,rfl,h⟩
theorem i_rd{i:Nat}(h:mE Tx (.rd i) N sc p=true):∃n pos,p=.Name n pos/\dI N sc i n=true:=by
 cases p<;>first|exact nof h|exact⟨_,_,rfl,h⟩
theorem C8{d:D}(h:mE Tx (.con d) N sc p=true):∃c k pos,p=.Constant c k pos/\uQ d c=true:=by
 cases p<;>first|exact nof h|exact⟨_,_,_,rfl,h⟩
theorem C9{g:Nat}(h:mE Tx (.glob g) N sc p=true):∃n pos,p=.Name n pos/\(Tx.gn[g]?==some n&&glB sc n&&eT n)=true:=by
 cases p<;>first|exact nof h|exact⟨_,_,rfl,h⟩
theorem C_{o:Operator}{a b:E}(h:mE Tx (.bin o a b) N sc p=true):∃l r pos,p=.BinOp l o r pos/\mE Tx a N sc l=true/\mE Tx b N sc r=true:=by
 cases p with
 |BinOp l o' r pos=>
  have h:=bB (show((o==o')&&mE Tx a N sc l&&mE Tx b N sc r)=true from h)
  have h1:=bB h.1
  have e:o=o':=beq1 h1.1
  subst e
  exact⟨l,r,pos,rfl,h1.2,h.2⟩
 |_=>exact nof h
theorem Ca{o:CmpOp}{a b:E}(h:mE Tx (.cmp o a b) N sc p=true):∃l r pos,p=.Compare l [o] [r] pos/\mE Tx a N sc l=true/\mE Tx b N sc r=true:=by
 cases p with
 |Compare l os rs pos=>
  rcases os with _|⟨o',_|⟨o'',os⟩⟩
  ·exact nof h
  ·rcases rs with _|⟨r,_|⟨r',rs⟩⟩
   ·exact nof h
   ·have h:=bB (show((o==o')&&mE Tx a N sc l&&mE Tx b N sc r)=true from h)
    have h1:=bB h.1
    have e:o=o':=beq1 h1.1
    subst e
    exact⟨l,r,pos,rfl,h1.2,h.2⟩
   ·exact nof h
  ·exact nof h
 |_=>exact nof h
theorem Cb{a:E}(h:mE Tx (.neg a) N sc p=true):∃l pos,p=.UnaryOp .USub l pos/\mE Tx a N sc l=true:=by
 cases p with
 |UnaryOp op l pos=>cases op<;>first|exact nof h|exact⟨_,_,rfl,h⟩
 |_=>exact nof h
theorem Cc{a b:E}(h:mE Tx (.and a b) N sc p=true):∃l r rest pos,p=.BoolOp .And (l::r::rest) pos/\aJ a=false/\aJ b=false/\mE Tx a N sc l=true/\((rest=[]/\mE Tx b N sc r=true)\/(∃r' rs,rest=r'::rs/\mE Tx b N sc (.BoolOp .And (r::rest) pos)=true)):=by
 cases p with
 |BoolOp op vs pos=>
  cases op with
  |Or=>exact nof h
  |And=>
   rcases vs with _|⟨l,_|⟨r,_|⟨r',rest⟩⟩⟩
   ·exact nof h
   ·exact nof h
   ·have h:=bB (show(!aJ a&&!aJ b&&mE Tx a N sc l&&mE Tx b N sc r)=true from h)
    have h1:=bB h.1
    have h2:=bB h1.1
    exact⟨l,r,[],pos,rfl,eU h2.1,eU h2.2,h1.2,.inl ⟨rfl,h.2⟩⟩
   ·have h:=bB (show(!aJ a&&!aJ b&&mE Tx a N sc l&&mE Tx b N sc (.BoolOp .And (r::r'::rest) pos))=true from h)
    have h1:=bB h.1
    have h2:=bB h1.1
    exact⟨l,r,r'::rest,pos,rfl,eU h2.1,eU h2.2,h1.2,.inr ⟨r',rest,rfl,h.2⟩⟩
 |_=>exact nof h
theorem i_or{a b:E}(h:mE Tx (.or a b) N sc p=true):∃l r rest pos,p=.BoolOp .Or (l::r::rest) pos/\aJ a=false/\aJ b=false/\mE Tx a N sc l=true/\((rest=[]/\mE Tx b N sc r=true)\/(∃r' rs,rest=r'::rs/\mE Tx b N sc (.BoolOp .Or (r::rest) pos)=true)):=by
 cases p with
 |BoolOp op vs pos=>
  cases op with
  |And=>exact nof h
  |Or=>
   rcases vs with _|⟨l,_|⟨r,_|⟨r',rest⟩⟩⟩
   ·exact nof h
   ·exact nof h
   ·have h:=bB (show(!aJ a&&!aJ b&&mE Tx a N sc l&&mE Tx b N sc r)=true from h)
    have h1:=bB h.1
    have h2:=bB h1.1
    exact⟨l,r,[],pos,rfl,eU h2.1,eU h2.2,h1.2,.inl ⟨rfl,h.2⟩⟩
   ·have h:=bB (show(!aJ a&&!aJ b&&mE Tx a N sc l&&mE Tx b N sc (.BoolOp .Or (r::r'::rest) pos))=true from h)
    have h1:=bB h.1
    have h2:=bB h1.1
    exact⟨l,r,r'::rest,pos,rfl,eU h2.1,eU h2.2,h1.2,.inr ⟨r',rest,rfl,h.2⟩⟩
 |_=>exact nof h
theorem Cd{a:E}(h:mE Tx (.not a) N sc p=true):∃l pos,p=.UnaryOp .Not l pos/\mE Tx a N sc l=true:=by
 cases p with
 |UnaryOp op l pos=>cases op<;>first|exact nof h|exact⟨_,_,rfl,h⟩
 |_=>exact nof h
theorem Ce{c a b:E}(h:mE Tx (.ife c a b) N sc p=true):∃l m r pos,p=.IfExp l m r pos/\aJ a=false/\aJ b=false/\mE Tx c N sc l=true/\mE Tx a N sc m=true/\mE Tx b N sc r=true:=by
 cases p with
 |IfExp l m r pos=>
  have h:=bB (show(!aJ a&&!aJ b&&mE Tx c N sc l&&mE Tx a N sc m&&mE Tx b N sc r)=true from h)
  have h1:=bB h.1
  have h2:=bB h1.1
  have h3:=bB h2.1
  exact⟨l,m,r,pos,rfl,eU h3.1,eU h3.2,h2.2,h1.2,h.2⟩
 |_=>exact nof h
theorem i_ix{a b:E}(h:mE Tx (.ix a b) N sc p=true):∃l r pos,p=.Subscript l r pos/\mE Tx a N sc l=true/\mE Tx b N sc r=true:=by
 cases p with
 |Subscript l r pos=>
  have h:=bB (show(mE Tx a N sc l&&mE Tx b N sc r)=true from h)
  exact⟨l,r,pos,rfl,h.1,h.2⟩
 |_=>exact nof h
theorem i_sl{a lo hi:E}(h:mE Tx (.sl a lo hi) N sc p=true):∃l pl ph pos pos',p=.Subscript l (.Slice pl ph none pos') pos/\mE Tx a N sc l=true/\((pl=none/\iB lo=true)\/∃q,pl=some q/\aJ lo=false/\mE Tx lo N sc q=true)/\((ph=none/\iB hi=true)\/∃q,ph=some q/\aJ hi=false/\mE Tx hi N sc q=true):=by
 cases p with
 |Subscript l r pos=>
  cases r with
  |Slice pl ph st pos'=>
   cases st with
   |some _=>exact nof h
   |none=>
    refine⟨l,pl,ph,pos,pos',rfl,?_⟩
    cases pl with
    |none=>
     cases ph with
     |none=>
      have h:=bB (show(mE Tx a N sc l&&iB lo&&iB hi)=true from h)
      exact⟨(bB h.1).1,.inl ⟨rfl,(bB h.1).2⟩,.inl ⟨rfl,h.2⟩⟩
     |some q=>
      have h:=bB (show(mE Tx a N sc l&&iB lo&&(!aJ hi&&mE Tx hi N sc q))=true from h)
      exact⟨(bB h.1).1,.inl ⟨rfl,(bB h.1).2⟩,.inr ⟨q,rfl,eU (bB h.2).1,(bB h.2).2⟩⟩
    |some q0=>
     cases ph with
     |none=>
      have h:=bB (show(mE Tx a N sc l&&(!aJ lo&&mE Tx lo N sc q0)&&iB hi)=true from h)
      exact⟨(bB h.1).1,.inr ⟨q0,rfl,eU (bB (bB h.1).2).1,(bB (bB h.1).2).2⟩,.inl ⟨rfl,h.2⟩⟩
     |some q=>
      have h:=bB (show(mE Tx a N sc l&&(!aJ lo&&mE Tx lo N sc q0)&&(!aJ hi&&mE Tx hi N sc q))=true from h)
      exact⟨(bB h.1).1,.inr ⟨q0,rfl,eU (bB (bB h.1).2).1,(bB (bB h.1).2).2⟩,.inr ⟨q,rfl,eU (bB h.2).1,(bB h.2).2⟩⟩
  |_=>exact nof h
 |_=>exact nof h
theorem Cf{a:E}(h:mE Tx (.tup a) N sc p=true):∃es k pos,p=.Tuple es k pos/\mA Tx a false N sc es=true:=by
 cases p<;>first|exact nof h|exact⟨_,_,_,rfl,h⟩
theorem Cg{a:E}(h:mE Tx (.lst a) N sc p=true):∃es pos,p=.List es pos/\mA Tx a false N sc es=true:=by
 cases p<;>first|exact nof h|exact⟨_,_,rfl,h⟩
theorem qP{f:Nat}{a:E}(h:mE Tx (.call f a) N sc p=true):∃n pn es pos,p=.Call (.Name n pn) es [] pos/\(Tx.dn[f]?==some n&&glB sc n&&eT n&&mA Tx a false N sc es)=true:=by
 exact jP h
theorem Ci {a:E} (h:mE Tx (.srt a) N sc p=true):∃n pn q pos,p=.Call (.Name n pn) [q] [] pos/\((n == "sorted")&&glB sc n&&mE Tx a N sc q)=true:=by
 obtain⟨n,pn,es,pos,rfl,g1⟩:=jP h
 obtain⟨q,rfl,g2⟩:=jQ g1
 exact⟨n,pn,q,pos,rfl,g2⟩
theorem Cj {a:E} (h:mE Tx (.dck a) N sc p=true):∃n pn q pos,p=.Call (.Name n pn) [q] [] pos/\((n == "dict")&&glB sc n&&!aJ a&&mE Tx a N sc q)=true:=by
 obtain⟨n,pn,es,pos,rfl,g1⟩:=jP h
 obtain⟨q,rfl,g2⟩:=jQ g1
 exact⟨n,pn,q,pos,rfl,g2⟩
theorem i_bt{b:Bt}{a:E}(h:mE Tx (.bt b a) N sc p=true):∃n pn e es pos,p=.Call (.Name n pn) (e::es) [] pos/\(b.use&&(n==b.nm)&&glB sc n&&mA Tx a true N sc (e::es))=true:=by
 obtain⟨n,pn,es,pos,rfl,g1⟩:=jP h
 obtain⟨e,es,rfl,g2⟩:=vL_of g1
 exact⟨n,pn,e,es,pos,rfl,g2⟩
theorem Ck {a:E} {t:Ty} (h:mE Tx (.isi a t) N sc p=true):∃n pn l m pm pos,p=.Call (.Name n pn) [l,.Name m pm] [] pos/\((n == "isinstance")&&(m==Str.ofString t.nm)&&glB sc n&&glB sc m&&mE Tx a N sc l)=true:=by
 obtain⟨n,pn,es,pos,rfl,g1⟩:=jP h
 obtain⟨l,r,rfl,g2⟩:=C6 g1
 obtain⟨m,pm,rfl,g3⟩:=vY g2
 exact⟨n,pn,l,m,pm,pos,rfl,g3⟩
end
noncomputable def kJ:List Str:=["len", "sum", "tuple", "list", "int", "str", "isinstance", "range", "enumerate", "bool", "abs", "min", "max", "all", "any", "set", "zip", "sorted", "dict"]
set_option genInjectivity false in
structure OkX(T:Tab)(cf:Nat->List D->Res D)(Tx:Txt)(X:Cx):Prop where
 calm:X.calm=true
 roomy:iU X
 defs:∀f n,Tx.dn[f]?=some n->nN T cf X f n
 globs:∀g n,Tx.gn[g]?=some n->BO X n (T.glob g)
 blt:∀n∈kJ,X.mg n=none
 nd:X.N.Nodup
 tf:∀q∈Tx.tf,TabF T cf X q.1 q.2
 ts:∀q∈Tx.ts,TabS X q.1 q.2
 dm:∀q∈Tx.dm,lJ T cf X q.1 q.2
section
variable{T:Tab}{cf:Nat->List D->Res D}{Tx:Txt}{X:Cx}
theorem gM {i:Nat} {n:Str} {N:List Str} {sc:Scope} (h:dI N sc i n=true):N[i]?=some n/\Vis sc n/\(n==("__debug__" : Str))=false/\(n==("__classdict__" : Str))=false:=by
 simp only[dI,visB,eT,aF,fL,bU,beq_iff_eq]at h
 refine⟨h.1.1,?_,h.2.1,h.2.2⟩
 rcases h.1.2 with(z|z)|z
 ·exact .inl z
 ·exact .inr (.inl z)
 ·exact .inr (.inr z)
theorem fA{n:Str}(h:glB X.env.scope n=true):Gl X n:=by
 have h':X.env.scope.names.lookup n=some .globalImplicit:=by simpa[glB]using h
 exact h'
noncomputable def wA:Expr->Bool
 |.BoolOp _ _ _=>true
 |_=>false
theorem qQ {n:Str} (h:eT n=true):(n==("__debug__" : Str))=false:=by
 simp only[eT,aF,bU]at h
 exact h.1
theorem Cm{loc:Bool}(hN:X.N.Nodup)(hf:∀n,loc=false->X.fn n=true):∀{is:List Nat} {es:List Expr},mGs loc X.N X.env.scope is es=true->SGs X is es/\nR es=true/\es.length=is.length
 |[],[],_=>⟨Gs,rfl,rfl⟩
 |[],_::_,h=>by exact nof h
 |_::_,[],h=>by exact nof h
 |i::is,e::es,h=>by
  cases e with
  |Name n pos=>
   change (_&&(_||_)&&_)=true at h
   simp only[aF,fL,beq_iff_eq,bU]at h
   obtain⟨⟨h1,h2⟩,h3⟩:=h
   obtain⟨a1,a2,a3⟩:=Cm hN hf h3
   refine⟨Gv hN h1 ?_ ?_ a1,a2,by rw[aW,aW,a3]⟩
   ·rcases h2 with z|z
    ·exact .inl z
    ·exact .inr z.2
   ·rcases h2 with z|z
    ·exact .inr z
    ·exact .inl (hf n z.1)
  |_=>exact nof h
theorem qR{loc:Bool}{g:G}{tg:Expr}(hc:X.calm=true)(hN:X.N.Nodup)(hf:∀n,loc=false->X.fn n=true)(h:mG loc X.N X.env.scope g tg=true):SG X g tg/\bA tg=true:=by
 cases g with
 |one i=>
  cases tg with
  |Name n pos=>
   change (_&&(_||_))=true at h
   simp only[aF,fL,beq_iff_eq,bU]at h
   refine⟨sg_one hN h.1 ?_ ?_,rfl⟩
   ·rcases h.2 with z|z
    ·exact .inl z
    ·exact .inr z.2
   ·rcases h.2 with z|z
    ·exact .inr z
    ·exact .inl (hf n z.1)
  |_=>exact nof h
 |many is=>
  cases tg with
  |Tuple es k pos=>
   obtain⟨a1,a2,a3⟩:=Cm hN hf h
   exact⟨Gy hc a2 a3 a1,rfl⟩
  |_=>exact nof h
noncomputable def PEx(T:Tab)(cf:Nat->List D->Res D)(Tx:Txt)(x:E):Prop:=∀X p,OkX T cf Tx X->mE Tx x X.N X.env.scope p=true->SR T cf X x p/\(aJ x=false->SE T cf X x p)/\ST T cf X x p/\bA p=true/\(wA p=true->SW T cf X x p)
noncomputable def PAx(T:Tab)(cf:Nat->List D->Res D)(Tx:Txt)(x:E):Prop:=∀X rd ps,OkX T cf Tx X->mA Tx x rd X.N X.env.scope ps=true->SAr T cf X x ps/\(rd=false->SAv T cf X x ps)/\ps.all bA=true
noncomputable def PIx(T:Tab)(cf:Nat->List D->Res D)(Tx:Txt)(x:E):Prop:=∀X rd tg p,OkX T cf Tx X->mI Tx x rd X.N X.env.scope tg p=true->SI T cf X tg x rd p/\bA p=true
theorem noA{x:E}(h:∀rd N sc ps,mA Tx x rd N sc ps=false):PAx T cf Tx x:=λX rd ps _ m=>by rw[h]at m;cases m
theorem noI{x:E}(h:∀rd N sc tg p,mI Tx x rd N sc tg p=false):PIx T cf Tx x:=λX rd tg p _ m=>by rw[h]at m;cases m
theorem noE{x:E}(h:∀N sc p,mE Tx x N sc p=false):PEx T cf Tx x:=λX p _ m=>by rw[h]at m;cases m
theorem eD{x:E}{p:Expr}(h:SE T cf X x p)(he:∀whole,isTrue p X.env whole=(do let v<-whole;standAt p.pos;holding [v] (truthy v)))(hp:bA p=true)(hb:wA p=false:=by rfl):SR T cf X x p/\(aJ x=false->SE T cf X x p)/\ST T cf X x p/\bA p=true/\(wA p=true->SW T cf X x p):=
 ⟨h.sr,λ_=>h,B8 h.sr he,hp,λz=>by rw[hb]at z;cases z⟩
theorem okC(ok:OkX T cf Tx X){scope:Scope}{C:Addr}{Nc:List Str}{s2:Shared}{H2:Hp}{fp:List Addr}(h:Nc.Nodup):OkX T cf Tx (cxC X scope C Nc s2 H2 fp):=
 ⟨ok.calm,ok.roomy,ok.defs,ok.globs,ok.blt,h,ok.tf,ok.ts,ok.dm⟩
theorem scC_of{scope:Scope}(h:scB X.env.scope scope=true):ScopeC X scope:=by
 simp only[scB,aF,gE,fL,bU,beq_iff_eq,beq_eq_false_iff_ne,ne_eq]at h
 obtain⟨⟨⟨h1,h2⟩,h3⟩,h4⟩:=h
 refine⟨h1,h2,λx hx e=>?_,λx hx e=>?_,λx hx e=>?_⟩
 ·rcases h3 x hx with z|z
  ·exact absurd e z
  ·exact z
 ·rcases h4 x hx with z|z
  ·exact absurd e z
  ·exact z.1
 ·rcases h4 x hx with z|z
  ·exact absurd e z
  ·exact z.2
theorem capsOk{scope:Scope}{caps:List Nat}{own:Nat}{tn:List Str}(h:nU X.N scope caps=true)(hn:gL caps=true)(ho:own=tn.length):CapsOk X scope own caps (tn++cP X.N caps):=by
 refine⟨by rw[cD,ho,cP,aE],qN hn,λj i hj=>?_⟩
 simp only[nU,gE]at h
 have:=h i (iJ hj)
 cases e:X.N[i]? with
 |none=>rw[e]at this;cases this
 |some n=>
  rw[e]at this
  refine⟨n,rfl,?_,by simpa using this⟩
  rw[ho,gD (by lia),show tn.length+j-tn.length=j by lia,cP,bT,hj]
  simp[e]
theorem i_rng {a:E} {rd:Bool} {N:List Str} {sc:Scope} {tg p:Expr} (h:mI Tx (.rng a) rd N sc tg p=true):∃n pn q pos,p=.Call (.Name n pn) [q] [] pos/\((n == "range")&&glB sc n&&!aJ a&&mE Tx a N sc q)=true:=by
 obtain⟨n,pn,es,pos,rfl,g1⟩:=jP h
 obtain⟨q,rfl,g2⟩:=jQ g1
 exact⟨n,pn,q,pos,rfl,g2⟩
theorem i_rng2 {a b:E} {rd:Bool} {N:List Str} {sc:Scope} {tg p:Expr} (h:mI Tx (.rng2 a b) rd N sc tg p=true):∃n pn q r pos,p=.Call (.Name n pn) [q,r] [] pos/\((n == "range")&&glB sc n&&!aJ a&&!aJ b&&mE Tx a N sc q&&mE Tx b N sc r)=true:=by
 obtain⟨n,pn,es,pos,rfl,g1⟩:=jP h
 obtain⟨q,r,rfl,g2⟩:=C6 g1
 exact⟨n,pn,q,r,pos,rfl,g2⟩
theorem i_enum {a:E} {rd:Bool} {N:List Str} {sc:Scope} {tg p:Expr} (h:mI Tx (.enum a) rd N sc tg p=true):∃n pn q pos,p=.Call (.Name n pn) [q] [] pos/\((n == "enumerate")&&glB sc n&&vV tg&&(rd||!aJ a)&&mE Tx a N sc q)=true:=by
 obtain⟨n,pn,es,pos,rfl,g1⟩:=jP h
 obtain⟨q,rfl,g2⟩:=jQ g1
 exact⟨n,pn,q,pos,rfl,g2⟩
theorem Cn{own:Nat}{caps:List Nat}{g:G}{elt src cond:E}{N:List Str}{sc:Scope}{p:Expr}(h:mE Tx (.comp own caps g elt src cond) N sc p=true):∃pe tg iter ifs scope pos,p=.ListComp pe [⟨tg,iter,ifs,0⟩] scope pos /\
 scB sc scope=true/\nU N scope caps=true/\gL caps=true/\gL (cO tg++cP N caps)=true/\own=(cO tg).length/\g.below own=true/\mG true (cO tg++cP N caps) (iX scope sc) g tg=true /\
 mI Tx src true N sc tg iter=true/\aJ elt=false/\mE Tx elt (cO tg++cP N caps) (iX scope sc) pe=true /\
 ((ifs=[]/\qO cond=true)\/∃c,ifs=[c]/\mE Tx cond (cO tg++cP N caps) (iX scope sc) c=true):=by
 cases p with
 |ListComp pe gens scope pos=>
  rcases gens with _|⟨⟨tg,iter,ifs,isa⟩,_|⟨g2,gens⟩⟩
  ·exact nof h
  ·change (_&&_)=true at h;simp only[aF,bU,beq_iff_eq]at h
   obtain⟨⟨⟨⟨⟨⟨⟨⟨⟨⟨⟨a1,a2⟩,a3⟩,a4⟩,a5⟩,a6⟩,a7⟩,a8⟩,a9⟩,a10⟩,a11⟩,a12⟩:=h
   subst a1
   refine⟨pe,tg,iter,ifs,scope,pos,rfl,a2,a3,a4,a5,a6,a7,a8,a9,a10,a11,?_⟩
   rcases ifs with _|⟨c,_|⟨c',ifs⟩⟩
   ·exact .inl ⟨rfl,a12⟩
   ·exact .inr ⟨c,rfl,a12⟩
   ·cases a12
  ·exact nof h
 |_=>exact nof h
theorem Co{own:Nat}{caps:List Nat}{g:G}{elt src cond:E}{pe tg iter:Expr}{ifs:List Expr}{scope:Scope}(ok:OkX T cf Tx X)(ie:PEx T cf Tx elt)(is:PIx T cf Tx src)(ic:PEx T cf Tx cond)
 (a2:scB X.env.scope scope=true) (a3:nU X.N scope caps=true) (a4:gL caps=true) (a5:gL (cO tg++cP X.N caps)=true) (a6:own=(cO tg).length) (a8:mG true (cO tg++cP X.N caps) (iX scope X.env.scope) g tg=true)
 (a9:mI Tx src true X.N X.env.scope tg iter=true) (a10:aJ elt=false) (a11:mE Tx elt (cO tg++cP X.N caps) (iX scope X.env.scope) pe=true)
 (a12:(ifs=[]/\qO cond=true)\/∃c,ifs=[c]/\mE Tx cond (cO tg++cP X.N caps) (iX scope X.env.scope) c=true) :
 ScopeC X scope/\CapsOk X scope own caps (cO tg++cP X.N caps)/\bA iter=true/\SI T cf X tg src true iter /\
 ∀C s2 H2 fp,(cxC X scope C (cO tg++cP X.N caps) s2 H2 fp).Ok->SG (cxC X scope C (cO tg++cP X.N caps) s2 H2 fp) g tg/\SE T cf (cxC X scope C (cO tg++cP X.N caps) s2 H2 fp) elt pe/\nS ifs cond (ST T cf (cxC X scope C (cO tg++cP X.N caps) s2 H2 fp) cond):=by
 obtain⟨s1,s2⟩:=is X true tg iter ok a9
 refine⟨scC_of a2,capsOk a3 a4 a6,s2,s1,λC s2 H2 fp _=>?_⟩
 have okc:OkX T cf Tx (cxC X scope C (cO tg++cP X.N caps) s2 H2 fp):=okC ok (qN a5)
 refine⟨(qR (X:=cxC X scope C (cO tg++cP X.N caps) s2 H2 fp) ok.calm okc.nd (λn z=>by cases z) a8).1,(ie _ _ okc a11).2.1 a10,?_⟩
 rcases a12 with⟨z1,z2⟩|⟨c,z1,z2⟩
 ·refine .inl ⟨z1,?_⟩
  unfold qO at z2
  split at z2
  ·rfl
  ·cases z2
 ·exact .inr ⟨c,z1,(ic _ _ okc z2).2.2.1⟩
theorem bZ:∀x:E,PEx T cf Tx x/\PAx T cf Tx x/\PIx T cf Tx x:=by
 intro x
 induction x with
 |var i=>
  refine⟨λX p ok h=>?_,noA λrd N sc ps=>rfl,noI λrd N sc tg p=>rfl⟩
  obtain⟨n,pos,rfl,hn⟩:=vZ h
  obtain⟨a1,a2,a3,a4⟩:=gM hn
  exact eD (se_var a1 a2 a3 a4) (λ_=>rfl) rfl
 |rd i=>
  refine⟨λX p ok h=>?_,noA λrd N sc ps=>rfl,noI λrd N sc tg p=>rfl⟩
  obtain⟨n,pos,rfl,hn⟩:=i_rd h
  obtain⟨a1,a2,a3,a4⟩:=gM hn
  exact⟨BN a1 a2 a3 a4,(λz=>by cases z),B8 (BN a1 a2 a3 a4) (λ_=>rfl),rfl,λz=>by cases z⟩
 |con d=>
  refine⟨λX p ok h=>?_,noA λrd N sc ps=>rfl,noI λrd N sc tg p=>rfl⟩
  obtain⟨c,k,pos,rfl,hn⟩:=C8 h
  exact eD (se_con hn) (λ_=>rfl) rfl
 |glob g=>
  refine⟨λX p ok h=>?_,noA λrd N sc ps=>rfl,noI λrd N sc tg p=>rfl⟩
  obtain⟨n,pos,rfl,hn⟩:=C9 h
  simp only[aF,beq_iff_eq]at hn
  exact eD (GT (fA hn.1.2) (ok.globs g n hn.1.1) (qQ hn.2)) (λ_=>rfl) rfl
 |bin o a b iha ihb=>
  refine⟨λX p ok h=>?_,noA λrd N sc ps=>rfl,noI λrd N sc tg p=>rfl⟩
  obtain⟨l,r,pos,rfl,h1,h2⟩:=C_ h
  exact eD (se_bin (iha.1 X l ok h1).1 (ihb.1 X r ok h2).1) (λ_=>rfl) rfl
 |cmp o a b iha ihb=>
  refine⟨λX p ok h=>?_,noA λrd N sc ps=>rfl,noI λrd N sc tg p=>rfl⟩
  obtain⟨l,r,pos,rfl,h1,h2⟩:=Ca h
  have hb:=ihb.1 X r ok h2
  have se:=se_cmp (o:=o) (pos:=pos) ok.roomy hb.2.2.2.1 (iha.1 X l ok h1).1 hb.1
  exact⟨se.sr,λ_=>se,st_cmp ok.roomy hb.2.2.2.1 (iha.1 X l ok h1).1 hb.1,rfl,λz=>by cases z⟩
 |seqD a iha=>
  refine⟨noE λN sc p=>rfl,noA λrd N sc ps=>rfl,λX rd tg p ok h=>?_⟩
  change (_&&_)=true at h;simp only[aF,bU]at h
  obtain⟨a1,a2,_,a4,_⟩:=iha.1 X p ok h.2
  cases rd with
  |true=>exact⟨(CZ (a2 h.1)).up,a4⟩
  |false=>exact⟨CZ (a2 h.1),a4⟩
 |and a b iha ihb=>
  refine⟨λX p ok h=>?_,noA λrd N sc ps=>rfl,noI λrd N sc tg p=>rfl⟩
  obtain⟨l,r,rest,pos,rfl,ra,rb,h1,h2⟩:=Cc h
  obtain⟨_,sa,ta,_⟩:=iha.1 X l ok h1
  have sb:SE T cf X b (.BoolOp .And (r::rest) pos)/\SW T cf X b (.BoolOp .And (r::rest) pos):=by
   rcases h2 with⟨rfl,h2⟩|⟨r',rs,rfl,h2⟩
   ·obtain⟨_,b1,b2,_⟩:=ihb.1 X r ok h2
    exact⟨Ba (b1 rb),Ga b2⟩
   ·obtain⟨_,b1,b2,_,b5⟩:=ihb.1 X _ ok h2
    exact⟨b1 rb,b5 rfl⟩
  exact⟨(B9 (sa ra) sb.1).sr,λ_=>B9 (sa ra) sb.1,(Bc ta sb.2).st,rfl,λ_=>Bc ta sb.2⟩
 |or a b iha ihb=>
  refine⟨λX p ok h=>?_,noA λrd N sc ps=>rfl,noI λrd N sc tg p=>rfl⟩
  obtain⟨l,r,rest,pos,rfl,ra,rb,h1,h2⟩:=i_or h
  obtain⟨_,sa,ta,_⟩:=iha.1 X l ok h1
  have sb:SE T cf X b (.BoolOp .Or (r::rest) pos)/\SW T cf X b (.BoolOp .Or (r::rest) pos):=by
   rcases h2 with⟨rfl,h2⟩|⟨r',rs,rfl,h2⟩
   ·obtain⟨_,b1,b2,_⟩:=ihb.1 X r ok h2
    exact⟨Ba (b1 rb),sw_or1 b2⟩
   ·obtain⟨_,b1,b2,_,b5⟩:=ihb.1 X _ ok h2
    exact⟨b1 rb,b5 rfl⟩
  exact⟨(B_ (sa ra) sb.1).sr,λ_=>B_ (sa ra) sb.1,(Bd ta sb.2).st,rfl,λ_=>Bd ta sb.2⟩
 |not a iha=>
  refine⟨λX p ok h=>?_,noA λrd N sc ps=>rfl,noI λrd N sc tg p=>rfl⟩
  obtain⟨l,pos,rfl,h1⟩:=Cd h
  obtain⟨a1,_,a3,_,_⟩:=iha.1 X l ok h1
  exact⟨(Bb a3 a1).sr,λ_=>Bb a3 a1,st_not a3,rfl,λz=>by cases z⟩
 |neg a iha=>
  refine⟨λX p ok h=>?_,noA λrd N sc ps=>rfl,noI λrd N sc tg p=>rfl⟩
  obtain⟨l,pos,rfl,h1⟩:=Cb h
  exact eD (se_neg (iha.1 X l ok h1).1) (λ_=>rfl) rfl
 |ife c a b ihc iha ihb=>
  refine⟨λX p ok h=>?_,noA λrd N sc ps=>rfl,noI λrd N sc tg p=>rfl⟩
  obtain⟨l,m,r,pos,rfl,ra,rb,h1,h2,h3⟩:=Ce h
  have se:=se_ife (pos:=pos) (ihc.1 X l ok h1).2.2.1 ((iha.1 X m ok h2).2.1 ra) ((ihb.1 X r ok h3).2.1 rb)
  exact⟨se.sr,λ_=>se,st_ife (ihc.1 X l ok h1).2.2.1 (iha.1 X m ok h2).2.2.1 (ihb.1 X r ok h3).2.2.1,rfl,λz=>by cases z⟩
 |ix a b iha ihb=>
  refine⟨λX p ok h=>?_,noA λrd N sc ps=>rfl,noI λrd N sc tg p=>rfl⟩
  obtain⟨l,r,pos,rfl,h1,h2⟩:=i_ix h
  have hb:=ihb.1 X r ok h2
  exact eD (se_ix ok.roomy hb.2.2.2.1 (iha.1 X l ok h1).1 hb.1) (λ_=>rfl) rfl
 |sl a lo hi iha ihl ihh=>
  refine⟨λX p ok h=>?_,noA λrd N sc ps=>rfl,noI λrd N sc tg p=>rfl⟩
  obtain⟨l,pl,ph,pos,pos',rfl,h1,h2,h3⟩:=i_sl h
  have part:∀{y:E} {q:Option Expr},PEx T cf Tx y->((q=none/\iB y=true)\/∃r,q=some r/\aJ y=false/\mE Tx y X.N X.env.scope r=true)->SO T cf X y q:=by
   intro y q ih hq
   rcases hq with⟨rfl,z⟩|⟨r,rfl,z1,z2⟩
   ·unfold iB at z
    split at z
    ·exact G5
    ·cases z
   ·exact G6 ((ih X r ok z2).2.1 z1)
  exact eD (se_sl (iha.1 X l ok h1).1 (part ihl.1 h2) (part ihh.1 h3)) (λ_=>rfl) rfl
 | «omit»=>exact⟨noE λN sc p=>rfl,noA λrd N sc ps=>rfl,noI λrd N sc tg p=>rfl⟩
 |tup a iha=>
  refine⟨λX p ok h=>?_,noA λrd N sc ps=>rfl,noI λrd N sc tg p=>rfl⟩
  obtain⟨es,k,pos,rfl,h1⟩:=Cf h
  exact eD (se_tup ((iha.2.1 X false es ok h1).2.1 rfl)) (λ_=>rfl) rfl
 |lst a iha=>
  refine⟨λX p ok h=>?_,noA λrd N sc ps=>rfl,noI λrd N sc tg p=>rfl⟩
  obtain⟨es,pos,rfl,h1⟩:=Cg h
  exact eD (se_lst ((iha.2.1 X false es ok h1).2.1 rfl)) (λ_=>rfl) rfl
 |anil=>
  refine⟨noE λN sc p=>rfl,λX rd ps ok h=>?_,noI λrd N sc tg p=>rfl⟩
  cases ps with
  |nil=>exact⟨G8,λ_=>sav_nil,rfl⟩
  |cons _ _=>exact nof h
 |acons a r iha ihr=>
  refine⟨noE λN sc p=>rfl,λX rd ps ok h=>?_,noI λrd N sc tg p=>rfl⟩
  cases ps with
  |nil=>exact nof h
  |cons p ps=>
   change (_&&_)=true at h;simp only[aF,fL,bU]at h
   obtain⟨a1,a2,_,a4,_⟩:=iha.1 X p ok h.1.2
   obtain⟨b1,b2,b3⟩:=ihr.2.1 X rd ps ok h.2
   refine⟨G9 a4 a1 b1,λz=>G7 a4 (a2 ?_) (b2 z),by rw[pA,a4,b3];rfl⟩
   rcases h.1.1 with q|q
   ·rw[z]at q;cases q
   ·exact q
 |call f a iha=>
  refine⟨λX p ok h=>?_,noA λrd N sc ps=>rfl,noI λrd N sc tg p=>rfl⟩
  obtain⟨n,pn,es,pos,rfl,hn⟩:=qP h
  simp only[aF,beq_iff_eq]at hn
  obtain⟨_,b2,b3⟩:=iha.2.1 X false es ok hn.2
  cases es with
  |nil=>
   cases a with
   |anil=>exact eD (Ge (ok.defs f n hn.1.1.1) (fA hn.1.1.2) (qQ hn.1.2)) (λ_=>rfl) rfl
   |_=>exact nof hn.2
  |cons e es=>exact eD (Gd (ok.defs f n hn.1.1.1) (fA hn.1.1.2) (qQ hn.1.2) b3 (b2 rfl)) (λ_=>rfl) rfl
 |srt a iha=>
  refine⟨λX p ok h=>?_,noA λrd N sc ps=>rfl,noI λrd N sc tg p=>rfl⟩
  obtain⟨n,pn,q,pos,rfl,hn⟩:=Ci h
  simp only[aF,beq_iff_eq]at hn
  obtain⟨⟨rfl,h2⟩,h3⟩:=hn
  obtain⟨a1,_,_,a4,_⟩:=iha.1 X q ok h3
  exact eD (se_srt ok.calm (ok.blt _ (by decide)) (fA h2) a4 a1) (λ_=>rfl) rfl
 |dck a iha=>
  refine⟨λX p ok h=>?_,noA λrd N sc ps=>rfl,noI λrd N sc tg p=>rfl⟩
  obtain⟨n,pn,q,pos,rfl,hn⟩:=Cj h
  simp only[aF,beq_iff_eq,bU]at hn
  obtain⟨⟨⟨rfl,h2⟩,h0⟩,h3⟩:=hn
  obtain⟨_,a2,_,a4,_⟩:=iha.1 X q ok h3
  exact eD (se_dck ok.calm ok.roomy (ok.blt _ (by decide)) (fA h2) a4 (a2 h0)) (λ_=>rfl) rfl
 |bt b a iha=>
  refine⟨λX p ok h=>?_,noA λrd N sc ps=>rfl,noI λrd N sc tg p=>rfl⟩
  obtain⟨n,pn,e,es,pos,rfl,hn⟩:=i_bt h
  simp only[aF,beq_iff_eq]at hn
  obtain⟨b1,_,b3⟩:=iha.2.1 X true (e::es) ok hn.2
  exact eD (se_bt hn.1.1.1 ok.calm hn.1.1.2 (ok.blt _ (by cases b<;>decide)) (fA hn.1.2) b3 b1) (λ_=>rfl) rfl
 |isi a t iha=>
  refine⟨λX p ok h=>?_,noA λrd N sc ps=>rfl,noI λrd N sc tg p=>rfl⟩
  obtain⟨n,pn,l,m,pm,pos,rfl,hn⟩:=Ck h
  simp only[aF,beq_iff_eq]at hn
  obtain⟨a1,_,_,a4,_⟩:=iha.1 X l ok hn.2
  exact eD (se_isi hn.1.1.1.1 hn.1.1.1.2 (ok.blt _ (by simp[kJ])) (ok.blt _ (by cases t<;>simp[kJ,Ty.nm])) (fA hn.1.1.2) (fA hn.1.2) a4 a1) (λ_=>rfl) rfl
 |comp own caps g elt src cond ihe ihs ihc=>
  refine⟨λX p ok h=>?_,noA λrd N sc ps=>rfl,noI λrd N sc tg p=>rfl⟩
  obtain⟨pe,tg,iter,ifs,scope,pos,rfl,a2,a3,a4,a5,a6,a7,a8,a9,a10,a11,a12⟩:=Cn h
  obtain⟨c1,c2,c3,c4,c5⟩:=Co ok ihe.1 ihs.2.2 ihc.1 a2 a3 a4 a5 a6 a8 a9 a10 a11 a12
  exact eD (Bv ok.calm c1 c2 a7 c3 c4 c5) (λ_=>rfl) rfl
 |seq a iha=>
  refine⟨noE λN sc p=>rfl,noA λrd N sc ps=>rfl,λX rd tg p ok h=>?_⟩
  change (_&&_)=true at h;simp only[aF,fL,bU]at h
  obtain⟨a1,a2,_,a4,_⟩:=iha.1 X p ok h.2
  refine⟨si_seq a1 λz=>a2 ?_,a4⟩
  rcases h.1 with q|q
  ·rw[z]at q;cases q
  ·exact q
 |rng a iha=>
  refine⟨noE λN sc p=>rfl,noA λrd N sc ps=>rfl,λX rd tg p ok h=>?_⟩
  obtain⟨n,pn,q,pos,rfl,hn⟩:=i_rng h
  simp only[aF,beq_iff_eq,bU]at hn
  obtain⟨_,a2,_,a4,_⟩:=iha.1 X q ok hn.2
  exact⟨si_rng hn.1.1.1 (fA hn.1.1.2) (ok.blt _ (by simp[kJ])) a4 (a2 hn.1.2),rfl⟩
 |rng2 a b iha ihb=>
  refine⟨noE λN sc p=>rfl,noA λrd N sc ps=>rfl,λX rd tg p ok h=>?_⟩
  obtain⟨n,pn,q,r,pos,rfl,hn⟩:=i_rng2 h
  simp only[aF,beq_iff_eq,bU]at hn
  obtain⟨_,a2,_,a4,_⟩:=iha.1 X q ok hn.1.2
  obtain⟨_,b2,_,b4,_⟩:=ihb.1 X r ok hn.2
  exact⟨Gr hn.1.1.1.1.1 (fA hn.1.1.1.1.2) (ok.blt _ (by simp[kJ])) a4 b4 (a2 hn.1.1.1.2) (b2 hn.1.1.2),rfl⟩
 |enum a iha=>
  refine⟨noE λN sc p=>rfl,noA λrd N sc ps=>rfl,λX rd tg p ok h=>?_⟩
  obtain⟨n,pn,q,pos,rfl,hn⟩:=i_enum h
  simp only[aF,beq_iff_eq,bU,fL]at hn
  obtain⟨a1,a2,_,a4,_⟩:=iha.1 X q ok hn.2
  cases tg with
  |Tuple es kk tpos=>
   refine⟨HV hn.1.1.1.1 (fA hn.1.1.1.2) (ok.blt _ (by simp[kJ])) a4 a1 λz=>a2 ?_,rfl⟩
   rcases hn.1.2 with q|q
   ·rw[z]at q;cases q
   ·exact q
  |_=>exact absurd hn.1.1.2 (by simp[vV])
end
noncomputable def kvB (G:Expr->Bool) (k:Keyword):Bool:=(k.arg==some "key")&&G k.value
noncomputable def qT(G:Str->Expr->Expr->Bool):Expr->Bool
 |.Call (.Name n _) [q] [k] _=>kvB (G n q) k
 |_=>false
theorem key_of {G:Str->Expr->Expr->Bool} {p:Expr} (h:qT G p=true):∃n pn q k kp cpos,p=.Call (.Name n pn) [q] [⟨some "key", k,kp⟩] cpos/\G n q k=true:=by
 unfold qT at h
 split at h
 ·rename_i n pn q k cpos
  obtain⟨a,v,kp⟩:=k
  unfold kvB at h
  rw[aF,beq_iff_eq]at h
  obtain⟨h1,h2⟩:=h
  have h1:a=some "key" := h1
  subst h1
  exact⟨n,pn,q,v,kp,cpos,rfl,h2⟩
 ·cases h
noncomputable def nmB(x:Str):Expr->Bool
 |.Name y _=>y==x
 |_=>false
theorem wB{x:Str}{p:Expr}(h:nmB x p=true):∃q,p=.Name x q:=by
 unfold nmB at h
 split at h
 ·rw[beq_iff_eq]at h;subst h;exact⟨_,rfl⟩
 ·cases h
noncomputable def lnB(x:Str):Expr->Bool
 |.Call f [q] [] _=>nmB "len" f&&nmB x q
 |_=>false
noncomputable def bdB(x:Str):Expr->Bool
 |.Tuple [c,q] _ _=>lnB x c&&nmB x q
 |_=>false
theorem bd_of{x:Str}{p:Expr}(h:bdB x p=true):∃p1 p2 p3 p4 p5 k,p=fT x p1 p2 p3 p4 p5 k:=by
 unfold bdB at h
 split at h
 ·rename_i c q k p5
  rw[aF]at h
  obtain⟨h1,h2⟩:=h
  obtain⟨p4,rfl⟩:=wB h2
  unfold lnB at h1
  split at h1
  ·rename_i f q2 p3
   rw[aF]at h1
   obtain⟨p1,rfl⟩:=wB h1.1
   obtain⟨p2,rfl⟩:=wB h1.2
   exact⟨p1,p2,p3,p4,p5,k,rfl⟩
  ·cases h1
 ·cases h
noncomputable def agB(a:Arguments)(G:Str->Bool):Bool:=a.posonlyargs.isEmpty&&a.vararg.isNone&&a.kwonlyargs.isEmpty&&a.kw_defaults.isEmpty&&a.kwarg.isNone&&a.defaults.isEmpty&&(match a.args with
 |[g]=>G g.arg
 |_=>false)
theorem ag_of{a:Arguments}{G:Str->Bool}(h:agB a G=true):∃x an ap,a=eZ x an ap/\G x=true:=by
 obtain⟨po,ar,va,ko,kd,kw,df⟩:=a
 unfold agB at h
 simp only[aF,List.isEmpty_iff,LP]at h
 obtain⟨⟨⟨⟨⟨⟨h1,h2⟩,h3⟩,h4⟩,h5⟩,h6⟩,h7⟩:=h
 subst h1 h2 h3 h4 h5 h6
 split at h7
 ·rename_i g
  obtain⟨x,an,ap⟩:=g
  exact⟨x,an,ap,rfl,h7⟩
 ·cases h7
noncomputable def lamB(l:Option Pos):Expr->Bool
 |.Lambda a b s p=>(l==some p)&&agB a λx=>eT x&&!(x == "len")&&(s==eS x)&&bdB x b
 |_=>false
theorem lam_of {l:Option Pos} {k:Expr} (h:lamB l k=true):∃y an ap p1 p2 p3 p4 p5 k0 lp,k=.Lambda (eZ y an ap) (fT y p1 p2 p3 p4 p5 k0) (eS y) lp/\l=some lp/\eT y=true/\y ≠ "len" := by
 unfold lamB at h
 split at h
 ·rename_i a b s p
  rw[aF,beq_iff_eq]at h
  obtain⟨x,an,ap,rfl,g⟩:=ag_of h.2
  simp only[aF,bU,beq_iff_eq,beq_eq_false_iff_ne]at g
  obtain⟨⟨⟨g1,g2⟩,rfl⟩,g4⟩:=g
  obtain⟨p1,p2,p3,p4,p5,k0,rfl⟩:=bd_of g4
  exact⟨x,an,ap,p1,p2,p3,p4,p5,k0,p,rfl,h.1,g1,g2⟩
 ·cases h
section
variable(Tx:Txt)
noncomputable def II:E->Bool
 |.call _ _=>true
 |_=>false
noncomputable def nV:S->Bool
 |.cons (.ite _ (.cons (.ret (.con _)) .nil) .nil) .nil=>true
 |_=>false
mutual
noncomputable def qB:S->List Stmt->Bool
 |.nil,[]=>true
 |.cons a r,p::ps=>qS a p&&qB r ps
 |_,_=>false
termination_by structural x=>x
noncomputable def qS:S->Stmt->Bool
 |.ret _,_=>true
 |.asg _ _,.Assign [_] p _=>dH p&&kI p
 |.ite _ a b,.If _ ps qs _=>qB a ps&&qB b qs
 |.exp _,_=>true
 |_,_=>false
termination_by structural x=>x
end
noncomputable def rdq:E->S->List Stmt->Bool
 |.seq (.rd _),b,ps=>qB b ps
 |_,_,_=>false
noncomputable def vR(G:Str->Expr->Str->Str->Expr->Bool):Expr->Bool
 |.Call (.Name n _) [p,.Name n1 _,.Name n2 _,q] [] _=>G n p n1 n2 q
 |_=>false
noncomputable def vO(neg:Bool)(G:Expr->Bool)(C:Expr->Bool):Expr->Bool
 |.UnaryOp .Not p _=>neg&&G p
 |.BoolOp .Or [c,p] _=>!neg&&G p&&C c
 |_=>false
noncomputable def mRf(neg:Bool)(c:E)(f:Nat)(x:E)(i j:Nat)(y:E)(N:List Str)(sc:Scope):Expr->Bool:=
 vO neg (vR λn p n1 n2 q=>Tx.dm.contains (f,n)&&glB sc n&&eT n&&dI N sc i n1&&dI N sc j n2&&!aJ x&&!aJ y&&mE Tx x N sc p&&mE Tx y N sc q) (mE Tx c N sc)
mutual
noncomputable def mB:S->List Str->Scope->List Stmt->Bool
 |.nil,_,_,[]=>true
 |.cons (.sealed _) r,N,sc,ps=>mB r N sc ps
 |.cons a r,N,sc,p::ps=>mS a N sc p&&mB r N sc ps
 |_,_,_,_=>false
termination_by structural x=>x
noncomputable def mS:S->List Str->Scope->Stmt->Bool
 |.ret x,N,sc,.Return (some p) _=>!aJ x&&mE Tx x N sc p
 |.retO i,N,sc,.Return (some (.Name n _)) _=>dI N sc i n
 |.asg g x,N,sc,.Assign [tg] p _=>!aJ x&&mG false N sc g tg&&mE Tx x N sc p&&((dH p&&kI p)||(match g,tg with | .one _,.Name _ _=>true|_,_=>false))
 |.asgO i x,N,sc,.Assign [.Name n pn] p _=>!aJ x&&mG false N sc (.one i) (.Name n pn)&&mE Tx x N sc p
 |.ite c a b,N,sc,.If p ps qs _=>mE Tx c N sc p&&mB a N sc ps&&mB b N sc qs
 |.forS g src b,N,sc,.For tg p ps [] _=>mI Tx src (nV b||rdq src b ps) N sc tg p&&mG false N sc g tg&&mB b N sc ps
 |.app i x,N,sc,p=>vM (λn nm apos cpos=>v1 λq=>dI N sc i n&&(nm == "append")&&(apos.endLine==cpos.line)&&!aJ x&&mE Tx x N sc q) p
 |.ext i x,N,sc,p=>vM (λn nm apos cpos=>v1 λq=>dI N sc i n&&(nm == "extend")&&(apos.endLine==cpos.line)&&!aJ x&&mE Tx x N sc q) p
 |.never,_,_,_=>true
 |.exp x,N,sc,.Expr p _=>II x&&mE Tx x N sc p
 |.newD i,N,sc,p=>vA (λtg v=>vN (λn pn=>vD v&&mG false N sc (.one i) (.Name n pn)) tg) p
 |.asgN i x,N,sc,.Assign [.Name n pn] p _=>dH p&&!aJ x&&mG false N sc (.one i) (.Name n pn)&&mE Tx x N sc p
 |.retK x,N,sc,.Return (some p) _=>qT (λn q k=>(n == "sorted")&&glB sc n&&bA q&&lamB Tx.lam k&&mE Tx x N sc q) p
 |.dputR i y x,N,sc,p=>vA (λtg v=>vX (λn q=>dI N sc i n&&dH v&&!aJ y&&mE Tx y N sc q&&!aJ x&&mE Tx x N sc v) tg) p
 |.extN i j,N,sc,p=>vM (λn nm apos cpos=>v1 λq=>vN (λm _=>dI N sc i n&&(nm == "extend")&&(apos.endLine==cpos.line)&&dI N sc j m) q) p
 |.retR x _ _,N,sc,.Return (some p) _=>!aJ x&&mE Tx x N sc p
 |.ifR neg c f x i j y a b,N,sc,.If p ps qs _=>mRf Tx neg c f x i j y N sc p&&mB a N sc ps&&mB b N sc qs
 |_,_,_,_=>false
termination_by structural x=>x
end
end
set_option genInjectivity false in
structure OkS(T:Tab)(cf:Nat->List D->Res D)(Tx:Txt)(X:Cx):Prop where
 ok:OkX T cf Tx X
 xe:X.xe=λ_ _=>False
 fn:∀n,X.fn n=true
 lam:∀p,Tx.lam=some p->qJ X p
section
variable{T:Tab}{cf:Nat->List D->Res D}{Tx:Txt}{X:Cx}
theorem OkS.pass(o:OkS T cf Tx X):PassesOwn (model X.prog X.w) X.A X.env X.xe:=by rw[o.xe];exact PassesOwn.never
noncomputable def PSx(T:Tab)(cf:Nat->List D->Res D)(Tx:Txt)(x:S):Prop:=∀X p,OkS T cf Tx X->mS Tx x X.N X.env.scope p=true->SS T cf X x p
noncomputable def PBx(T:Tab)(cf:Nat->List D->Res D)(Tx:Txt)(x:S):Prop:=∀X ps,OkS T cf Tx X->mB Tx x X.N X.env.scope ps=true->SB T cf X x ps
theorem noB{x:S}(h:∀N sc ps,mB Tx x N sc ps=false):PBx T cf Tx x:=λX ps _ m=>by rw[h]at m;cases m
theorem noS{x:S}(h:∀N sc p,mS Tx x N sc p=false):PSx T cf Tx x:=λX ps _ m=>by rw[h]at m;cases m
theorem vR_of{G:Str->Expr->Str->Str->Expr->Bool}{p:Expr}(h:vR G p=true):∃n pn q1 n1 p1 n2 p2 q2 pos,p=.Call (.Name n pn) [q1,.Name n1 p1,.Name n2 p2,q2] [] pos/\G n q1 n1 n2 q2=true:=by
 unfold vR at h
 split at h
 ·exact⟨_,_,_,_,_,_,_,_,_,rfl,h⟩
 ·cases h
theorem vO_of{neg:Bool}{G C:Expr->Bool}{p:Expr}(h:vO neg G C p=true):(∃q pos,p=.UnaryOp .Not q pos/\neg=true/\G q=true)\/∃c q pos,p=.BoolOp .Or [c,q] pos/\neg=false/\G q=true/\C c=true:=by
 unfold vO at h
 split at h
 ·rw[aF]at h;exact .inl ⟨_,_,rfl,h.1,h.2⟩
 ·rw[aF,aF,bU]at h;exact .inr ⟨_,_,_,rfl,h.1.1,h.1.2,h.2⟩
 ·cases h
theorem x_comp{x:E}{N:List Str}{sc:Scope}{p:Expr}(hp:dH p=false)(h:mE Tx x N sc p=true):∃own caps g elt src cond,x=.comp own caps g elt src cond:=by
 cases x with
 |comp own caps g elt src cond=>exact⟨_,_,_,_,_,_,rfl⟩
 |var i=>obtain⟨n,pos,rfl,_⟩:=vZ h;cases hp
 |rd i=>obtain⟨n,pos,rfl,_⟩:=i_rd h;cases hp
 |con d=>obtain⟨c,k,pos,rfl,_⟩:=C8 h;cases hp
 |glob d=>obtain⟨c,pos,rfl,_⟩:=C9 h;cases hp
 |bin o a b=>obtain⟨c,_,pos,rfl,_⟩:=C_ h;cases hp
 |cmp o a b=>obtain⟨c,_,pos,rfl,_⟩:=Ca h;cases hp
 |and a b=>obtain⟨c,_,_,pos,rfl,_⟩:=Cc h;cases hp
 |or a b=>obtain⟨c,_,_,pos,rfl,_⟩:=i_or h;cases hp
 |not a=>obtain⟨c,pos,rfl,_⟩:=Cd h;cases hp
 |ife c a b=>obtain⟨c,_,_,pos,rfl,_⟩:=Ce h;cases hp
 |ix a b=>obtain⟨c,_,pos,rfl,_⟩:=i_ix h;cases hp
 |sl a b c=>obtain⟨c,_,_,_,pos,rfl,_⟩:=i_sl h;cases hp
 |tup a=>obtain⟨c,_,pos,rfl,_⟩:=Cf h;cases hp
 |lst a=>obtain⟨c,pos,rfl,_⟩:=Cg h;cases hp
 |call f a=>obtain⟨c,_,_,pos,rfl,_⟩:=qP h;cases hp
 |dck a=>obtain⟨c,_,_,pos,rfl,_⟩:=Cj h;cases hp
 |srt a=>obtain⟨c,_,_,pos,rfl,_⟩:=Ci h;cases hp
 |bt f a=>obtain⟨c,_,_,_,pos,rfl,_⟩:=i_bt h;cases hp
 |isi a t=>obtain⟨c,_,_,_,_,pos,rfl,_⟩:=Ck h;cases hp
 |neg a=>obtain⟨c,pos,rfl,_⟩:=Cb h;cases hp
 |_=>exact nof h
theorem i_newD{i:Nat}{N:List Str}{sc:Scope}{p:Stmt}(h:mS Tx (.newD i) N sc p=true):∃n pn dpos pos,p=.Assign [.Name n pn] (.Dict [] [] dpos) pos/\mG false N sc (.one i) (.Name n pn)=true:=by
 obtain⟨tg,v,pos,rfl,g1⟩:=C7 h
 obtain⟨n,pn,rfl,g2⟩:=vY g1
 obtain⟨h1,h2⟩:=bB g2
 obtain⟨dpos,rfl⟩:=vD_of h1
 exact⟨n,pn,dpos,pos,rfl,h2⟩
theorem i_asgN{i:Nat}{x:E}{N:List Str}{sc:Scope}{p:Stmt}(h:mS Tx (.asgN i x) N sc p=true):∃n pn v pos,p=.Assign [.Name n pn] v pos/\(dH v&&!aJ x&&mG false N sc (.one i) (.Name n pn)&&mE Tx x N sc v)=true:=by
 cases p with
 |Assign tgs v pos=>
  rcases tgs with _|⟨tg,_|⟨t2,tgs⟩⟩
  ·exact nof h
  ·cases tg with
   |Name n pn=>exact⟨n,pn,v,pos,rfl,h⟩
   |_=>exact nof h
  ·cases tg<;>exact nof h
 |_=>exact nof h
theorem i_retK {x:E} {N:List Str} {sc:Scope} {p:Stmt} (h:mS Tx (.retK x) N sc p=true):∃n pn q y an ap p1 p2 p3 p4 p5 k0 lp kp cpos pos,p=.Return (some (.Call (.Name n pn) [q] [⟨some "key", .Lambda (eZ y an ap) (fT y p1 p2 p3 p4 p5 k0) (eS y) lp,kp⟩] cpos)) pos/\n = "sorted" /\ glB sc n=true/\bA q=true/\Tx.lam=some lp/\eT y=true/\y ≠ "len" /\ mE Tx x N sc q=true:=by
 cases p with
 |Return v pos=>cases v with
  |none=>exact nof h
  |some v=>
   obtain⟨n,pn,q,k,kp,cpos,rfl,hn⟩:=key_of (show qT _ v=true from h)
   simp only[aF,beq_iff_eq]at hn
   obtain⟨⟨⟨⟨h1,h2⟩,h3⟩,h4⟩,h5⟩:=hn
   obtain⟨y,an,ap,p1,p2,p3,p4,p5,k0,lp,rfl,g1,g2,g3⟩:=lam_of h4
   exact⟨n,pn,q,y,an,ap,p1,p2,p3,p4,p5,k0,lp,kp,cpos,pos,rfl,h1,h2,h3,g1,g2,g3,h5⟩
 |_=>exact nof h
theorem nW{i:Nat}{n:Str}{pos:Pos}(o:OkS T cf Tx X)(h:mG false X.N X.env.scope (.one i) (.Name n pos)=true):X.N[i]?=some n/\Loc X.env.scope n/\(X.fn n=true\/X.env.scope.names.lookup n=some .local):=by
 change (_&&(_||_))=true at h
 simp only[aF,fL,beq_iff_eq,bU,LM,true_and]at h
 exact⟨h.1,h.2,.inl (o.fn n)⟩
theorem Cp{i:Nat}{n:Str}{pos pos':Pos}{x:E}{p:Expr}(b:Bool)(o:OkS T cf Tx X)(hp:dH p=false)(h1:mG false X.N X.env.scope (.one i) (.Name n pos)=true)(h2:mE Tx x X.N X.env.scope p=true):SS T cf X (if b then .asgO i x else .asg (.one i) x) (.Assign [.Name n pos] p pos'):=by
 obtain⟨own,caps,g,elt,src,cond,rfl⟩:=x_comp hp h2
 obtain⟨pe,tg,iter,ifs,scope,pos2,rfl,a2,a3,a4,a5,a6,a7,a8,a9,a10,a11,a12⟩:=Cn h2
 obtain⟨c1,c2,c3,c4,c5⟩:=Co o.ok (bZ elt).1 (bZ src).2.2 (bZ cond).1 a2 a3 a4 a5 a6 a8 a9 a10 a11 a12
 obtain⟨n1,n2,n3⟩:=nW o h1
 exact HQ o.ok.nd n1 n2 n3 o.ok.calm c1 c2 a7 c3 c4 b c5
theorem i_app {i:Nat} {x:E} {N:List Str} {sc:Scope} {p:Stmt} (h:mS Tx (.app i x) N sc p=true):∃n px nm apos q cpos pos,p=.Expr (.Call (.Attribute (.Name n px) nm apos) [q] [] cpos) pos/\(dI N sc i n&&(nm == "append")&&(apos.endLine==cpos.line)&&!aJ x&&mE Tx x N sc q)=true:=by
 obtain⟨n,px,nm,apos,es,cpos,pos,rfl,g1⟩:=vW h
 obtain⟨q,rfl,g2⟩:=jQ g1
 exact⟨n,px,nm,apos,q,cpos,pos,rfl,g2⟩
theorem i_ext {i:Nat} {x:E} {N:List Str} {sc:Scope} {p:Stmt} (h:mS Tx (.ext i x) N sc p=true):∃n px nm apos q cpos pos,p=.Expr (.Call (.Attribute (.Name n px) nm apos) [q] [] cpos) pos/\(dI N sc i n&&(nm == "extend")&&(apos.endLine==cpos.line)&&!aJ x&&mE Tx x N sc q)=true:=by
 obtain⟨n,px,nm,apos,es,cpos,pos,rfl,g1⟩:=vW h
 obtain⟨q,rfl,g2⟩:=jQ g1
 exact⟨n,px,nm,apos,q,cpos,pos,rfl,g2⟩
theorem IJ{i:Nat}{n:Str}{x:E}{p:Expr}{pos pos':Pos}(hx:dH p=true)(hN:X.N.Nodup)(hi:X.N[i]?=some n)(hl:Loc X.env.scope n)(hf:X.fn n=true\/X.env.scope.names.lookup n=some .local)(h:SE T cf X x p):SS T cf X (.asg (.one i) x) (.Assign [.Name n pos'] p pos):=λH₀ O₀=>by
 refine PS.imp (λD' σ H hq=>?_) (kZ hN hi hl (h H₀ O₀) (jO hx) hf)
 obtain⟨ts,e,out,⟨O,own,F,tt⟩,ev,k⟩:=hq
 rw[nC]at ev
 obtain⟨d,e1,ev⟩:=Res.bind_ok ev
 obtain⟨e2,e3,ev⟩:=Res.bind_ok ev
 cases ev
 cases e3
 exact⟨O,own,e,d,F,e1,λv H' s' r n=>k _ H' ⟨O,_,(F.grow s').setV i r,λt ht=>(tt t ht).same s'⟩⟩
theorem IK{b:S}(h:nV b=true):∃c d0,b=.cons (.ite c (.cons (.ret (.con d0)) .nil) .nil) .nil:=by
 unfold nV at h
 split at h
 ·exact⟨_,_,rfl⟩
 ·exact nof h
theorem IL{c:E}{d0:D}{N:List Str}{sc:Scope}{ps:List Stmt}(h:mB Tx (.cons (.ite c (.cons (.ret (.con d0)) .nil) .nil) .nil) N sc ps=true) :
 ∃pc pr pos1 pos2,ps=[.If pc [.Return (some pr) pos1] [] pos2]/\mE Tx c N sc pc=true/\mE Tx (.con d0) N sc pr=true:=by
 cases ps with
 |nil=>exact nof h
 |cons p ps=>
  obtain⟨h1,h2⟩:=bB (show(mS Tx (.ite c (.cons (.ret (.con d0)) .nil) .nil) N sc p&&mB Tx .nil N sc ps)=true from h)
  cases ps with
  |cons _ _=>exact nof h2
  |nil=>
   cases p with
   |If pc qs rs pos2=>
    obtain⟨h3,h4⟩:=bB (show(mE Tx c N sc pc&&mB Tx (.cons (.ret (.con d0)) .nil) N sc qs&&mB Tx .nil N sc rs)=true from h1)
    obtain⟨h5,h6⟩:=bB h3
    cases rs with
    |cons _ _=>exact nof h4
    |nil=>
     cases qs with
     |nil=>exact nof h6
     |cons q qs=>
      obtain⟨h7,h8⟩:=bB (show(mS Tx (.ret (.con d0)) N sc q&&mB Tx .nil N sc qs)=true from h6)
      cases qs with
      |cons _ _=>exact nof h8
      |nil=>
       cases q with
       |Return o pos1=>
        cases o with
        |none=>exact nof h7
        |some pr=>
         obtain⟨_,h9⟩:=bB (show(!aJ (.con d0)&&mE Tx (.con d0) N sc pr)=true from h7)
         exact⟨pc,pr,pos1,pos2,rfl,h5,h9⟩
       |_=>exact nof h7
   |_=>exact nof h1
theorem rdq_of{src:E}{b:S}{ps:List Stmt}(h:rdq src b ps=true):qB b ps=true:=by
 cases src with
 |seq a=>cases a<;>first|exact h|exact nof h
 |_=>exact nof h
noncomputable def PSq(T:Tab)(cf:Nat->List D->Res D)(Tx:Txt)(x:S):Prop:=∀X p,OkS T cf Tx X->mS Tx x X.N X.env.scope p=true->qS x p=true->SQ T cf X x p
noncomputable def PBq(T:Tab)(cf:Nat->List D->Res D)(Tx:Txt)(x:S):Prop:=∀X ps,OkS T cf Tx X->mB Tx x X.N X.env.scope ps=true->qB x ps=true->SQb T cf X x ps
theorem nX{x:S}(h:∀ps,qB x ps=false):PBq T cf Tx x:=λX ps _ _ m=>by rw[h]at m;cases m
theorem noSq{x:S}(h:∀p,qS x p=false):PSq T cf Tx x:=λX ps _ _ m=>by rw[h]at m;cases m
theorem wholeQ(x:S):PSq T cf Tx x/\PBq T cf Tx x:=by
 induction x with
 |nil=>
  refine⟨noSq λp=>rfl,λX ps o h hq=>?_⟩
  cases ps with
  |nil=>exact sq_nil
  |cons _ _=>exact nof hq
 |cons a r iha ihr=>
  refine⟨noSq λp=>rfl,λX ps o h hq=>?_⟩
  cases ps with
  |nil=>cases a<;>exact nof hq
  |cons p ps=>
   have hq2:(qS a p&&qB r ps)=true:=hq
   rw[aF]at hq2
   have hm:(mS Tx a X.N X.env.scope p&&mB Tx r X.N X.env.scope ps)=true:=by
    cases a<;>first|exact h|exact nof hq2.1
   rw[aF]at hm
   exact HG (iha.1 X p o hm.1 hq2.1) (ihr.2 X ps o hm.2 hq2.2)
 |ret x=>
  refine⟨λX p o h hq=>?_,nX λps=>rfl⟩
  cases p with
  |Return v pos=>cases v with
   |none=>exact nof h
   |some p=>
    change (_&&_)=true at h;simp only[aF,bU]at h
    exact sq_ret (((bZ x).1 X p o.ok h.2).2.1 h.1)
  |_=>exact nof h
 |asg g x=>
  refine⟨λX p o h hq=>?_,nX λps=>rfl⟩
  cases p with
  |Assign tgs p pos=>
   rcases tgs with _|⟨tg,_|⟨t2,tgs⟩⟩
   ·exact nof hq
   ·have hq2:(dH p&&kI p)=true:=hq
    rw[aF]at hq2
    change (_&&_)=true at h;simp only[aF,bU]at h
    obtain⟨⟨⟨h1,h2⟩,h3⟩,h4⟩:=h
    obtain⟨g1,g2⟩:=qR o.ok.calm o.ok.nd (λn _=>o.fn n) h2
    exact sq_asg hq2.1 hq2.2 g2 (((bZ x).1 X p o.ok h3).2.1 h1) g1
   ·exact nof hq
  |_=>exact nof hq
 |ite c a b iha ihb=>
  refine⟨λX p o h hq=>?_,nX λps=>rfl⟩
  cases p with
  |If p ps qs pos=>
   have hq2:(qB a ps&&qB b qs)=true:=hq
   rw[aF]at hq2
   change (_&&_)=true at h;simp only[aF]at h
   exact sq_ite ((bZ c).1 X p o.ok h.1.1).2.2.1 (iha.2 X ps o h.1.2 hq2.1) (ihb.2 X qs o h.2 hq2.2)
  |_=>exact nof hq
 |exp x=>
  refine⟨λX p o h hq=>?_,nX λps=>rfl⟩
  cases p with
  |Expr q pos=>
   change (_&&_)=true at h;simp only[aF]at h
   cases x with
   |call f a=>
    have b:=((bZ (.call f a)).1 X q o.ok h.2).2.1 rfl
    obtain⟨c,_,_,pos2,rfl,_⟩:=qP h.2
    exact sq_exp rfl b
   |_=>exact nof h.1
  |_=>exact nof h
 |_=>exact⟨noSq λp=>rfl,nX λps=>rfl⟩
theorem Cq:∀x:S,PSx T cf Tx x/\PBx T cf Tx x:=by
 intro x
 induction x with
 |nil=>
  refine⟨noS λN sc p=>rfl,λX ps o h=>?_⟩
  cases ps with
  |nil=>exact sb_nil
  |cons _ _=>exact nof h
 |cons a r iha ihr=>
  refine⟨noS λN sc p=>rfl,λX ps o h=>?_⟩
  by_cases hs:∃i,a=.sealed i
  ·obtain⟨i,rfl⟩:=hs
   exact HA (ihr.2 X ps o h)
  ·cases ps with
   |nil=>
    exfalso
    cases a<;>first|(exact hs ⟨_,rfl⟩)|exact nof h
   |cons p ps=>
    have h':(mS Tx a X.N X.env.scope p&&mB Tx r X.N X.env.scope ps)=true:=by
     cases a<;>first|(exact absurd ⟨_,rfl⟩ hs)|exact h
    rw[aF]at h'
    exact Gz (iha.1 X p o h'.1) (ihr.2 X ps o h'.2)
 |ret x=>
  refine⟨λX p o h=>?_,noB λN sc ps=>rfl⟩
  cases p with
  |Return v pos=>cases v with
   |some p=>
    change (_&&_)=true at h;simp only[aF,bU]at h
    exact ss_ret (((bZ x).1 X p o.ok h.2).2.1 h.1)
   |none=>exact nof h
  |_=>exact nof h
 |retO i=>
  refine⟨λX p o h=>?_,noB λN sc ps=>rfl⟩
  cases p with
  |Return v pos=>cases v with
   |some p=>cases p with
    |Name n pn=>
     obtain⟨a1,a2,a3,a4⟩:=gM h
     exact HB a1 a2 a3 a4
    |_=>exact nof h
   |none=>exact nof h
  |_=>exact nof h
 |asg g x=>
  refine⟨λX p o h=>?_,noB λN sc ps=>rfl⟩
  cases p with
  |Assign tgs p pos=>
   rcases tgs with _|⟨tg,_|⟨t2,tgs⟩⟩
   ·exact nof h
   ·change (_&&_)=true at h;simp only[aF,bU,fL]at h
    obtain⟨⟨⟨h1,h2⟩,h3⟩,h4⟩:=h
    obtain⟨g1,g2⟩:=qR o.ok.calm o.ok.nd (λn _=>o.fn n) h2
    by_cases hc:dH p=true
    ·by_cases ht:kI p=true
     ·exact ss_asg hc ht g2 (((bZ x).1 X p o.ok h3).2.1 h1) g1
     ·rcases h4 with z|z
      ·exact absurd z.2 ht
      ·cases g with
       |one i=>cases tg with
        |Name n pn=>
         obtain⟨n1,n2,n3⟩:=nW o h2
         exact IJ hc o.ok.nd n1 n2 n3 (((bZ x).1 X p o.ok h3).2.1 h1)
        |_=>cases z
       |many _=>cases z
    ·have hc':dH p=false:=by simpa using hc
     rcases h4 with z|z
     ·exact absurd z.1 hc
     ·cases g with
      |one i=>cases tg with
       |Name n pn=>exact Cp false o hc' h2 h3
       |_=>cases z
      |many _=>cases z
   ·exact nof h
  |_=>exact nof h
 |asgO i x=>
  refine⟨λX p o h=>?_,noB λN sc ps=>rfl⟩
  cases p with
  |Assign tgs p pos=>
   rcases tgs with _|⟨tg,_|⟨t2,tgs⟩⟩
   ·exact nof h
   ·cases tg with
    |Name n pn=>
     change (_&&_)=true at h;simp only[aF,bU]at h
     obtain⟨⟨h1,h2⟩,h3⟩:=h
     by_cases hc:dH p=true
     ·obtain⟨n1,n2,n3⟩:=nW o h2
      exact HC hc o.ok.nd n1 n2 n3 (((bZ x).1 X p o.ok h3).2.1 h1)
     ·exact Cp true o (by simpa using hc) h2 h3
    |_=>exact nof h
   ·cases tg<;>exact nof h
  |_=>exact nof h
 | «sealed» i=>exact⟨noS λN sc p=>rfl,noB λN sc ps=>rfl⟩
 |ite c a b iha ihb=>
  refine⟨λX p o h=>?_,noB λN sc ps=>rfl⟩
  cases p with
  |If p ps qs pos=>
   change (_&&_)=true at h;simp only[aF]at h
   exact ss_ite ((bZ c).1 X p o.ok h.1.1).2.2.1 (iha.2 X ps o h.1.2) (ihb.2 X qs o h.2)
  |_=>exact nof h
 |forS g src b ihb=>
  refine⟨λX p o h=>?_,noB λN sc ps=>rfl⟩
  cases p with
  |For tg p ps qs pos=>cases qs with
   |nil=>
    change (_&&_)=true at h;simp only[aF]at h
    have hg:=(qR o.ok.calm o.ok.nd (λn _=>o.fn n) h.1.2).1
    by_cases hl:nV b=true
    ·obtain⟨c,d0,rfl⟩:=IK hl
     rw[hl,Bool.true_or]at h
     obtain⟨s1,s2⟩:=(bZ src).2.2 X true tg p o.ok h.1.1
     obtain⟨pc,pr,pos1,pos2,rfl,h1,h2⟩:=IL h.2
     exact HF o.pass o.ok.calm s2 s1 hg ((bZ c).1 X pc o.ok h1).2.2.1 (((bZ (.con d0)).1 X pr o.ok h2).2.1 rfl)
    ·have hl:nV b=false:=by simpa using hl
     rw[hl,oV]at h
     by_cases hr:rdq src b ps=true
     ·rw[hr]at h
      obtain⟨s1,s2⟩:=(bZ src).2.2 X true tg p o.ok h.1.1
      exact HH o.pass o.ok.calm s2 s1 hg ((wholeQ b).2 X ps o h.2 (rdq_of hr))
     ·have hr:rdq src b ps=false:=by simpa using hr
      rw[hr]at h
      obtain⟨s1,s2⟩:=(bZ src).2.2 X false tg p o.ok h.1.1
      exact ss_for o.pass o.ok.calm s2 s1 hg (ihb.2 X ps o h.2)
   |cons _ _=>exact nof h
  |_=>exact nof h
 |app i x=>
  refine⟨λX p o h=>?_,noB λN sc ps=>rfl⟩
  obtain⟨n,px,nm,apos,q,cpos,pos,rfl,hn⟩:=i_app h
  simp only[aF,beq_iff_eq,bU]at hn
  obtain⟨a1,a2,a3,a4⟩:=gM hn.1.1.1.1
  obtain⟨_,b2,_,b4,_⟩:=(bZ x).1 X q o.ok hn.2
  exact ss_app a1 a2 a3 a4 hn.1.1.1.2 (by simpa using hn.1.1.2) b4 (b2 hn.1.2)
 |ext i x=>
  refine⟨λX p o h=>?_,noB λN sc ps=>rfl⟩
  obtain⟨n,px,nm,apos,q,cpos,pos,rfl,hn⟩:=i_ext h
  simp only[aF,beq_iff_eq,bU]at hn
  obtain⟨a1,a2,a3,a4⟩:=gM hn.1.1.1.1
  obtain⟨_,b2,_,b4,_⟩:=(bZ x).1 X q o.ok hn.2
  exact ss_ext a1 a2 a3 a4 hn.1.1.1.2 (by simpa using hn.1.1.2) b4 (b2 hn.1.2)
 |never=>
  exact⟨λX p o h=>HE,noB λN sc ps=>rfl⟩
 |exp x=>
  refine⟨λX p o h=>?_,noB λN sc ps=>rfl⟩
  cases p with
  |Expr q pos=>
   change (_&&_)=true at h;simp only[aF]at h
   cases x with
   |call f a=>
    have b:=((bZ (.call f a)).1 X q o.ok h.2).2.1 rfl
    obtain⟨c,_,_,pos2,rfl,_⟩:=qP h.2
    exact ss_exp rfl b
   |_=>exact nof h.1
  |_=>exact nof h
 |newD i=>
  refine⟨λX p o h=>?_,noB λN sc ps=>rfl⟩
  obtain⟨n,pn,dpos,pos,rfl,hn⟩:=i_newD h
  obtain⟨n1,n2,n3⟩:=nW o hn
  exact HD o.ok.nd n1 n2 n3
 |dputR i y x=>
  refine⟨λX p o h=>?_,noB λN sc ps=>rfl⟩
  obtain⟨tg,v,pos,rfl,g1⟩:=C7 h
  obtain⟨n,px,q,tpos,rfl,hn⟩:=vX_of g1
  simp only[aF,bU]at hn
  obtain⟨⟨⟨⟨⟨h1,h2⟩,h3⟩,h4⟩,h5⟩,h6⟩:=hn
  obtain⟨a1,a2,a3,a4⟩:=gM h1
  exact IA o.ok.roomy a1 a2 a3 a4 h2 (((bZ y).1 X q o.ok h4).2.1 h3) (((bZ x).1 X v o.ok h6).2.1 h5)
 |extN i j=>
  refine⟨λX p o h=>?_,noB λN sc ps=>rfl⟩
  obtain⟨n,px,nm,apos,es,cpos,pos,rfl,g1⟩:=vW h
  obtain⟨q,rfl,g2⟩:=jQ g1
  obtain⟨m,pm,rfl,hn⟩:=vY g2
  simp only[aF,beq_iff_eq]at hn
  obtain⟨⟨⟨h1,h2⟩,h3⟩,h4⟩:=hn
  obtain⟨a1,a2,a3,a4⟩:=gM h1
  exact IC a1 a2 a3 a4 h2 (by rw[beq_iff_eq];exact h3) (gM h4)
 |retR x i j=>
  refine⟨λX p o h=>?_,noB λN sc ps=>rfl⟩
  cases p with
  |Return v pos=>cases v with
   |some p=>
    change (_&&_)=true at h;simp only[aF,bU]at h
    exact IB (((bZ x).1 X p o.ok h.2).2.1 h.1)
   |none=>exact nof h
  |_=>exact nof h
 |ifR neg c f x i j y a b iha ihb=>
  refine⟨λX p o h=>?_,noB λN sc ps=>rfl⟩
  cases p with
  |If p ps qs pos=>
   change (_&&_&&_)=true at h
   rw[aF,aF]at h
   have sa:=iha.2 X ps o h.1.2
   have sb:=ihb.2 X qs o h.2
   have go:∀p,vR (λn p n1 n2 q=>Tx.dm.contains (f,n)&&glB X.env.scope n&&eT n&&dI X.N X.env.scope i n1&&dI X.N X.env.scope j n2&&!aJ x&&!aJ y&&mE Tx x X.N X.env.scope p&&mE Tx y X.N X.env.scope q) p=true->∃n pn q1 n1 p1 n2 p2 q2 pos,p=.Call (.Name n pn) [q1,.Name n1 p1,.Name n2 p2,q2] [] pos/\lJ T cf X f n/\Gl X n/\(n==("__debug__" : Str))=false/\bA q1=true/\bA q2=true /\
    (X.N[i]?=some n1/\Vis X.env.scope n1/\(n1==("__debug__" : Str))=false/\(n1==("__classdict__" : Str))=false)/\(X.N[j]?=some n2/\Vis X.env.scope n2/\(n2==("__debug__" : Str))=false/\(n2==("__classdict__" : Str))=false)/\SE T cf X x q1/\SE T cf X y q2:=by
    intro p hp
    obtain⟨n,pn,q1,n1,p1,n2,p2,q2,pos,rfl,hn⟩:=vR_of hp
    simp only[aF,bU]at hn
    obtain⟨⟨⟨⟨⟨⟨⟨⟨h1,h2⟩,h3⟩,h4⟩,h5⟩,h6⟩,h7⟩,h8⟩,h9⟩:=hn
    obtain⟨_,x2,_,x4,_⟩:=(bZ x).1 X q1 o.ok h8
    obtain⟨_,y2,_,y4,_⟩:=(bZ y).1 X q2 o.ok h9
    exact⟨n,pn,q1,n1,p1,n2,p2,q2,pos,rfl,o.ok.dm (f,n) (LO.mp h1),fA h2,qQ h3,x4,y4,gM h4,gM h5,x2 h6,y2 h7⟩
   rcases vO_of h.1.1 with⟨p',pos',rfl,rfl,g⟩|⟨c',p',pos',rfl,rfl,g,gc⟩
   ·obtain⟨n,pn,q1,n1,p1,n2,p2,q2,pos2,rfl,d1,d2,d3,d4,d5,d6,d7,d8,d9⟩:=go p' g
    exact ss_ifN d1 d2 d3 d4 d5 d6 d7 d8 d9 sa sb
   ·obtain⟨n,pn,q1,n1,p1,n2,p2,q2,pos2,rfl,d1,d2,d3,d4,d5,d6,d7,d8,d9⟩:=go p' g
    exact ss_ifC d1 d2 d3 d4 d5 d6 d7 ((bZ c).1 X c' o.ok gc).2.2.1 d8 d9 sa sb
  |_=>exact nof h
 |asgN i x=>
  refine⟨λX p o h=>?_,noB λN sc ps=>rfl⟩
  obtain⟨n,pn,v,pos,rfl,hn⟩:=i_asgN h
  simp only[aF,bU]at hn
  obtain⟨n1,n2,n3⟩:=nW o hn.1.2
  cases hv:CQ x with
  |none=>exact Hs hn.1.1.1 o.ok.nd n1 n2 n3 hv (((bZ x).1 X v o.ok hn.2).2.1 hn.1.1.2)
  |some j=>
   cases x with
   |var j=>
    obtain⟨m,pm,rfl,hm⟩:=vZ hn.2
    obtain⟨a1,a2,a3,a4⟩:=gM hm
    exact Ht o.ok.nd n1 n2 n3 a1 a2 a3 a4
   |_=>cases hv
 |retK x=>
  refine⟨λX p o h=>?_,noB λN sc ps=>rfl⟩
  obtain⟨n,pn,q,y,an,ap,p1,p2,p3,p4,p5,k0,lp,kp,cpos,pos,rfl,rfl,g1,g2,g3,g4,g5,g6⟩:=i_retK h
  simp only[eT,aF,bU]at g4
  exact Hq (o.lam lp g3) g5 g4.1 g4.2 (o.ok.blt "len" (by decide)) (o.ok.blt "sorted" (by decide)) (fA g1) g2 ((bZ x).1 X q o.ok g6).1
end
end Tr
namespace Tr
open PySem PySem.Spec PyProof.Rows L2 PySem.W
section
variable{T:Tab}{cf:Nat->List D->Res D}{Tx:Txt}
end
end Tr
namespace Tr
open PySem PySem.Spec PyProof.Rows L2
set_option genInjectivity false in
structure DefT where
 nm:Str
 st:Stmt
 N:List Str
 ps:List Str
 body:S
 told:Option Told:=none
noncomputable def DefT.df(t:DefT):Df:=⟨t.N.length,t.ps.length,t.body,t.told⟩
noncomputable def wC(N P:List Str)(sc:Scope):Bool:=(sc.kind==.function)&&!sc.isCoroutine&&!sc.isGenerator&&gL N&&(N.take P.length==P)&&P.all (λx=>(sc.names.lookup x==some .local)||(sc.names.lookup x==some .cell))&&sc.names.all (λy=>!(y.2==.free))
theorem IM{N P:List Str}{sc:Scope}(h:wC N P sc=true):FnScope N P sc:=by
 simp only[wC,aF,gE,fL,bU,beq_iff_eq,beq_eq_false_iff_ne,ne_eq]at h
 obtain⟨⟨⟨⟨⟨⟨h1,h2⟩,h3⟩,h4⟩,h5⟩,h6⟩,h7⟩:=h
 exact⟨h1,h2,h3,qN h4,h5,h6,h7⟩
noncomputable def DefT.okB(Tx:Txt)(t:DefT):Bool:=wC t.N t.ps (dE t.st)&&(t.told.isSome||mB (Tx.at t.st) t.body t.N (dE t.st) (eQ t.st))
noncomputable def Cr(K:PySem.W.Frag)(mg:Str->Option Value)(n:Str)(d:D):Prop:=∃v u,mg n=some u/\RelV v u/\∀H O,RD K H O d v
noncomputable def IniK(K:PySem.W.Frag)(mg:Str->Option Value)(c:Str):Prop:=False
noncomputable def qU(K:PySem.W.Frag)(v:Value):Bool:=match v with
 |.ref c=>match pR K (.ref c)with
  |some P=>PySem.W.codeHdIn K c P
  |none=>false
 |_=>false
theorem IP{K:PySem.W.Frag}{v:Value}(h:qU K v=true):∃c P,v=.ref c/\pR K v=some P/\PySem.W.codeHdIn K c P=true:=by
 unfold qU at h
 split at h
 ·rename_i c
  split at h
  ·rename_i P hP
   exact⟨c,P,rfl,hP,h⟩
  ·cases h
 ·cases h
noncomputable def lamOkB(K:PySem.W.Frag)(fd:FuncData):Bool:=(lH (BJ fd.body)).isNone||qU K fd.code
noncomputable def Cs(K:PySem.W.Frag):Bool:=K.all λq=>match q.2.data with
 |.func fd=>lamOkB K fd
 |_=>true
structure TextOk0(K:PySem.W.Frag)(mg:Str->Option Value)(T:Tab)(Tx:Txt)(defs:List DefT):Prop where
 dn:∀g nm,Tx.dn[g]?=some nm->T.mv g=none/\∃t,defs[g]?=some t/\nm=t.nm
 ok:defs.all (·.okB Tx)=true
 funs:∀t∈defs,∃f fd,Fun K t.nm t.nm t.st f fd/\mg t.nm=some (.ref f)/\Binds K fd t.ps []
 globs:∀g n,Tx.gn[g]?=some n->Cr K mg n (T.glob g)
 blt:∀n∈kJ,mg n=none
 tf:∀q∈Tx.tf,∃(a:Addr)(xs:List V),mg q.1=some (.ref a)/\(∀H,SqT K H a xs)/\xs.length=q.2.length/\∀(j f:Nat),q.2[j]?=some f->∃(ad:Addr)(t:DefT),xs[j]?=some (V.ref ad)/\mg t.nm=some (.ref ad)/\defs[f]?=some t
 ts:∀q∈Tx.ts,∃a:Addr,mg q.1=some (.ref a)/\ModS K a q.2
 cls:∀c∈Tx.cls,∃C,ClsIs K mg c C
 ini:∀c∈Tx.icl,IniK K mg c
 dm:∀q∈Tx.dm,∃t,defs[q.1]?=some t/\q.2=t.nm
 tmv:∀q∈Tx.tf,∀f∈q.2,T.mv f=none
 lam:Cs K=true
 nolam:Tx.lam=none:=by rfl
noncomputable def ToldOk(K:PySem.W.Frag)(mg:Str->Option Value)(T:Tab)(defs:List DefT)(t:DefT):Prop:=∀(P:Program)(w:World)(base:Heap)(n i:Nat)(f:Addr)(fd:FuncData),defs[i]?=some t->Fun K t.nm t.nm t.st f fd ->
 (∀i t,defs[i]?=some t->∀f fd,Fun K t.nm t.nm t.st f fd->FnOk P w K mg base (CXE P w) (n+2) f fd t.ps (gK K T (aB T (defs.map DefT.df) n i) i)) ->
 FnOk P w K mg base (CXE P w) (n+1+2) f fd t.ps (spD K (aB T (defs.map DefT.df) (n+1) i) (T.fresh i))
set_option genInjectivity false in
structure TextOk(K:PySem.W.Frag)(mg:Str->Option Value)(T:Tab)(Tx:Txt)(defs:List DefT):Prop extends TextOk0 K mg T Tx defs where
 told:∀t∈defs,∀td,t.told=some td->ToldOk K mg T defs t
 nmv:∀i t,defs[i]?=some t->t.told.isSome=true->T.mv i=none
theorem dn_of{T:Tab}{Tx:Txt}{defs:List DefT}(h1:(defs.take Tx.dn.length).map (·.nm)=Tx.dn)(h2:(aD Tx.dn.length).all (λg=>(T.mv g).isNone)=true):∀g nm,Tx.dn[g]?=some nm->T.mv g=none/\∃t,defs[g]?=some t/\nm=t.nm:=λg nm h=>by
 have hl:g<Tx.dn.length:=by
  by_cases z:g<Tx.dn.length
  ·exact z
  ·rw[oZ (by lia)]at h;cases h
 refine⟨LP.mp (gE.mp h2 g (cV.mpr hl)),?_⟩
 rw[<-h1,bT,LA hl]at h
 cases e:defs[g]? with
 |none=>rw[e]at h;cases h
 |some t=>rw[e]at h;cases h;exact⟨t,rfl,rfl⟩
theorem Ct{P:Program}{w:World}{K:PySem.W.Frag}{mg:Str->Option Value}{base:Heap}{T:Tab}{Tx:Txt}{defs:List DefT}(X:TextOk0 K mg T Tx defs){n:Nat}{N:List Str}{nm:Str}{sc:Scope}{f:Addr}{cdv:Value}{A:Around}{outer:List Env}{s:Shared}{H:Hp}{E:XK}(hr:Room (n+2) (A.deeper (envOfC nm sc s.heap.objs.size f cdv)))(nd:N.Nodup)
 (ih:∀i t,defs[i]?=some t->∀f fd,Fun K t.nm t.nm t.st f fd->FnOk P w K mg base (CXE P w) (n+2) f fd t.ps (gK K T (aB T (defs.map DefT.df) n i) i)) :
 OkX T (aB T (defs.map DefT.df) n) Tx (eI (CXE P w) P w K mg base N nm sc f cdv A outer s H E).nox:=by
 have dfa:∀g t',defs[g]?=some t'->lJ T (aB T (defs.map DefT.df) n) (eI (CXE P w) P w K mg base N nm sc f cdv A outer s H E).nox g t'.nm:=λg t' e=>by
  obtain⟨f',fd',F',m',b'⟩:=X.funs t' (iJ e)
  exact⟨n+2,f',fd',t'.ps,ih g t' e f' fd' F',hr,m',F'.kp,b'⟩
 have dfi:∀g t',T.mv g=none->defs[g]?=some t'->nN T (aB T (defs.map DefT.df) n) (eI (CXE P w) P w K mg base N nm sc f cdv A outer s H E).nox g t'.nm:=λg t' hm e=>by
  obtain⟨k',f',fd',ps',h1,h2⟩:=dfa g t' e
  rw[nT hm]at h1
  exact⟨k',f',fd',ps',h1,h2⟩
 exact⟨rfl,hr.units,λg nm hg=>by
  obtain⟨hm,t',e,rfl⟩:=X.dn g nm hg
  exact dfi g t' hm e,λg nm hg=>X.globs g nm hg,X.blt,nd,λq hq=>by
  obtain⟨a,xs,h1,h2,h3,h4⟩:=X.tf q hq
  refine⟨a,xs,h1,h2,h3,λj g hg=>?_⟩
  obtain⟨ad,t',h5,h6,h7⟩:=h4 j g hg
  exact⟨ad,t'.nm,h5,h6,dfi g t' (X.tmv q hq g (iJ hg)) h7⟩,X.ts,λq hq=>by
  obtain⟨t',e,e2⟩:=X.dm q hq
  rw[e2]
  exact dfa q.1 t' e⟩
theorem wD{P:Program}{w:World}{K:PySem.W.Frag}{mg:Str->Option Value}{base:Heap}{x qual:Str}{st:Stmt}{f:Addr}{fd:FuncData}{N ps:List Str}{k:Nat}{sp:Sp}(F:Fun K x qual st f fd)(S:FnScope N ps (dE st))(len:∀vs H Q E,sp vs H Q E->vs.length=ps.length)
 (hbody:∀(cdv:Value)(A:Around)(outer:List Env)(s:Shared)(H:Hp)(vs:List V)(Q:VK)(E:XK),fd.code=cdv->Room k (A.deeper (envOfC qual (dE st) s.heap.objs.size f cdv))->sp vs H Q E ->
  ∃t,PSs (eI (CXE P w) P w K mg base N qual (dE st) f cdv A outer s H E) (eQ st) t/\t {nx:=λ_ H'=>Q .non H',rt:=Q} (cF N vs) H):FnOk P w K mg base (CXE P w) (k+1) f fd ps sp:=by
 obtain⟨oc,od,kV,doc,pm,an,cdv,ct,osl,rfl,lk,hcd⟩:=F.ex
 exact fn_of lk hcd S len λA outer s H vs Q E hr hsp=>hbody cdv A outer s H vs Q E rfl hr hsp
theorem OkX.at{T:Tab}{cf:Nat->List D->Res D}{Tx:Txt}{X:Cx}{st:Stmt}(o:OkX T cf Tx X):OkX T cf (Tx.at st) X:=⟨o.calm,o.roomy,o.defs,o.globs,o.blt,o.nd,o.tf,o.ts,o.dm⟩
theorem Cu{P:Program}{w:World}{K:PySem.W.Frag}{mg:Str->Option Value}{base:Heap}{Tx:Txt}{nm:Str}{st:Stmt}{f:Addr}{fd:FuncData}{N:List Str}{cdv:Value}{A:Around}{outer:List Env}{s:Shared}{H:Hp}{E:XK}(hl:Cs K=true)(F:Fun K nm nm st f fd)(hc:fd.code=cdv)(hr:Room 2 (A.deeper (envOfC nm (dE st) s.heap.objs.size f cdv))) :
 ∀p,(Tx.at st).lam=some p->qJ (eI (CXE P w) P w K mg base N nm (dE st) f cdv A outer s H E).nox p:=λp hp=>by
 obtain⟨oc,od,kV,doc,pm,an,cdv',ct,osl,rfl,lk,_⟩:=F.ex
 have hm:=PySem.W.mem_of_lookupK lk
 have h1:=gE.mp hl _ hm
 have hp:lH (eQ st)=some p:=hp
 have h2:((lH (eQ st)).isNone||qU K cdv')=true:=h1
 rw[hp,Option.isNone_some,oV]at h2
 have hc:cdv'=cdv:=hc
 subst hc
 obtain⟨c,Q,rfl,hQ,h3⟩:=IP h2
 refine⟨hr,c,Q,rfl,h3,?_⟩
 refine E9.mpr ⟨_,hm,?_⟩
 show((lH (eQ st)).bind λp=>(pR K (.ref c)).map λP=>(P,p,nm ++ ".<locals>." ++ "<lambda>"))=_
 rw[hp,hQ];rfl
section
variable{P:Program}{w:World}{K:PySem.W.Frag}{mg:Str->Option Value}{base:Heap}{T:Tab}{Tx:Txt}{defs:List DefT}
theorem Cv{H Hb:Hp}{O:Addr->Prop}{N:List Str}{ds:List D}{vs:List V}(sm:Same Hb H)(w:RDs K H O ds vs)(tr:Trk K Hb O)(n:Nat)(hn:n=N.length-vs.length) :
 Fm K Hb O H O (λ_=>none) (ds.map Sl.v++aU n Sl.no) (cF N vs) where
 len:=by
  unfold L2.cF
  rw[cD,cD,aE,aE,dX,dX,w.length,hn,w.length]
 sl:=λi=>by
  by_cases hi:i<ds.length
  ·obtain⟨v,h1,h2⟩:=w.get (bD hi)
   have e1:Nv.at (ds.map Sl.v++aU n Sl.no) i=.v ds[i]:=by
    unfold Nv.at
    rw[kU (by rw[aE];exact hi),bT,bD hi];rfl
   have e2:bY (cF N vs) i=some v:=by
    unfold bY L2.cF
    rw[kU (by rw[aE,w.length];exact hi),bT,h1];rfl
   rw[e1,e2]
   exact⟨v,rfl,h2⟩
  ·have e1:Nv.at (ds.map Sl.v++aU n Sl.no) i=.no:=by
    unfold Nv.at
    rw[gD (by rw[aE];lia),lY]
    split<;>rfl
   rw[e1];trivial
 inj:=λ_ _ _ h=>by cases h
 same:=sm
 sub:=λ_ h=>h
 trk0:=tr
 trk:=λa h=>let ⟨o,q⟩:=tr.1 a h;⟨o,sm _ _ q⟩
 new:=λ_ _ h=>by cases h
 nw:=λi d a h _=>by
  exfalso
  by_cases hi:i<ds.length
  ·have e1:Nv.at (ds.map Sl.v++aU n Sl.no) i=.v ds[i]:=by
    unfold Nv.at
    rw[kU (by rw[aE];exact hi),bT,bD hi];rfl
   rw[e1]at h;cases h
  ·have e1:Nv.at (ds.map Sl.v++aU n Sl.no) i=.no:=by
    unfold Nv.at
    rw[gD (by rw[aE];lia),lY]
    split<;>rfl
   rw[e1]at h;cases h
theorem IQ{H:Hp}{O:Addr->Prop}{N:List Str}{ds:List D}{vs:List V}(w:RDs K H O ds vs)(tr:Trk K H O)(n:Nat)(hn:n=N.length-vs.length) :
 Fm K H O H O (λ_=>none) (ds.map Sl.v++aU n Sl.no) (cF N vs):=Cv (Same.refl H) w tr n hn
theorem IR{H Hb:Hp}{O:Addr->Prop}{N:List Str}{ds:List D}{vs:List V}(sm:Same Hb H)(w:RDs K H O ds vs)(tr:Trk K Hb O)(n:Nat)(hn:n=N.length-vs.length){j:Nat}{d0:D}{v0:V}(h1:ds[j]?=some d0)(h2:vs[j]?=some v0)(h3:NV K H O d0 v0)(h4:∀a,v0=.ref a->Hb a=none) :
 ∃own,Fm K Hb O H O own (dP (some j) ds++aU n Sl.no) (cF N vs):=by
 have F:=(Cv (N:=N) sm w tr n hn).setN j h3 h4
 have e1:(ds.map Sl.v++aU n Sl.no).set j (.n d0)=dP (some j) ds++aU n Sl.no:=by
  have hj:j<ds.length:=by
   by_cases z:j<ds.length
   ·exact z
   ·rw[oZ (by lia)]at h1;cases h1
  rw[List.set_append_left _ _ (by rw[aE];exact hj)]
  show _=(ds.map Sl.v).set j (.n (ds.getD j .non))++_
  rw[jH,h1];rfl
 have e2:(cF N vs).set j (some v0)=cF N vs:=by
  have q:(cF N vs)[j]?=some (some v0):=by
   unfold L2.cF
   have hj:j<vs.length:=by
    by_cases z:j<vs.length
    ·exact z
    ·rw[oZ (by lia)]at h2;cases h2
   rw[kU (by rw[aE];exact hj),bT,h2];rfl
  apply List.ext_getElem?
  intro i
  by_cases z:j=i
  ·subst z
   obtain⟨hl,_⟩:=gC.mp q
   rw[sY hl,q]
  ·rw[sZ z]
 rw[e1,e2]at F
 exact⟨_,F⟩
noncomputable def nY(H:Hp)(a b:Addr):Hp:=λc=>if c=a\/c=b then none else H c
theorem qV{H:Hp}{a b c:Addr}(h1:c≠a)(h2:c≠b):nY H a b c=H c:=if_neg λz=>z.elim h1 h2
theorem IS{H:Hp}{O:Addr->Prop}{j k:List (Sum Int Str×D)}{a b:Addr}(ha:OwnAt K H O a (.dct j))(hb:OwnAt K H O b (.dct k))(h:TabK K H):TabK K (nY H a b):=by
 obtain⟨_,e1,_⟩:=ha
 obtain⟨_,e2,_⟩:=hb
 refine⟨λt ht=>?_,λn=>?_⟩
 ·have e:=h.1 t ht
  rw[qV (λz=>by rw[z,e1]at e;cases e) (λz=>by rw[z,e2]at e;cases e)]
  exact e
 ·obtain⟨bm,ob,g1,g2,g3⟩:=h.2 n
  exact⟨bm,ob,g1,by rw[qV (λz=>by rw[z,e1]at g2;cases g2) (λz=>by rw[z,e2]at g2;cases g2)];exact g2,g3⟩
theorem IT{H:Hp}{O:Addr->Prop}{N:List Str}{x y:D}{j k:List (Sum Int Str×D)}{v w:V}{a b:Addr}(ab:a≠b)(oa:O a)(ob:O b)(tr:Trk K H O)(rx:RD K H O x v)(ry:RD K H O y w)(ha:OwnAt K H O a (.dct j))(hb:OwnAt K H O b (.dct k))(n:Nat)(hn:n=N.length-4) :
 Fm K (nY H a b) (λc=>O c/\c≠a/\c≠b) H O (λi=>if i=1 then some a else if i=2 then some b else none) ([.v x,.r a (.dct j),.r b (.dct k),.v y]++aU n Sl.no) (cF N [v,.ref a,.ref b,w]) where
 len:=by
  unfold L2.cF
  rw[cD,cD,dX,dX,hn];rfl
 sl:=λi=>by
  match i with
  |0=>exact⟨v,rfl,rx⟩
  |1=>exact⟨rfl,rfl,ha⟩
  |2=>exact⟨rfl,rfl,hb⟩
  |3=>exact⟨w,rfl,ry⟩
  |i+4=>
   have e1:Nv.at ([.v x,.r a (.dct j),.r b (.dct k),.v y]++aU n Sl.no) (i+4)=.no:=by
    unfold Nv.at
    rw[gD (by show 4<=i+4;lia),lY]
    split<;>rfl
   rw[e1];trivial
 inj:=λi i' c h1 h2=>by
  split at h1<;>split at h2
  ·lia
  ·split at h2
   ·cases h1;cases h2;exact absurd rfl ab
   ·cases h2
  ·split at h1
   ·cases h1;cases h2;exact absurd rfl ab
   ·cases h1
  ·split at h1<;>split at h2
   ·lia
   ·cases h2
   ·cases h1
   ·cases h1
 same:=λc o q=>by
  unfold nY at q
  split at q
  ·cases q
  ·exact q
 sub:=λc h=>h.1
 trk0:=⟨λc h=>by rw[qV h.2.1 h.2.2];exact tr.1 c h.1,IS ha hb tr.2⟩
 trk:=tr.1
 new:=λi c h=>by
  split at h
  ·cases h;exact⟨oa,if_pos (.inl rfl)⟩
  ·split at h
   ·cases h;exact⟨ob,if_pos (.inr rfl)⟩
   ·cases h
 nw:=λi d c h _=>by
  exfalso
  match i with
  |0=>cases h
  |1=>cases h
  |2=>cases h
  |3=>cases h
  |i+4=>
   have e1:Nv.at ([.v x,.r a (.dct j),.r b (.dct k),.v y]++aU n Sl.no) (i+4)=.no:=by
    unfold Nv.at
    rw[gD (by show 4<=i+4;lia),lY]
    split<;>rfl
   rw[e1]at h;cases h
theorem Cw(X:TextOk K mg T Tx defs):∀n i t,defs[i]?=some t->∀f fd,Fun K t.nm t.nm t.st f fd->FnOk P w K mg base (CXE P w) (n+2) f fd t.ps (gK K T (aB T (defs.map DefT.df) n i) i)
 |0,i,t,hi,f,fd,F=>by
  have no:∀vs H Q E,¬gK K T (aB T (defs.map DefT.df) 0 i) i vs H Q E:=λvs H Q E h=>by
   cases hmv:T.mv i with
   |none=>
    rw[nT hmv]at h
    obtain⟨O,ds,_,_,⟨d,ev,_⟩|⟨c,d,ev,_⟩⟩:=h
    ·cases ev
    ·cases ev
   |some j=>
    by_cases hj:j=1000
    ·subst hj
     rw[vK hmv]at h
     obtain⟨_,_,_,_,_,_,_,_,_,_,_,_,_,_,_,_,ev,_⟩:=h
     cases ev
    ·rw[CM hmv hj]at h
     obtain⟨O,ds,Hb,d0,v0,_,_,_,_,_,_,_,⟨d,ev,_⟩|⟨c,d,ev,_⟩⟩:=h
     ·cases ev
     ·cases ev
  exact⟨λvs H Q E h=>absurd h (no vs H Q E),λA outer s H args us vs Q E _ _ _ _ h=>absurd h (no vs H Q E)⟩
 |n+1,i,t,hi,f,fd,F=>by
  have ih:=Cw X n
  cases ht:t.told with
  |some td=>
   rw[nT (X.nmv i t hi (by rw[ht];rfl))]
   exact X.told t (iJ hi) td ht P w base n i f fd hi F ih
  |none=>
  have hok:=gE.mp X.ok t (iJ hi)
  unfold DefT.okB at hok
  rw[ht,Option.isSome_none,oV,aF]at hok
  have S:=IM hok.1
  have hdf:(defs.map DefT.df)[i]?=some ⟨t.N.length,t.ps.length,t.body,none⟩:=by rw[bT,hi];show some (DefT.df t)=_;unfold DefT.df;rw[ht]
  have lenOf:∀ds r,aB T (defs.map DefT.df) (n+1) i ds=r->r≠.no->ds.length=t.ps.length:=by
   intro ds r ev hr
   rw[lF,hdf]at ev
   by_cases c:(ds.length==t.df.pars)=true
   ·exact(by simpa using c:ds.length=t.df.pars)
   ·have c':(ds.length==t.df.pars)=false:=by simpa using c
    have ev:aC (ds.length==t.df.pars) _=r:=ev
    rw[c']at ev
    exact absurd ev.symm hr
  by_cases hrf:T.mv i=some 1000
  ·rw[vK hrf]
   have len4:∀vs H Q E,spR K (aB T (defs.map DefT.df) (n+1) i) vs H Q E->vs.length=t.ps.length:=λvs H Q E h=>by
    obtain⟨_,_,_,_,_,_,_,_,_,_,_,_,rfl,_,_,_,ev,_⟩:=h
    exact lenOf _ _ ev (λz=>by cases z)
   refine wD F S len4 (λcdv A outer s H vs Q E hcd hr h=>?_)
   have hl:=len4 vs H Q E h
   obtain⟨O,x,y,j,k,v,u,a,b,r,j',k',rfl,ab,⟨oa,ob,tr⟩,⟨rx,ry,ha,hb⟩,ev,kk⟩:=h
   have okx:=Ct (P:=P) (w:=w) (base:=base) X.toTextOk0 (cdv:=cdv) (outer:=outer) (H:=H) (E:=E) (f:=f) hr S.nd ih
   have oks:OkS T (aB T (defs.map DefT.df) n) (Tx.at t.st) (eI (CXE P w) P w K mg base t.N t.nm (dE t.st) f cdv A outer s H E).nox:=⟨okx.at,rfl,λ_=>rfl,Cu X.lam F hcd (hr.mono (by lia))⟩
   rw[lF,hdf]at ev
   obtain⟨_,ev⟩:=aZ ev
   rw[if_pos hrf]at ev
   have ev:(match exS T (aB T (defs.map DefT.df) n) t.body ([.v x,.r (a:Nat) (.dct j),.r (b:Nat) (.dct k),.v y]++aU (t.N.length-t.ps.length) Sl.no)with
    |.ok (.rr x a1 j b1 k)=>aC (a1==a&&b1==b) (Res.ok (D.tup [x,.dct j,.dct k]))
    |_=>.no)=.ok (.tup [r,.dct j',.dct k']):=ev
   cases hs:exS T (aB T (defs.map DefT.df) n) t.body ([.v x,.r (a:Nat) (.dct j),.r (b:Nat) (.dct k),.v y]++aU (t.N.length-t.ps.length) Sl.no)with
   |ok out=>
    rw[hs]at ev
    cases out with
    |rr x1 a1 j1 b1 k1=>
     obtain⟨c2,ev⟩:=aZ ev
     cases ev
     rw[aF,beq_iff_eq,beq_iff_eq]at c2
     obtain⟨rfl,rfl⟩:=c2
     refine⟨_,((Cq t.body).2 _ _ oks hok.2 (nY H a1 b1) (λc=>O c/\c≠a1/\c≠b1)).nox,?_⟩
     refine⟨[],_,_,⟨O,_,IT (N:=t.N) ab oa ob tr rx ry ha hb (t.N.length-t.ps.length) (by rw[<-hl];rfl),λt ht=>by cases ht⟩,hs,?_⟩
     intro v' H' s' r' o1 o2
     have wk:∀c,O c->(O c/\c≠a1/\c≠b1)\/c=a1\/c=b1:=λc hc=>by
      by_cases z1:c=a1
      ·exact .inr (.inl z1)
      ·by_cases z2:c=b1
       ·exact .inr (.inr z2)
       ·exact .inl ⟨hc,z1,z2⟩
     exact kk v' H' (λc o n1 n2 q=>s' c o (by rw[qV n1 n2];exact q)) (r'.weak wk) (o1.weak wk) (o2.weak wk)
    |_=>cases ev
   |err _ _=>rw[hs]at ev;cases ev
   |no=>rw[hs]at ev;cases ev
  have open1:∀ds,ds.length=t.ps.length->aB T (defs.map DefT.df) (n+1) i ds=(match exX T (aB T (defs.map DefT.df) n) t.body (dP (T.mv i) ds++aU (t.N.length-t.ps.length) Sl.no)with
   |some z=>.err z.1 z.2
   |none=>match exS T (aB T (defs.map DefT.df) n) t.body (dP (T.mv i) ds++aU (t.N.length-t.ps.length) Sl.no)with
    |.ok (.rt x k)=>aC (k||!T.fresh i) (.ok x)
    |.ok (.nx _)=>aC (!T.fresh i) (.ok .non)
    |_=>.no):=by
   intro ds hl
   rw[lF,hdf]
   exact(bR (by simpa using hl) _).trans (if_neg hrf)
  have un:∀ds d,aB T (defs.map DefT.df) (n+1) i ds=.ok d->∃out,exS T (aB T (defs.map DefT.df) n) t.body (dP (T.mv i) ds++aU (t.N.length-t.ps.length) Sl.no)=.ok out /\
   ((∃k,out=.rt d k/\(k=true\/T.fresh i=false))\/(∃e,out=.nx e/\d=.non/\T.fresh i=false)):=by
   intro ds d ev
   rw[open1 ds (lenOf ds _ ev (λz=>by cases z))]at ev
   cases hx:exX T (aB T (defs.map DefT.df) n) t.body (dP (T.mv i) ds++aU (t.N.length-t.ps.length) Sl.no)with
   |some z=>rw[hx]at ev;cases ev
   |none=>
    rw[hx]at ev
    cases hs:exS T (aB T (defs.map DefT.df) n) t.body (dP (T.mv i) ds++aU (t.N.length-t.ps.length) Sl.no)with
    |ok out=>
     rw[hs]at ev
     refine⟨out,rfl,?_⟩
     cases out with
     |nx e=>
      obtain⟨c2,ev⟩:=aZ ev
      cases ev
      exact .inr ⟨e,rfl,rfl,by simpa using c2⟩
     |rt x k=>
      obtain⟨c2,ev⟩:=aZ ev
      cases ev
      exact .inl ⟨k,rfl,by simpa using c2⟩
     |bk e=>cases ev
     |ct e=>cases ev
     |rr _ _ _ _ _=>cases ev
    |err _ _=>rw[hs]at ev;cases ev
    |no=>rw[hs]at ev;cases ev
  have unX:∀ds c d,aB T (defs.map DefT.df) (n+1) i ds=.err c d->exX T (aB T (defs.map DefT.df) n) t.body (dP (T.mv i) ds++aU (t.N.length-t.ps.length) Sl.no)=some (c,d):=by
   intro ds c d ev
   rw[open1 ds (lenOf ds _ ev (λz=>by cases z))]at ev
   cases hx:exX T (aB T (defs.map DefT.df) n) t.body (dP (T.mv i) ds++aU (t.N.length-t.ps.length) Sl.no)with
   |some z=>rw[hx]at ev;cases ev;rfl
   |none=>
    rw[hx]at ev
    exfalso
    cases hs:exS T (aB T (defs.map DefT.df) n) t.body (dP (T.mv i) ds++aU (t.N.length-t.ps.length) Sl.no)with
    |ok out=>
     rw[hs]at ev
     cases out with
     |nx e=>have ev:aC (!T.fresh i) (Res.ok D.non)=Res.err c d:=ev;unfold aC at ev;split at ev<;>cases ev
     |rt x k=>have ev:aC (k||!T.fresh i) (Res.ok x)=Res.err c d:=ev;unfold aC at ev;split at ev<;>cases ev
     |bk e=>cases ev
     |ct e=>cases ev
     |rr _ _ _ _ _=>cases ev
    |err _ _=>rw[hs]at ev;cases ev
    |no=>rw[hs]at ev;cases ev
  have core:∀(cdv:Value)(A:Around)(outer:List Env)(s:Shared)(H Hb:Hp)(O:Addr->Prop)(ds:List D)(vs:List V)(own:Nat->Option Addr)(Q:VK)(E:XK),fd.code=cdv->Room (n+2) (A.deeper (envOfC t.nm (dE t.st) s.heap.objs.size f cdv))->Fm K Hb O H O own (dP (T.mv i) ds++aU (t.N.length-t.ps.length) Sl.no) (cF t.N vs) ->
   ((∃d,aB T (defs.map DefT.df) (n+1) i ds=.ok d/\∀v H',Same Hb H'->RD K H' O d v->(T.fresh i=true->NewR K Hb H' O d v)->Q v H')\/∃c d,aB T (defs.map DefT.df) (n+1) i ds=.err c d/\∀od H',Same Hb H'->uX d od H'->E (cvK K c) od H') ->
   ∃tt,PSs (eI (CXE P w) P w K mg base t.N t.nm (dE t.st) f cdv A outer s H E) (eQ t.st) tt/\tt {nx:=λ_ H'=>Q .non H',rt:=Q} (cF t.N vs) H:=by
   intro cdv A outer s H Hb O ds vs own Q E hcd hr Fs h
   have okx:=Ct (P:=P) (w:=w) (base:=base) X.toTextOk0 (cdv:=cdv) (outer:=outer) (H:=H) (E:=E) (f:=f) hr S.nd ih
   have oks:OkS T (aB T (defs.map DefT.df) n) (Tx.at t.st) (eI (CXE P w) P w K mg base t.N t.nm (dE t.st) f cdv A outer s H E).nox:=⟨okx.at,rfl,λ_=>rfl,Cu X.lam F hcd (hr.mono (by lia))⟩
   rcases h with⟨d,ev,k⟩|⟨c,d,ev,k⟩
   ·obtain⟨out,e1,e2⟩:=un ds d ev
    refine⟨_,((Cq t.body).2 _ _ oks hok.2 Hb O).nox,?_⟩
    refine⟨[],_,out,⟨O,own,Fs,λt ht=>by cases ht⟩,e1,?_⟩
    rcases e2 with⟨fr,rfl,hf⟩|⟨e,rfl,rfl,hf⟩
    ·intro v H' s' r nl
     refine k v H' s' r λz=>nl ?_
     rcases hf with q|q
     ·exact q
     ·rw[z]at q;cases q
    ·rintro σ' H' ⟨O',own',F',_⟩
     exact k .non H' F'.same rfl λz=>by rw[z]at hf;cases hf
   ·exact nomatch unX ds c d ev
  cases hmv:T.mv i with
  |none=>
   rw[nT hmv]
   rw[hmv]at core
   refine wD F S (λvs H Q E h=>?_) (λcdv A outer s H vs Q E hcd hr h=>?_)
   ·obtain⟨O,ds,_,rr,⟨d,ev,_⟩|⟨c,d,ev,_⟩⟩:=h
    ·rw[rr.length];exact lenOf ds _ ev (λz=>by cases z)
    ·rw[rr.length];exact lenOf ds _ ev (λz=>by cases z)
   ·obtain⟨O,ds,tr,rr,h⟩:=h
    have hl:ds.length=t.ps.length:=by
     rcases h with⟨d,ev,_⟩|⟨c,d,ev,_⟩
     ·exact lenOf ds _ ev (λz=>by cases z)
     ·exact lenOf ds _ ev (λz=>by cases z)
    exact core cdv A outer s H H O ds vs _ Q E hcd hr (IQ (N:=t.N) rr tr (t.N.length-t.ps.length) (by rw[rr.length,hl])) h
  |some j=>
   rw[CM hmv (λz=>hrf (by rw[hmv,z]))]
   rw[hmv]at core
   refine wD F S (λvs H Q E h=>?_) (λcdv A outer s H vs Q E hcd hr h=>?_)
   ·obtain⟨O,ds,Hb,d0,v0,_,_,rr,_,_,_,_,⟨d,ev,_⟩|⟨c,d,ev,_⟩⟩:=h
    ·rw[rr.length];exact lenOf ds _ ev (λz=>by cases z)
    ·rw[rr.length];exact lenOf ds _ ev (λz=>by cases z)
   ·obtain⟨O,ds,Hb,d0,v0,sm,tr,rr,g1,g2,g3,g4,h⟩:=h
    have hl:ds.length=t.ps.length:=by
     rcases h with⟨d,ev,_⟩|⟨c,d,ev,_⟩
     ·exact lenOf ds _ ev (λz=>by cases z)
     ·exact lenOf ds _ ev (λz=>by cases z)
    obtain⟨own,Fs⟩:=IR (N:=t.N) sm rr tr (t.N.length-t.ps.length) (by rw[rr.length,hl]) g1 g2 g3 g4
    exact core cdv A outer s H Hb O ds vs own Q E hcd hr Fs h
theorem law_sp{i n:Nat}(hT:∀ns:List Int,ns.length<=63->aB T (defs.map DefT.df) n i [.lst (ns.map D.int)]=.ok (.bl true))(K:PySem.W.Frag)(H:Hp)(a:Addr)(ns:List Int)(hl:ns.length<=63)(ht:TabK K H)(hS:SqL K H a (ns.map V.int)){Q:VK}(hQ:∀H',Same H H'->Q (.bl true) H') :
 spD K (aB T (defs.map DefT.df) n i) (T.fresh i) [.ref a] H Q (λ_ _ _=>False):=by
 refine⟨no,[.lst (ns.map D.int)],⟨λa h=>h.elim,ht⟩,⟨.ref a,[],rfl,⟨a,ns.map V.int,rfl,?_,?_⟩,rfl⟩,.inl ⟨.bl true,hT ns hl,λv H' s r _=>by
  cases (show v=.bl true from r)
  exact hQ H' s⟩⟩
 ·rcases hS with z|z
  ·exact .inl ⟨λq=>q,z⟩
  ·exact .inr z
 ·clear hl hS
  induction ns with
  |nil=>exact rfl
  |cons i r ih=>exact⟨.int i,r.map V.int,rfl,rfl,ih⟩
end
end Tr
namespace Tr
open PySem PySem.Spec PyProof.Rows L2 PySem.W
section
variable{X:Cx}{i:Nat}{x c:Str}{C:Addr}{b:Bool}{p:Expr}
end
noncomputable def isNon:D->Bool
 |.non=>true
 |_=>false
section
variable{T:Tab}{cf:Nat->List D->Res D}
end
section
variable{K:PySem.W.Frag}{mg:Str->Option Value}{T:Tab}{Tx:Txt}{defs:List DefT}
end
section
variable{K:PySem.W.Frag}{mg:Str->Option Value}{T:Tab}{Tx:Txt}{defs:List DefT}
theorem IU(X:TextOk0 K mg T Tx defs)(h:defs.filter (λt=>t.told.isSome)=[]):TextOk K mg T Tx defs:=
 ⟨X,λt ht td e=>by
  have:t∈defs.filter (λt=>t.told.isSome):=eN.mpr ⟨ht,by rw[e];rfl⟩
  rw[h]at this;exact(nomatch this),λi t hi hs=>by
  have:t∈defs.filter (λt=>t.told.isSome):=eN.mpr ⟨iJ hi,hs⟩
  rw[h]at this;cases this⟩
end
section
variable{K:PySem.W.Frag}{mg:Str->Option Value}{T:Tab}{Tx:Txt}{defs:List DefT}
end
section
variable{K:PySem.W.Frag}{mg:Str->Option Value}{T:Tab}{Tx:Txt}{defs:List DefT}
end
end Tr
namespace Tr
open PySem PySem.Spec PyProof.Rows L2
theorem len1{P:List Value->Prop}(h:∀a0:Value,P [a0]):∀us:List Value,us.length=1->P us
 |[_],_=>h _
theorem gN{P:List Value->Prop}(h:∀a0 a1:Value,P [a0,a1]):∀us:List Value,us.length=2->P us
 |[_,_],_=>h _ _
theorem fU{P:List Value->Prop}(h:∀a0 a1 a2:Value,P [a0,a1,a2]):∀us:List Value,us.length=3->P us
 |[_,_,_],_=>h _ _ _
theorem len4{P:List Value->Prop}(h:∀a0 a1 a2 a3:Value,P [a0,a1,a2,a3]):∀us:List Value,us.length=4->P us
 |[_,_,_,_],_=>h _ _ _ _
theorem len5{P:List Value->Prop}(h:∀a0 a1 a2 a3 a4:Value,P [a0,a1,a2,a3,a4]):∀us:List Value,us.length=5->P us
 |[_,_,_,_,_],_=>h _ _ _ _ _
theorem bO{K:PySem.W.Frag}{h:Heap}{mg:Str->Option Value}(X:K.In h)(G:h.Ns mainGlobals mg){x:Str}{st:Stmt}{ps:List Str}{f:Addr}{oc:Value}{od an:Option Addr}{osl:Array (Option Value)}{kV doc pm cdv ct:Value}
 (a:PySem.W.nsIn K mainGlobals x=some (some (.ref f))) (l:K.lookup f=some ⟨oc,od,.func (PySem.W.fnOf x x (kE st) (eQ st) (dE st) .none kV doc pm an cdv ct),osl⟩)
 (c:PySem.W.codeIn K cdv x=true) (k:PySem.W.keepIn K (.ref f)=true)
 (hb:∀(kV doc pm:Value)(an:Option Addr)(cdv ct:Value)(us:List Value),us.length=ps.length->bindArgs (PySem.W.fnOf x x (kE st) (eQ st) (dE st) .none kV doc pm an cdv ct) ⟨us,[]⟩=pure (ps.zip us)) :
 ∃f fd,Fun K x x st f fd/\mg x=some (.ref f)/\Binds K fd ps []:=
 ⟨f,_,A7 l c k,PySem.W.mg_of X G a,(A7 (st:=st) l c k).binds hb⟩
theorem qW{K:PySem.W.Frag}{h:Heap}{mg:Str->Option Value}(X:K.In h)(G:h.Ns mainGlobals mg){x:Str}{i:Int}{t:Tok}(a:PySem.W.nsIn K mainGlobals x=some (some (.int i t))):Cr K mg x (.int i):=
 ⟨.int i,.int i t,PySem.W.mg_of X G a,⟨t,rfl⟩,λ_ _=>rfl⟩
theorem dC{K:PySem.W.Frag}{h:Heap}{mg:Str->Option Value}(X:K.In h)(G:h.Ns mainGlobals mg){x:Str}(a:PySem.W.nsIn K mainGlobals x=some none):mg x=none:=PySem.W.mg_none_of X G a
theorem IV{Pg:Program}{w:World}{K:PySem.W.Frag}{mg mb:Str->Option Value}{CX:CXT}{k:Nat}{fa a c0 P bm:Addr}{ob:Obj}{pos:Pos}{q:Str}{fd:FuncData}{x:Str}{sp:Sp}{s₁:Shared}{vs:List Value}{ns:List Int}
 (KX:K.In s₁.heap) (hns:s₁.heap.Ns mainGlobals mg) (hb:s₁.heap.Ns builtinsNs mb) (hbb:∀x:Str,x ≠ "__name__" -> mb x=bootBuiltins x) (hlim:s₁.heap.NoLimit) (hg:s₁.gens=#[])
 (ha:s₁.heap.get? a=some {cls:=.type "list", data:=.seq vs.toArray}) (hi:IntsAre vs ns) (hl:ns.length<=sizeLine) (hr:Room k callerA)
 (F:∀base:Heap,K.In base->base.Ns mainGlobals mg->FnOk Pg w K mg base CX k fa fd [x] sp) (hbind:∀(s:Shared)(u:Value),BindsTo s fd ⟨[u],[]⟩ [(x,u)])
 (hsp:∀H:Hp,TabK K H->SqL K H a (ns.map V.int)->sp [.ref a] H (λv H'=>v=.bl true/\Same H H') λ_ _ _=>False)
 (hCX:∀H e s',CX [] H s₁ (λ_ _ _=>False) e s'->False)
 (hT:nE K=[(P,pos,q)]) (hc:PySem.W.codeHdIn K c0 P=true) (hP:s₁.heap.get? P=some (PySem.W.tabObj #[])) (hPK:K.lookup P=none)
 (b1:PySem.W.nsIn K mainGlobals "__builtins__" = some (some (.ref bm))) (b2:s₁.heap.get? bm=some ob) (b3:ob.cls=.type "module") (b4:ob.dict=some builtinsNs) (b5:ob.data=.plain) (b6:bm≠builtinsNs) (hbK:K.lookup bm=none) :
 codeAny (model Pg w) callerA (.call (.ref fa) ⟨[.ref a],[]⟩) (λr s'=>r=.ok (.ret (.bool true))/\OldK s₁.heap s'.heap/\s'.os=s₁.os/\AllBare s'.gens) s₁:=by
 have rv:=L2.vals_ints hi
 have lenV:=hi.length
 have core:∀H:Hp,(∀b u,H b=some u->(b=a/\∃o xs,u=.frz o (.lst xs))\/(b=P/\u=.ctab pos q)\/(b=bm/\u=.frz ob (.own bm)))->SqL K H a (ns.map V.int)->HOk Pg w H s₁.heap->(H a≠none->K.lookup a=none)->TabK K H ->
  codeAny (model Pg w) callerA (.call (.ref fa) ⟨[.ref a],[]⟩) (λr s'=>r=.ok (.ret (.bool true))/\OldK s₁.heap s'.heap/\s'.os=s₁.os/\AllBare s'.gens) s₁:=by
  intro H hO hS hok hK tab
  have base_of:∀{b:Addr} {o:Obj},s₁.heap.get? b=some o->H b=none->(iM s₁.heap H).get? b=some o:=λe n=>Eo e n
  have noA:∀{b:Addr} {o:Obj} {es:Array DictEntry} {ep:Nat},s₁.heap.get? b=some o->o.data=.dict es ep->H b=none:=λ{b o es ep} e d=>by
   cases z:H b with
   |none=>rfl
   |some u=>
    exfalso
    rcases hO b u z with⟨rfl,_⟩|⟨rfl,_⟩|⟨rfl,_⟩
    ·rw[ha]at e;cases e;cases d
    ·rw[hP]at e;cases e;cases d
    ·rw[b2]at e;cases e;rw[b5]at d;cases d
  have nsK:∀{b:Addr} {m:Str->Option Value},s₁.heap.Ns b m->(iM s₁.heap H).Ns b m:=λ{b m} ⟨o,es,ep,e,d,r⟩=>⟨o,es,ep,base_of e (noA e d),d,r⟩
  have hKb:K.In (iM s₁.heap H):=λb o e=>base_of (KX b o e) (by
   cases z:H b with
   |none=>rfl
   |some u=>
    exfalso
    rcases hO b u z with⟨rfl,_⟩|⟨rfl,_⟩|⟨rfl,_⟩
    ·rw[hK (by rw[z];simp)]at e;cases e
    ·rw[hPK]at e;cases e
    ·rw[hbK]at e;cases e)
  have hM:Mod K mg (iM s₁.heap H):=⟨hKb,nsK hns,⟨mb,nsK hb,hbb⟩,let ⟨mc,h1,h2⟩:=hlim;⟨mc,nsK h1,h2⟩⟩
  have e0:Env0 Pg w K mg (iM s₁.heap H) callerA [] s₁ H:=⟨rfl,hM,λb o e=>Ep e,Ee (En _ _),trivial,λb hb=>absurd (show b∈([]:List Addr)from hb) (by simp),hok,.of_eq hg⟩
  refine codeAny_mono ((F _ hKb (nsK hns)).run callerA [] s₁ H ⟨[.ref a],[]⟩ [.ref a] [.ref a] _ _ hr e0 (hbind s₁ (.ref a)) (.cons rfl .nil) (hsp H tab hS)) λr s' h=>?_
  cases r with
  |error e=>exact(hCX H e s' h).elim
  |ok fl=>
   cases fl with
   |next=>exact False.elim h
   |brk=>exact False.elim h
   |cont=>exact False.elim h
   |ret u=>
    obtain⟨v,H',os,bare,un,hok',r',q1,q2⟩:=h
    subst q1
    obtain rfl:u=Value.bool true:=r'
    have old:∀b o,s₁.heap.get? b=some o->asItWas s₁.heap s'.heap b o:=λb o e=>by
     cases z:H b with
     |none=>exact .inl (un.keep b o e z (by intro z;exact absurd (show b∈([]:List Addr)from z) (by simp)) (by simp))
     |some u=>
      rcases hO b u z with⟨_,ob',xs,rfl⟩|⟨rfl,rfl⟩|⟨_,rfl⟩
      ·obtain⟨e1,_⟩:=hok b _ z
       obtain⟨e2,_⟩:=hok' b _ (un.frzs b _ _ z)
       rw[e]at e1;cases e1
       exact .inl e2
      ·obtain⟨ps,e2,_⟩:=(show ObjOk Pg w H' s'.heap b (.ctab pos q)from hok' b _ (q2 _ _ z))
       rw[hP]at e
       cases e
       exact .inr (.inl ⟨((PySem.W.codeHd_of_K KX hc).tab hP).isCodeTable,rfl,#[],ps,rfl,by rw[e2];simp⟩)
      ·obtain⟨e1,_⟩:=hok b _ z
       obtain⟨e2,_⟩:=hok' b _ (un.frzs b _ _ z)
       rw[e]at e1;cases e1
       exact .inl e2
    exact⟨rfl,⟨old,λb o e=>un.there b o e (by simp)⟩,os,bare⟩
 have neP:a≠P:=λz=>by rw[z,hP]at ha;cases ha
 have neB:a≠bm:=λz=>by
  rw[z,b2]at ha;cases ha;cases b5
 have nPB:P≠bm:=λz=>by
  rw[z,b2]at hP;cases hP;cases b5
 have okP:∀H:Hp,ObjOk Pg w H s₁.heap P (.ctab pos q):=λH=>⟨#[],hP,trivial,λcv e=>by cases e⟩
 have okB:∀H:Hp,ObjOk Pg w H s₁.heap bm (.frz ob (.own bm)):=λH=>⟨b2,_,b2⟩
 have tabH:∀H:Hp,H P=some (.ctab pos q)->H bm=some (.frz ob (.own bm))->TabK K H:=λH h1 h2=>⟨λt ht=>by
  rw[hT]at ht
  rw[cI.mp ht]
  exact h1,λ_=>⟨bm,ob,b1,h2,b3,b4,b5,b6⟩⟩
 cases hk:K.lookup a with
 |some o=>
  have e:=KX a o hk
  rw[ha]at e
  cases e
  refine core (λb=>if b=P then some (.ctab pos q)else if b=bm then some (.frz ob (.own bm))else none) (λb u z=>?_) (.inr ⟨_,vs.toArray,_,hk,rfl,rfl,rfl,by rw[bG,lenV];exact hl,by simpa using rv⟩) (λb u z=>?_) (λz=>?_) (tabH _ (if_pos rfl) (by rw[if_neg (Ne.symm nPB),if_pos rfl]))
  ·(try dsimp only at z)
   split at z
   ·cases z;exact .inr (.inl ⟨by assumption,rfl⟩)
   ·split at z
    ·cases z;exact .inr (.inr ⟨by assumption,rfl⟩)
    ·cases z
  ·(try dsimp only at z)
   split at z
   ·rename_i w;cases z;rw[w];exact okP _
   ·split at z
    ·rename_i w;cases z;rw[w];exact okB _
    ·cases z
  ·(try dsimp only at z)
   rw[if_neg neP,if_neg neB]at z
   exact absurd rfl z
 |none=>
  refine core (λb=>if b=a then some (.frz {cls:=.type "list", data:=.seq vs.toArray} (.lst (ns.map V.int)))else if b=P then some (.ctab pos q)else if b=bm then some (.frz ob (.own bm))else none) (λb u z=>?_) (.inl (.inr ⟨{cls:=.type "list", data:=.seq vs.toArray},if_pos rfl⟩)) (λb u z=>?_) (λ_=>hk) (tabH _ (by rw[if_neg (Ne.symm neP),if_pos rfl]) (by rw[if_neg (Ne.symm neB),if_neg (Ne.symm nPB),if_pos rfl]))
  ·(try dsimp only at z)
   split at z
   ·cases z;exact .inl ⟨by assumption,_,_,rfl⟩
   ·split at z
    ·cases z;exact .inr (.inl ⟨by assumption,rfl⟩)
    ·split at z
     ·cases z;exact .inr (.inr ⟨by assumption,rfl⟩)
     ·cases z
  ·(try dsimp only at z)
   split at z
   ·rename_i w
    cases z
    subst w
    exact⟨ha,by rw[aE];exact hl,vs,_,rv,ha⟩
   ·split at z
    ·rename_i w;cases z;rw[w];exact okP _
    ·split at z
     ·rename_i w;cases z;rw[w];exact okB _
     ·cases z
theorem walkK{l:PySem.W.OpenLaw}{q:Program}{loose:List Str}{XP:(Str->Option Value)->Heap->Prop}{YP:World->Heap->Prop}{d:DefRec}{K:Params->PySem.W.Frag}{T:Tab}{Tx:Txt}{defs:List DefT}{i n:Nat}{tl:DefT}{x:Str}{c0 P bm:Addr}{pos:Pos}{ql:Str}
 (hi:defs[i]?=some tl) (hps:tl.ps=[x]) (hnm:tl.nm=d.name)
 (hn:l.most=some 63) (hdf:d.params.defaults=[]) (hr:Room (n+2) callerA)
 (hT:∀ns:List Int,ns.length<=63->aB T (defs.map DefT.df) n i [.lst (ns.map D.int)]=.ok (.bl true))
 (hY:∀(w:World)(h:Heap),YP w h->(K w.params).In h/\h.get? P=some (PySem.W.tabObj #[]))
 (hX:∀(w:World)(mg:Str->Option Value)(h:Heap),(K w.params).In h->h.Ns mainGlobals mg->TextOk (K w.params) mg T Tx defs)
 (hL:∀p,nE (K p)=[(P,pos,ql)]) (hc:∀p,PySem.W.codeHdIn (K p) c0 P=true) (hPK:∀p,(K p).lookup P=none) (hB:∀p,PySem.W.nsIn (K p) mainGlobals "__builtins__" = some (some (.ref bm))) (hbK:∀p,(K p).lookup bm=none)
 (hb:∀(kV doc pm:Value)(an:Option Addr)(cdv ct:Value)(u:Value),bindArgs (PySem.W.fnOf tl.nm tl.nm (kE tl.st) (eQ tl.st) (dE tl.st) .none kV doc pm an cdv ct) ⟨[u],[]⟩=pure [(x,u)]) (hmv:T.mv i=none:=by rfl) :
 PySem.W.WalkO q loose XP YP l.row.toRowW d [] (λf vs=>PySem.call f vs):=by
 refine Att.attach_call hn hdf λw s₀ s₁ mg mb fa o pm cd doc a vs ns G Y ho hd hcd hmg hobj hints hlen hg=>?_
 obtain⟨KX,hP⟩:=hY w _ Y
 have tx:=hX w mg _ KX G.T.g
 obtain⟨f,fd,F,m,_⟩:=tx.funs tl (iJ hi)
 rw[hnm,hmg]at m
 cases m
 obtain⟨bm',ob,b1,b2,b3,b4,b5,b6⟩:=G.T.bmain
 have e:=PySem.W.mg_of KX G.T.g (hB w.params)
 rw[e]at b1
 cases b1
 refine IV (x:=x) (fd:=fd) (sp:=spD (K w.params) (aB T (defs.map DefT.df) n i) (T.fresh i)) (CX:=CXE l.prog w) KX G.T.g G.T.b G.T.builtins G.T.nolimit hg hobj hints (bX hlen (by decide)) hr (λbase kb nb=>?_) (λs u=>?_) (λH tab hS=>law_sp hT (K w.params) H a ns hlen tab hS λH' s=>⟨rfl,s⟩) (λ_ _ _ ⟨_,_,_,_,_,_,_,_,_,_,_,_,_,_,_,_,_,z⟩=>z.elim) (hL w.params) (hc w.params) hP (hPK w.params) (hB w.params) b3 b4 b5 b6 b2 (hbK w.params)
 ·have:=Cw (P:=l.prog) (w:=w) (base:=base) tx n i tl hi fa fd F
  rw[hps,nT hmv]at this
  exact this
 ·obtain⟨oc,od,kV,doc,pm,an,cdv,ct,osl,rfl,lk,hcd⟩:=F.ex
  exact .of_eq (hb kV doc pm an cdv ct u)
end Tr
namespace Tr
theorem all_cons{α:Type}{p:α->Prop}{a:α}{l:List α}(h:p a)(r:∀x∈l,p x):∀x∈a::l,p x:=List.forall_mem_cons.mpr ⟨h,r⟩
theorem jR{α:Type}{p:α->Prop}:∀x∈([]:List α),p x:=λ_ h=>by cases h
theorem qX{α:Type}{p:Nat->α->Prop}{a:α}{l:List α}(h:p 0 a)(r:∀g n,l[g]?=some n->p (g+1) n):∀g n,(a::l)[g]?=some n->p g n
 |0,n,e=>by simp at e;subst e;exact h
 |g+1,n,e=>r g n (by simpa using e)
theorem gl_nil{α:Type}{p:Nat->α->Prop}:∀g n,([]:List α)[g]?=some n->p g n:=λg n e=>by simp at e
end Tr
namespace Tr
open PySem
section
variable{T:Tab}{cf:Nat->List D->Res D}{e:Nv}
@[simp] theorem IW{i:Nat}:evE T cf (.var i) e=(e.at i).val:=id rfl
@[simp] theorem evE_rd{i:Nat}:evE T cf (.rd i) e=(e.at i).any:=id rfl
@[simp] theorem IX{d:D}:evE T cf (.con d) e=.ok d:=id rfl
@[simp] theorem evE_glob{g:Nat}:evE T cf (.glob g) e=.ok (T.glob g):=id rfl
@[simp] theorem IY{o:Operator}{a b:E}:evE T cf (.bin o a b) e=(do let x<-evE T cf a e;let y<-evE T cf b e;D.bin o x y):=id rfl
@[simp] theorem evE_cmp{o:CmpOp}{a b:E}:evE T cf (.cmp o a b) e=(do let x<-evE T cf a e;let y<-evE T cf b e;D.cmp o x y):=id rfl
@[simp] theorem evE_and{a b:E}:evE T cf (.and a b) e=(do let x<-evE T cf a e;let k<-x.truth;if k then evE T cf b e else .ok x):=id rfl
@[simp] theorem evE_or{a b:E}:evE T cf (.or a b) e=(do let x<-evE T cf a e;let k<-x.truth;if k then .ok x else evE T cf b e):=id rfl
@[simp] theorem evE_not{a:E}:evE T cf (.not a) e=(do let x<-evE T cf a e;let k<-x.truth;.ok (.bl (!k))):=id rfl
@[simp] theorem evE_ife{c a b:E}:evE T cf (.ife c a b) e=(do let x<-evE T cf c e;let k<-x.truth;if k then evE T cf a e else evE T cf b e):=id rfl
@[simp] theorem evE_ix{a b:E}:evE T cf (.ix a b) e=(do let x<-evE T cf a e;let y<-evE T cf b e;D.ix x y):=id rfl
@[simp] theorem evE_sl{a lo hi:E}:evE T cf (.sl a lo hi) e=(do let x<-evE T cf a e;let l<-evE T cf lo e;let l<-l.part;let h<-evE T cf hi e;let h<-h.part;D.sl x l h):=id rfl
@[simp] theorem evE_omit:evE T cf .omit e=.ok .non:=id rfl
@[simp] theorem evE_tup{a:E}:evE T cf (.tup a) e=(do let xs<-evA T cf a e;.ok (.tup xs)):=id rfl
@[simp] theorem evE_lst{a:E}:evE T cf (.lst a) e=(do let xs<-evA T cf a e;.ok (.lst xs)):=id rfl
@[simp] theorem evE_call{f:Nat}{a:E}:evE T cf (.call f a) e=(do let xs<-evA T cf a e;cf f xs):=id rfl
@[simp] theorem evI_seqD{a:E}:evI T cf (.seqD a) e=(do let x<-evE T cf a e;mV x):=id rfl
@[simp] theorem evE_srt{a:E}:evE T cf (.srt a) e=(do let x<-evE T cf a e;mY x):=id rfl
@[simp] theorem evE_dck{a:E}:evE T cf (.dck a) e=(do let x<-evE T cf a e;mX x):=id rfl
@[simp] theorem evE_bt{b:Bt}{a:E}:evE T cf (.bt b a) e=(do let xs<-evA T cf a e;b.run xs):=id rfl
@[simp] theorem evE_isi{a:E}{t:Ty}:evE T cf (.isi a t) e=(do let x<-evE T cf a e;aC (!x.isDct) (.ok (.bl (x.isTy t)))):=id rfl
noncomputable def negR:D->Res D
 |.int i=>.ok (.int (-i))
 |_=>.no
@[simp] theorem neg_int{i:Int}:negR (.int i)=.ok (.int (-i)):=id rfl
@[simp] theorem evE_neg{a:E}:evE T cf (.neg a) e=(evE T cf a e>>=negR):=by
 rw[Ak]
 cases evE T cf a e with
 |ok x=>cases x<;>rfl
 |err _ _=>rfl
 |no=>rfl
noncomputable def aI(T:Tab)(cf:Nat->List D->Res D)(own:Nat)(caps:List Nat)(g:G)(elt cond:E)(e:Nv)(d:D):Res (Option D):=do
 let e1<-g.put d (aX own caps e)
 let c<-evE T cf cond e1
 let k<-c.truth
 if k then do let y<-evE T cf elt e1;.ok (some y)else .ok none
@[simp] theorem IZ{own:Nat}{caps:List Nat}{g:G}{elt src cond:E}:evE T cf (.comp own caps g elt src cond) e=(do
 let ds<-evI T cf src e
 let ys<-aY (aI T cf own caps g elt cond e) ds
 aC (decide (ds.length<=big)) (.ok (.lst ys))):=id rfl
@[simp] theorem evA_nil:evA T cf .anil e=.ok []:=id rfl
@[simp] theorem evA_cons{a r:E}:evA T cf (.acons a r) e=(do let x<-evE T cf a e;let q<-evA T cf r e;aC (decide (q.length<1000)) (.ok (x::q))):=id rfl
@[simp] theorem evI_seq{a:E}:evI T cf (.seq a) e=(do let x<-evE T cf a e;x.items):=id rfl
noncomputable def jS:D->Res (List D)
 |.int n=>aC (dZ n) (.ok (cL 0 n.toNat))
 |_=>.no
noncomputable def nZ:D->D->Res (List D)
 |.int n,.int m=>aC (dZ n&&dZ m) (.ok (cL n (m-n).toNat))
 |_,_=>.no
noncomputable def wF:D->Res (List D)
 |.lst ds=>.ok (dB 0 ds)
 |_=>.no
@[simp] theorem evI_rng{a:E}:evI T cf (.rng a) e=(do let x<-evE T cf a e;jS x):=by
 rw[Ap]
 cases evE T cf a e with
 |ok x=>cases x<;>rfl
 |err _ _=>rfl
 |no=>rfl
@[simp] theorem I_{a b:E}:evI T cf (.rng2 a b) e=(do let x<-evE T cf a e;match x with | .int _=>do let y<-evE T cf b e;nZ x y|_=>.no):=by
 rw[Aq]
 cases evE T cf a e with
 |ok x=>
  cases x<;>try rfl
  show(do let y<-evE T cf b e;_)=(do let y<-evE T cf b e;_)
  cases evE T cf b e with
  |ok y=>cases y<;>rfl
  |err _ _=>rfl
  |no=>rfl
 |err _ _=>rfl
 |no=>rfl
@[simp] theorem evI_enum{a:E}:evI T cf (.enum a) e=(do let x<-evE T cf a e;wF x):=by
 rw[Ar]
 cases evE T cf a e with
 |ok x=>cases x<;>rfl
 |err _ _=>rfl
 |no=>rfl
theorem lK{n:Nat}(h:n<4611686018427387904):jS (.int n)=.ok (cL 0 n):=by
 show aC (dZ n) _=_
 rw[bR (by unfold dZ;rw[decide_eq_true (by lia),decide_eq_true (by lia)];rfl)]
 simp
theorem Cy{n m:Nat}(h:n<4611686018427387904)(h2:m<4611686018427387904):nZ (.int n) (.int m)=.ok (cL n (m-n)):=by
 show aC (dZ n&&dZ m) _=_
 rw[bR (by unfold dZ;rw[decide_eq_true (by lia),decide_eq_true (by lia),decide_eq_true (by lia),decide_eq_true (by lia)];rfl)]
 congr 2
 lia
noncomputable def aM(T:Tab)(cf:Nat->List D->Res D)(g:G)(b:S)(d:D)(e0:Nv):Res Out:=do let e1<-g.put d e0;exS T cf b e1
noncomputable def qY(T:Tab)(cf:Nat->List D->Res D)(r:S):Out->Res Out
 |.nx e1=>exS T cf r e1
 |o=>.ok o
@[simp] theorem Ia{r:S}:qY T cf r (.nx e)=exS T cf r e:=id rfl
@[simp] theorem thenS_rr{r:S}{d:D}{a b:Nat}{j k:List (Sum Int Str×D)}:qY T cf r (.rr d a j b k)=.ok (.rr d a j b k):=id rfl
@[simp] theorem thenS_rt{r:S}{d:D}{k:Bool}:qY T cf r (.rt d k)=.ok (.rt d k):=id rfl
@[simp] theorem Ib:exS T cf .nil e=.ok (.nx e):=id rfl
@[simp] theorem Cz{a r:S}:exS T cf (.cons a r) e=(exS T cf a e>>=qY T cf r):=by
 rw[fP]
 cases exS T cf a e with
 |ok o=>cases o<;>rfl
 |err _ _=>rfl
 |no=>rfl
@[simp] theorem exS_ret{x:E}:exS T cf (.ret x) e=(do let d<-evE T cf x e;.ok (.rt d (bJ T x&&!jM d))):=id rfl
@[simp] theorem tupL_lst{a:List D}:jM (.lst a)=false:=id rfl
@[simp] theorem tupL_int{a:Int}:jM (.int a)=false:=id rfl
@[simp] theorem tupL_str{a:Str}:jM (.str a)=false:=id rfl
@[simp] theorem tupL_non:jM (.non)=false:=id rfl
@[simp] theorem exS_retO{i:Nat}:exS T cf (.retO i) e=(do let a<-(e.at i).ownA;.ok (.rt a (!a.isDct))):=id rfl
@[simp] theorem exS_newD{i:Nat}:exS T cf (.newD i) e=.ok (.nx (e.set i (.o (.dct [])))):=id rfl
@[simp] theorem Ie{g:G}{x:E}:exS T cf (.asg g x) e=(do let d<-evE T cf x e;let e1<-g.put d e;.ok (.nx e1)):=id rfl
noncomputable def setO(k:Bool)(i:Nat)(e:Nv):D->Res Out
 |.lst a=>aC k (.ok (.nx (e.set i (.o (.lst a)))))
 |.dct a=>aC k (.ok (.nx (e.set i (.o (.dct a)))))
 |.tdc a=>aC k (.ok (.nx (e.set i (.o (.tdc a)))))
 |_=>.no
@[simp] theorem setO_ok{i:Nat}{a:List D}:setO true i e (.lst a)=.ok (.nx (e.set i (.o (.lst a)))):=id rfl
@[simp] theorem exS_asgO{i:Nat}{x:E}:exS T cf (.asgO i x) e=(do let d<-evE T cf x e;setO (bJ T x) i e d):=by
 rw[pP]
 cases evE T cf x e with
 |ok o=>cases o<;>rfl
 |err _ _=>rfl
 |no=>rfl
@[simp] theorem exS_sealed{i:Nat}:exS T cf (.sealed i) e=(do let a<-(e.at i).ownA;.ok (.nx (e.set i (.v a)))):=id rfl
@[simp] theorem exS_ite{c:E}{a b:S}:exS T cf (.ite c a b) e=(do let x<-evE T cf c e;let k<-x.truth;if k then exS T cf a e else exS T cf b e):=id rfl
@[simp] theorem any_r{a:Nat}{d:D}:(Sl.r a d).any=.ok d:=id rfl
@[simp] theorem refD_r{a:Nat}{k:List (Sum Int Str×D)}:(Sl.r a (.dct k)).refD=.ok (a,k):=id rfl
@[simp] theorem givD_r{a:Nat}{k:List (Sum Int Str×D)}:(Sl.r a (.dct k)).givD=.ok k:=id rfl
@[simp] theorem givD_o{k:List (Sum Int Str×D)}:(Sl.o (.dct k)).givD=.ok k:=id rfl
@[simp] theorem giv_r{a:Nat}{d x:D}:(Sl.r a d).giv x=.r a x:=id rfl
@[simp] theorem giv_o{d x:D}:(Sl.o d).giv x=.o x:=id rfl
@[simp] theorem exS_dputR{i:Nat}{k x:E}:exS T cf (.dputR i k x) e=(do
 let d<-evE T cf x e
 let a<-(e.at i).refD
 let y<-evE T cf k e
 let key<-Res.of (dA y)
 aC (decide (a.2.length<big)) (.ok (.nx (e.set i (.r a.1 (.dct (dG a.2 key d))))))):=id rfl
@[simp] theorem exS_retR{x:E}{i j:Nat}:exS T cf (.retR x i j) e=(do
 let d<-evE T cf x e
 let a<-(e.at i).refD
 let b<-(e.at j).refD
 .ok (.rr d a.1 a.2 b.1 b.2)):=id rfl
theorem ifR_t{c:E}{f:Nat}{x:E}{i j:Nat}{y:E}{a b:S}{z:D}(hm:T.mv f=some 1000)(ij:i≠j)(h:evE T cf c e=.ok z)(hz:z.truth=.ok true):exS T cf (.ifR false c f x i j y a b) e=exS T cf a e:=by
 rw[lG,bR (by rw[decide_eq_true hm,decide_eq_true ij];rfl),if_neg aO,h,Res.ok_bind,hz,Res.ok_bind,if_pos rfl]
theorem DA{neg:Bool}{c:E}{f:Nat}{x:E}{i j:Nat}{y:E}{a b:S}{z d1 d2 r:D}{g h g' h':List (Sum Int Str×D)}{k:Bool}(hm:T.mv f=some 1000)(ij:i≠j)(h0:neg=true\/(evE T cf c e=.ok z/\z.truth=.ok false))(h1:evE T cf x e=.ok d1)(h2:(e.at i).givD=.ok g)(h3:(e.at j).givD=.ok h)(h4:evE T cf y e=.ok d2)
 (h5:fO cf f d1 g h d2=.ok (r,g',h')) (h6:r.truth=.ok k):exS T cf (.ifR neg c f x i j y a b) e=if(k != neg)=true then exS T cf a ((e.set i ((e.at i).giv (.dct g'))).set j ((e.at j).giv (.dct h')))else exS T cf b ((e.set i ((e.at i).giv (.dct g'))).set j ((e.at j).giv (.dct h'))):=by
 rw[lG,bR (by rw[decide_eq_true hm,decide_eq_true ij];rfl)]
 have e0:(if neg=true then Res.ok false else do let z<-evE T cf c e;z.truth)=.ok false:=by
  rcases h0 with h0|⟨h0,h0'⟩
  ·rw[if_pos h0]
  ·cases neg with
   |true=>rfl
   |false=>rw[if_neg aO,h0,Res.ok_bind,h0']
 rw[e0,Res.ok_bind,if_neg aO,h1,Res.ok_bind,h2,Res.ok_bind,h3,Res.ok_bind,h4,Res.ok_bind,h5,Res.ok_bind,h6,Res.ok_bind]
@[simp] theorem exS_for{g:G}{src:E}{b:S}:exS T cf (.forS g src b) e=(do let ds<-evI T cf src e;aP (aM T cf g b) ds e):=id rfl
@[simp] theorem exS_app{i:Nat}{x:E}:exS T cf (.app i x) e=(do
 let d<-evE T cf x e
 let a<-(e.at i).own
 aC (decide (a.length<big)) (.ok (.nx (e.set i (.o (.lst (a++[d]))))))):=id rfl
noncomputable def extO(k:Bool)(i:Nat)(e:Nv):D->Res Out
 |.lst b=>do
  let a<-(e.at i).own
  aC (k&&decide (a.length+b.length<=big)) (.ok (.nx (e.set i (.o (.lst (a++b))))))
 |_=>.no
@[simp] theorem Ig{k:Bool}{i:Nat}{b:List D}:extO k i e (.lst b)=(do
 let a<-(e.at i).own
 aC (k&&decide (a.length+b.length<=big)) (.ok (.nx (e.set i (.o (.lst (a++b))))))):=id rfl
@[simp] theorem Ih{i:Nat}{x:E}:exS T cf (.ext i x) e=(do let d<-evE T cf x e;extO (bJ T x) i e d):=by
 rw[Aw]
 cases evE T cf x e with
 |ok o=>cases o<;>rfl
 |err _ _=>rfl
 |no=>rfl
@[simp] theorem exS_never:exS T cf .never e=.no:=id rfl
@[simp] theorem exS_exp{x:E}:exS T cf (.exp x) e=(do let _<-evE T cf x e;.ok (.nx e)):=id rfl
@[simp] theorem fresh_lst{a:E}:bJ T (.lst a)=true:=id rfl
@[simp] theorem fresh_add{a b:E}:bJ T (.bin .Add a b)=true:=id rfl
@[simp] theorem Ij{n:Nat}{c:List Nat}{g:G}{x y z:E}:bJ T (.comp n c g x y z)=true:=id rfl
@[simp] theorem fresh_call{f:Nat}{a:E}:bJ T (.call f a)=T.fresh f:=id rfl
end
@[simp] theorem when_if{α:Type}{c:Bool}(h:c=true)(r:Res α):aC c r=r:=bR h r
@[simp] theorem Ik{x:Sl}{r:List Sl}:Nv.at (x::r) 0=x:=id rfl
@[simp] theorem Il{x:Sl}{r:List Sl}{i:Nat}:Nv.at (x::r) (i+1)=Nv.at r i:=id rfl
@[simp] theorem val_v{d:D}:(Sl.v d).val=.ok d:=id rfl
@[simp] theorem any_o{d:D}:(Sl.o d).any=.ok d:=id rfl
@[simp] theorem own_o{a:List D}:(Sl.o (.lst a)).own=.ok a:=id rfl
@[simp] theorem ownA_o{d:D}:(Sl.o d).ownA=.ok d:=id rfl
@[simp] theorem qZ{i:Int}:Res.of (dA (.int i))=.ok (.inl i):=id rfl
@[simp] theorem isDct_lst{i:List D}:(D.lst i).isDct=false:=id rfl
theorem rA{k:D}{kvs:List (Sum Int Str×D)}:D.ix (.dct kvs) k=(do let q<-Res.of (dA k);Res.of (bE kvs q)):=by cases k<;>rfl
@[simp] theorem Im{i:Nat}{d:D}{e:Nv}:G.put (.one i) d e=.ok (e.set i (.v d)):=id rfl
@[simp] theorem put_many{is:List Nat}{ds:List D}{e:Nv}:G.put (.many is) (.tup ds) e=cS is ds e:=id rfl
@[simp] theorem puts_nil{e:Nv}:cS [] [] e=.ok e:=id rfl
@[simp] theorem puts_cons{i:Nat}{is:List Nat}{d:D}{ds:List D}{e:Nv}:cS (i::is) (d::ds) e=cS is ds (e.set i (.v d)):=id rfl
@[simp] theorem truth_bl{b:Bool}:(D.bl b).truth=.ok b:=id rfl
@[simp] theorem Io{i j:Int}:D.bin .Add (.int i) (.int j)=.ok (.int (i+j)):=id rfl
@[simp] theorem bin_mulL{i j:Int}(h:-(2^64)<i/\i<2^64):D.bin .Mult (.int i) (.int j)=.ok (.int (i*j)):=by
 show aC (dN i||dN j) _=_
 rw[bR]
 unfold dN
 rw[decide_eq_true h.1,decide_eq_true h.2];rfl
@[simp] theorem Ip{i j:Int}(h:0<j):D.bin .Mod (.int i) (.int j)=.ok (.int (i%j)):=by
 show aC (decide (0<j)) _=_
 rw[bR (decide_eq_true h)]
@[simp] theorem bin_fdiv{i j:Int}(h:0<j/\j<1073741824):D.bin .FloorDiv (.int i) (.int j)=.ok (.int (i/j)):=by
 show aC (decide (0<j)&&decide (j<1073741824)) _=_
 rw[bR]
 rw[decide_eq_true h.1,decide_eq_true h.2];rfl
theorem Iq{i j:Int}(h:0<=j/\j<=1000000/\i.natAbs<2^64):D.bin .Pow (.int i) (.int j)=.ok (.int (i^j.toNat)):=by
 show aC (decide (0<=j)&&decide (j<=1000000)&&decide (i.natAbs<2^64)) _=_
 rw[bR]
 rw[decide_eq_true h.1,decide_eq_true h.2.1,decide_eq_true h.2.2];rfl
@[simp] theorem bin_pow9:D.bin .Pow (.int 10) (.int 9)=.ok (.int 1000000000):=Iq ⟨by decide,by decide,by decide⟩
@[simp] theorem cmp_lt{i j:Int}:D.cmp .Lt (.int i) (.int j)=.ok (.bl (decide (i<j))):=id rfl
@[simp] theorem cmp_eqi{i j:Int}:D.cmp .Eq (.int i) (.int j)=.ok (.bl (i==j)):=id rfl
@[simp] theorem cmp_is{a:D}:D.cmp .Is a .non=.ok (.bl a.isNon):=id rfl
@[simp] theorem cmp_isnot{a:D}:D.cmp .IsNot a .non=.ok (.bl (!a.isNon)):=id rfl
@[simp] theorem isNon_non:D.non.isNon=true:=id rfl
@[simp] theorem isNon_int{i:Int}:(D.int i).isNon=false:=id rfl
@[simp] theorem run_len_l{a:List D}:Bt.run .len [.lst a]=.ok (.int a.length):=id rfl
@[simp] theorem run_len_t{a:List D}:Bt.run .len [.tup a]=.ok (.int a.length):=id rfl
@[simp] theorem run_tup_l{a:List D}:Bt.run .tuple [.lst a]=.ok (.tup a):=id rfl
@[simp] theorem run_int_b{b:Bool}:Bt.run .int [.bl b]=.ok (.int (b2z b)):=id rfl
theorem DB:∀ns:List Int,cN (ns.map D.int)=.ok ns
 |[]=>rfl
 |i::r=>by rw[aK,cN,DB r];rfl
@[simp] theorem Ir{ns:List Int}:Bt.run .sum [.lst (ns.map D.int)]=.ok (.int ns.sum):=by
 show(do let q<-cN (ns.map D.int);.ok (D.int q.sum))=_
 rw[DB];rfl
@[simp] theorem L7{α:Type}{f:α->Int}{xs:List α}:Bt.run .sum [.lst (xs.map (D.int∘f))]=.ok (.int (xs.map f).sum):=by rw[<-cB,Ir]
@[simp] theorem part_int{i:Int}:(D.int i).part=.ok (some i):=id rfl
@[simp] theorem part_non:D.non.part=.ok none:=id rfl
@[simp] theorem sl_l{a:List D}{lo hi:Option Int}:D.sl (.lst a) lo hi=.ok (.lst (cut a lo hi)):=id rfl
@[simp] theorem sl_t{a:List D}{lo hi:Option Int}:D.sl (.tup a) lo hi=.ok (.tup (cut a lo hi)):=id rfl
@[simp] theorem items_l{a:List D}:(D.lst a).items=.ok a:=id rfl
@[simp] theorem items_t{a:List D}:(D.tup a).items=.ok a:=id rfl
theorem iY{a:List D}{i:Nat}{d:D}(h:a[i]?=some d):D.ix (.lst a) (.int i)=.ok d:=by
 have hi:=(gC.mp h).1
 show Res.of (atI a i)=_
 unfold atI ixN
 rw[if_pos (Eh i),if_pos (by lia)]
 simp[h,Res.of]
theorem iC{a:List D}{i:Nat}{d:D}(h:a[i]?=some d):D.ix (.tup a) (.int i)=.ok d:=by
 have hi:=(gC.mp h).1
 show Res.of (atI a i)=_
 unfold atI ixN
 rw[if_pos (Eh i),if_pos (by lia)]
 simp[h,Res.of]
theorem bP{T:Tab}{D:List Df}{n f:Nat}{ds:List Tr.D}{d:Df}{x:Tr.D}{k:Bool}(h:D[f]?=some d)(hl:ds.length=d.pars)(hk:(k||!T.fresh f)=true)
 (he:exS T (aB T D n) d.body (ds.map Sl.v++aU (d.names-d.pars) Sl.no)=.ok (.rt x k)) (ht:d.told=none:=by rfl) (hm:T.mv f=none:=by rfl):aB T D (n+1) f ds=.ok x:=by
 rw[lF,h]
 show aC (ds.length==d.pars) _=_
 rw[bR (by simpa using hl),ht,hm,show dP none ds=ds.map Sl.v from rfl]
 dsimp only
 rw[if_neg (λz=>by cases z)]
 cases hx:exX T (aB T D n) d.body (ds.map Sl.v++aU (d.names-d.pars) Sl.no)with
 |some z=>exact absurd he (BA hx _)
 |none=>
  dsimp only
  rw[he]
  show aC (k||!T.fresh f) _=_
  rw[bR hk]
theorem Iu{T:Tab}{D:List Df}{n f:Nat}{ds:List Tr.D}{d:Df}{e:Nv}(h:D[f]?=some d)(hl:ds.length=d.pars)(hk:T.fresh f=false)
 (he:exS T (aB T D n) d.body (ds.map Sl.v++aU (d.names-d.pars) Sl.no)=.ok (.nx e)) (ht:d.told=none:=by rfl) (hm:T.mv f=none:=by rfl):aB T D (n+1) f ds=.ok .non:=by
 rw[lF,h]
 show aC (ds.length==d.pars) _=_
 rw[bR (by simpa using hl),ht,hm,show dP none ds=ds.map Sl.v from rfl]
 dsimp only
 rw[if_neg (λz=>by cases z)]
 cases hx:exX T (aB T D n) d.body (ds.map Sl.v++aU (d.names-d.pars) Sl.no)with
 |some z=>exact absurd he (BA hx _)
 |none=>
  dsimp only
  rw[he]
  show aC (!T.fresh f) _=_
  rw[hk];rfl
theorem Iv{T:Tab}{D:List Df}{n f a b:Nat}{x y r:Tr.D}{j k j' k':List (Sum Int Str×Tr.D)}{d:Df}(hm:T.mv f=some 1000)(h:D[f]?=some d)(hl:4=d.pars)
 (he:exS T (aB T D n) d.body ([.v x,.r a (.dct j),.r b (.dct k),.v y]++aU (d.names-d.pars) Sl.no)=.ok (.rr r a j' b k')) (ht:d.told=none:=by rfl) :
 aB T D (n+1) f [x,.tup [.int a,.dct j],.tup [.int b,.dct k],y]=.ok (.tup [r,.dct j',.dct k']):=by
 rw[lF,h]
 show aC (4==d.pars) _=_
 rw[bR (by simpa using hl),ht]
 dsimp only
 rw[if_pos hm]
 show(match exS T (aB T D n) d.body ([.v x,.r a (.dct j),.r b (.dct k),.v y]++aU (d.names-d.pars) Sl.no)with
  |.ok (.rr x a1 j b1 k)=>aC (a1==a&&b1==b) (Res.ok (Tr.D.tup [x,.dct j,.dct k]))
  |_=>.no)=_
 rw[he]
 show aC (a==a&&b==b) _=_
 rw[bR (by simp)]
@[simp] theorem ix_t0{a:D}{r:List D}:D.ix (.tup (a::r)) (.int 0)=.ok a:=iC (i:=0) rfl
@[simp] theorem wG{a b:D}{r:List D}:D.ix (.tup (a::b::r)) (.int 1)=.ok b:=iC (i:=1) rfl
@[simp] theorem DC{a b c:D}{r:List D}:D.ix (.tup (a::b::c::r)) (.int 2)=.ok c:=iC (i:=2) rfl
@[simp] theorem DD{a b c d:D}{r:List D}:D.ix (.tup (a::b::c::d::r)) (.int 3)=.ok d:=iC (i:=3) rfl
@[simp] theorem ix_t4{a b c d e:D}{r:List D}:D.ix (.tup (a::b::c::d::e::r)) (.int 4)=.ok e:=iC (i:=4) rfl
@[simp] theorem ix_l0{a:D}{r:List D}:D.ix (.lst (a::r)) (.int 0)=.ok a:=iY (i:=0) rfl
@[simp] theorem ix_l1{a b:D}{r:List D}:D.ix (.lst (a::b::r)) (.int 1)=.ok b:=iY (i:=1) rfl
theorem rC{f:D->Nv->Res Out}{e:Nv}:aP f [] e=.ok (.nx e):=rfl
theorem dJ{f:D->Nv->Res Out}{d:D}{r:List D}{e e1:Nv}(h:f d e=.ok (.nx e1)):aP f (d::r) e=aP f r e1:=by rw[aP,h];rfl
theorem DE{f:D->Nv->Res Out}{d:D}{r:List D}{e e1:Nv}(h:f d e=.ok (.ct e1)):aP f (d::r) e=aP f r e1:=by rw[aP,h];rfl
theorem DF{f:D->Nv->Res Out}{d:D}{r:List D}{e:Nv}{x:D}{a b:Nat}{j k:List (Sum Int Str×D)}(h:f d e=.ok (.rr x a j b k)):aP f (d::r) e=.ok (.rr x a j b k):=by rw[aP,h];rfl
theorem wH{f:D->Nv->Res Out}{d:D}{r:List D}{e:Nv}{x:D}{k:Bool}(h:f d e=.ok (.rt x k)):aP f (d::r) e=.ok (.rt x k):=by rw[aP,h];rfl
theorem DG{f:D->Nv->Res Out}(I:Nat->Nv->Prop):∀(ds:List D)(e:Nv)(j:Nat),I j e->(∀i d e,ds[i]?=some d->I (j+i) e->∃e',(f d e=.ok (.nx e')\/f d e=.ok (.ct e'))/\I (j+i+1) e')->∃e',aP f ds e=.ok (.nx e')/\I (j+ds.length) e'
 |[],e,j,h,_=>⟨e,rfl,h⟩
 |d::r,e,j,h,st=>by
  obtain⟨e1,h1,h2⟩:=st 0 d e rfl h
  obtain⟨e2,h3,h4⟩:=DG I r e1 (j+1) h2 λi d' e' hd hI=>by
   have:=st (i+1) d' e' (by simpa using hd) (by rw[show j+(i+1)=j+1+i by lia];exact hI)
   rw[show j+(i+1)+1=j+1+i+1 by lia]at this
   exact this
  refine⟨e2,?_,by rw[aW,show j+(r.length+1)=j+1+r.length by lia];exact h4⟩
  rcases h1 with h1|h1
  ·rw[dJ h1,h3]
  ·rw[DE h1,h3]
theorem iZ:∀(lo:Int)(n:Nat),cL lo n=(aD n).map λi=>.int (lo+(i:Int))
 |lo,0=>rfl
 |lo,n+1=>by
  rw[cL,iZ (lo+1) n,zN,aK,cB]
  congr 1
  ·simp
  ·apply iK
   intro i _
   simp only[Function.comp]
   congr 1
   push_cast
   lia
@[simp] theorem L8{lo:Int}{n:Nat}:(cL lo n).length=n:=by rw[iZ];simp
@[simp] theorem Iw:∀{k:Int} {ds:List D},(dB k ds).length=ds.length
 |k,[]=>rfl
 |k,x::r=>by rw[dB,aW,aW,Iw]
end Tr
set_option maxRecDepth 100000
namespace Tr
open PySem
noncomputable def dR(ns:List Int)(k:Nat):Int:=ns.getD k 0
noncomputable def minV(n:Int):Int:=([0,n/5%7,n/5%31,n/5%400,n*n%1000000000]:List Int).getD (n%5).toNat 0
set_option genInjectivity false in
structure Part where
 name:Str
 voice:Str
 off:Int
 on:Int
noncomputable def Part.enc(p:Part):D:=.tup [.str p.name,.str p.voice,.int p.off,.int p.on]
structure Scene where
 name:Str
 len:Int
 pause:Int
 who:List Nat
noncomputable def aA(ws:List Nat):List D:=ws.map λ(i:Nat)=>D.int (i:Int)
noncomputable def Scene.enc(s:Scene):D:=.tup [.str s.name,.int s.len,.int s.pause,.tup (aA s.who)]
theorem ix_str{x:Str}{i:Nat}(h:i<x.cps.size)(hb:x.length<=big):∃y:Str,D.ix (.str x) (.int i)=.ok (.str y)/\y.length=1:=by
 refine⟨⟨#[x.cps[i]]⟩,?_,rfl⟩
 show aC (decide (x.length<=big)) (Res.of ((atI x.cps.toList i).map λc=>D.str ⟨#[c]⟩))=_
 rw[bR (decide_eq_true hb)]
 unfold atI ixN
 rw[if_pos (Eh i),if_pos (by simp;lia)]
 simp[h,Res.of]
@[simp] theorem add_str{x y:Str}(h:x.length+y.length<=big):D.bin .Add (.str x) (.str y)=.ok (.str (x++y)):=by
 show aC (decide (x.length+y.length<=big)) _=_
 rw[bR (decide_eq_true h)]
theorem bN:(1000:Nat)<big:=by decide
set_option genInjectivity false in
structure GoodScene(many:Nat)(s:Scene):Prop where
 len:0<=s.len
 pause:0<=s.pause
 nd:s.who.Nodup
 lt:∀i∈s.who,i<many
theorem fW(ws:List Nat):(aA ws).length=ws.length:=by unfold aA;simp
theorem oA(i:Nat):∀ws:List Nat,D.mem (.int i) (aA ws)=decide (i∈ws)
 |[]=>rfl
 |w::r=>by
  show(D.eqb (.int w) (.int i)||D.mem (.int i) (aA r))=_
  rw[oA i r]
  have:D.eqb (.int w) (.int i)=decide (i=w):=by
   show((w:Int)==(i:Int))=_
   by_cases h:i=w
   ·subst h;simp
   ·rw[decide_eq_false h];simp;lia
  rw[this]
  by_cases h1:i=w<;>by_cases h2:i∈r<;>simp[h1,h2]
theorem kK(k:Nat):∀ws:List Nat,D.pls (k+1) (aA ws)=true
 |[]=>rfl
 |w::r=>by
  show(D.pl k (.int w)&&D.pls (k+1) (aA r))=true
  rw[kK k r];cases k<;>rfl
@[simp] theorem Iy{i:Nat}{ws:List Nat}:D.cmp .In (.int i) (.tup (aA ws))=.ok (.bl (decide (i∈ws))):=by
 show(do let k<-D.inn (.int i) (.tup (aA ws));.ok (D.bl k))=_
 show(do let k<-aC (D.pls 30 (aA ws)&&D.pl 29 (.int i)) (.ok (D.mem (.int i) (aA ws)));.ok (D.bl k))=_
 rw[kK,oA];rfl
theorem rD{α:Type}(f:α->D)(k:Nat)(h:∀a,D.pl k (f a)=true):∀xs:List α,D.pls (k+1) (xs.map f)=true
 |[]=>rfl
 |a::r=>by rw[aK,D.pls,h a,rD f k h r];rfl
@[simp] theorem rE{n:Nat}{a:List D}:D.pl n (.tup a)=D.pls n a:=id rfl
@[simp] theorem DH{n:Nat}{a:List D}:D.pl n (.lst a)=D.pls n a:=id rfl
theorem rF{a:D}(h:D.pl 30 a=true):D.cmp .NotEq a a=.ok (.bl false):=by
 show aC (D.eqOk a a) (.ok (D.bl (!D.eqb a a)))=_
 rw[D.eqb_refl 30 a h,bR (by unfold D.eqOk;rw[h];rfl)];rfl
noncomputable def Scene.both(s:Scene):Int:=s.len+s.pause
noncomputable def eE(ss:List Scene)(s t:Nat):Int:=((ss[s]?).map Scene.pause).getD 0+(((ss.drop (s+1)).take (t-(s+1))).map Scene.both).sum
theorem Iz(ss:List Scene)(s:Nat):eE ss s (s+1)=((ss[s]?).map Scene.pause).getD 0:=by unfold eE;simp
theorem take_add_one{α:Type}(l:List α)(n:Nat)(a:α)(h:l[n]?=some a):l.take (n+1)=l.take n++[a]:=by
 rw[List.take_add_one,h];rfl
theorem JA{ss:List Scene}{s t:Nat}{x:Scene}(h:s<t)(hx:ss[t]?=some x):eE ss s (t+1)=eE ss s t+x.both:=by
 unfold eE
 have e:(ss.drop (s+1))[t-(s+1)]?=some x:=by rw[List.getElem?_drop,show s+1+(t-(s+1))=t by lia];exact hx
 rw[show t+1-(s+1)=t-(s+1)+1 by lia,take_add_one _ _ _ e,fM,LQ]
 simp
 lia
theorem cut_nn{α:Type}{xs:List α}{a b:Nat}(ha:a<=xs.length)(hb:b<=xs.length):cut xs (some (a:Int)) (some (b:Int))=(xs.drop a).take (b-a):=by
 unfold cut sIx
 simp only[]
 rw[if_neg (by lia),if_neg (by lia),kY,kY,mJ ha,mJ hb]
theorem wI{ss:List Scene}{s:Nat}{x:Scene}(h:ss[s]?=some x):D.ix (.tup (ss.map Scene.enc)) (.int s)=.ok x.enc:=iC (by rw[bT,h];rfl)
theorem wJ{ss:List Part}{s:Nat}{x:Part}(h:ss[s]?=some x):D.ix (.tup (ss.map Part.enc)) (.int s)=.ok x.enc:=iC (by rw[bT,h];rfl)
@[simp] theorem enc1{s:Scene}:D.ix s.enc (.int 1)=.ok (.int s.len):=wG
@[simp] theorem enc2{s:Scene}:D.ix s.enc (.int 2)=.ok (.int s.pause):=DC
@[simp] theorem enc3{s:Scene}:D.ix s.enc (.int 3)=.ok (.tup (aA s.who)):=DD
@[simp] theorem penc2{s:Part}:D.ix s.enc (.int 2)=.ok (.int s.off):=DC
@[simp] theorem penc3{s:Part}:D.ix s.enc (.int 3)=.ok (.int s.on):=DD
end Tr
set_option maxRecDepth 100000
namespace Tr
open PySem
noncomputable def aG(t:Nat):D:=.int (t:Int)
theorem DI(lo n:Nat):cL (lo:Int) n=(cW lo n).map aG:=by
 rw[iZ,List.range'_eq_map_range,cB]
 apply iK
 intro i _
 simp[aG]
theorem iD{n:Nat}(h:n<=1000):jS (.int (n:Int))=.ok ((aD n).map aG):=by
 rw[lK (by lia),iZ]
 congr 1
 apply iK
 intro i _
 simp[aG]
theorem DJ{s m:Nat}(h:s<=1000)(h2:m<=1000):nZ (.int ((s:Int)+1)) (.int (m:Int))=.ok ((cW (s+1) (m-(s+1))).map aG):=by
 have:nZ (.int ((s+1:Nat):Int)) (.int (m:Int))=_:=Cy (by lia) (by lia)
 rw[DI]at this
 exact this
theorem JB{f:D->Nv->Res Out}(I:Nv->Prop)(g:Nat->Option (D×Bool))(ts:List Nat)(e:Nv)(h:I e)
 (st:∀t∈ts,∀e,I e->match g t with|some (x,k)=>f (aG t) e=.ok (.rt x k)|none=>∃e',(f (aG t) e=.ok (.nx e')\/f (aG t) e=.ok (.ct e'))/\I e') :
 match ts.findSome? g with|some (x,k)=>aP f (ts.map aG) e=.ok (.rt x k)|none=>∃e',aP f (ts.map aG) e=.ok (.nx e')/\I e':=by
 induction ts generalizing e with
 |nil=>exact⟨e,rfl,h⟩
 |cons t r ih=>
  have h1:=st t bC e h
  rw[zT,aK]
  cases hg:g t with
  |some y=>
   rw[hg]at h1
   exact wH h1
  |none=>
   rw[hg]at h1
   obtain⟨e',h2,h3⟩:=h1
   have eq:aP f (aG t::r.map aG) e=aP f (r.map aG) e':=by
    rcases h2 with h2|h2
    ·exact dJ h2
    ·exact DE h2
   rw[eq]
   exact ih e' h3 λd' hd=>st d' (aR _ hd)
theorem DK{α β γ:Type}(h:α->Option β)(F:β->γ):∀l:List α,l.findSome? (λt=>(h t).map F)=(l.findSome? h).map F
 |[]=>rfl
 |a::r=>by
  rw[zT,zT]
  cases e:h a with
  |none=>simp[DK h F r]
  |some b=>rfl
inductive Rz where
 |sc (s:Nat)|ch (s t:Nat) (have_ need:Int)
noncomputable def Rz.enc:Rz->D
 |.sc s=>.tup [.str "scene", .int s]
 |.ch s t h n=>.tup [.str "change", .int s,.int t,.int h,.int n]
noncomputable def iE:Option Rz->D
 |none=>.non
 |some r=>r.enc
@[simp] theorem isNon_optR{o:Option Rz}:(iE o).isNon=o.isNone:=by
 cases o with
 |none=>rfl
 |some r=>cases r<;>rfl
noncomputable def cT(ss:List Scene)(t:Nat):List Nat:=((ss[t]?).map Scene.who).getD []
noncomputable def fX(ps:List Part)(i j:Nat):Int:=((ps[i]?).map Part.off).getD 0+((ps[j]?).map Part.on).getD 0
noncomputable def lL(ps:List Part)(ss:List Scene)(s one other t:Nat):Option Rz:=
 if other∈cT ss t/\eE ss s t<fX ps one other then some (.ch s t (eE ss s t) (fX ps one other))else none
noncomputable def jA(ps:List Part)(ss:List Scene)(s one other:Nat):Option Rz:=(cW (s+1) (ss.length-(s+1))).findSome? (lL ps ss s one other)
noncomputable def jB(ps:List Part)(ss:List Scene)(i j s:Nat):Option Rz:=
 if i∈cT ss s/\j∈cT ss s then some (.sc s)else if i∈cT ss s then jA ps ss s i j else if j∈cT ss s then jA ps ss s j i else none
noncomputable def dS(ps:List Part)(ss:List Scene)(i j:Nat):Option Rz:=(aD ss.length).findSome? (jB ps ss i j)
noncomputable def gO(ss:List Scene)(k:Nat):Int:=((ss.take k).map Scene.both).sum
theorem DL{ss:List Scene}{k:Nat}{x:Scene}(h:ss[k]?=some x):gO ss (k+1)=gO ss k+x.both:=by
 unfold gO
 rw[take_add_one _ _ _ h,fM,LQ]
 simp
theorem DM{ss:List Scene}{s:Nat}{x:Scene}(hx:ss[s]?=some x):∀{t:Nat},s<t->t<=ss.length->gO ss t-gO ss s-x.len=eE ss s t:=by
 intro t
 induction t with
 |zero=>intro h;lia
 |succ t ih=>
  intro h1 h2
  by_cases hs:s=t
  ·subst hs
   rw[DL hx,Iz,hx]
   simp[Scene.both]
   lia
  ·have hy:=bD (l:=ss) (i:=t) (by lia)
   rw[DL hy,JA (by lia) hy,<-ih (by lia) (by lia)]
   lia
theorem rG{ss:List Scene}{s:Nat}(h:s<ss.length):cT ss s=ss[s].who:=by unfold cT;rw[bD h];rfl
theorem JC{ps:List Part}{i j:Nat}(h:i<ps.length)(h2:j<ps.length):fX ps i j=ps[i].off+ps[j].on:=by unfold fX;rw[bD h,bD h2];rfl
noncomputable def Rz.out(r:Rz):D×Bool:=(r.enc,false)
theorem DN{f:D->Nv->Res Out}{I:Nv->Prop}{g:Nat->Option Rz}{ts:List Nat}{e:Nv}(h:I e)
 (st:∀t∈ts,∀e,I e->match g t with|some r=>f (aG t) e=.ok (.rt r.enc false)|none=>∃e',f (aG t) e=.ok (.nx e')/\I e') :
 match ts.findSome? g with|some r=>aP f (ts.map aG) e=.ok (.rt r.enc false)|none=>∃e',aP f (ts.map aG) e=.ok (.nx e')/\I e':=by
 have:=JB (f:=f) I (λt=>(g t).map Rz.out) ts e h (by
  intro t ht e he
  have:=st t ht e he
  cases hg:g t with
  |none=>rw[hg]at this;obtain⟨e',h1,h2⟩:=this;exact⟨e',.inl h1,h2⟩
  |some r=>rw[hg]at this;exact this)
 rw[DK]at this
 cases hg:ts.findSome? g with
 |none=>rw[hg]at this;exact this
 |some r=>rw[hg]at this;exact this
end Tr
set_option maxRecDepth 100000
namespace Tr
open PySem
theorem DO(k j:Sum Int Str)(y:D):∀kvs:List (Sum Int Str×D),bE (kvs.map λkv=>if kv.1=k then(kv.1,y)else kv) j=(bE kvs j).map λx=>if j=k then y else x
 |[]=>rfl
 |(k',d)::r=>by
  have ih:=DO k j y r
  rw[aK]
  unfold bE at ih⊢
  by_cases h1:k'=k<;>by_cases h2:k'=j
  ·subst h1;subst h2;simp[cH]
  ·rw[if_pos h1]
   simp only[cH,h2,decide_false,ih]
  ·have h3:j≠k:=λz=>h1 (h2.trans z)
   rw[if_neg h1]
   simp[cH,h2,h3]
  ·rw[if_neg h1]
   simp only[cH,h2,decide_false,ih]
theorem DP(k:Sum Int Str):∀kvs:List (Sum Int Str×D),(kvs.any λkv=>decide (kv.1=k))=(bE kvs k).isSome
 |[]=>rfl
 |(k',d)::r=>by
  have ih:=DP k r
  unfold bE at ih⊢
  by_cases h:k'=k
  ·simp[cH,h]
  ·simp only[kA,cH,h,decide_false,oV,ih]
theorem DQ(k j:Sum Int Str)(y:D):∀kvs:List (Sum Int Str×D),bE kvs k=none->bE (kvs++[(k,y)]) j=if j=k then some y else bE kvs j
 |[],_=>by
  by_cases h:k=j
  ·subst h;simp[bE,cH]
  ·have h':¬j=k:=λz=>h z.symm
   simp[bE,cH,h,h']
 |(k',d)::r,hn=>by
  have hk:¬k'=k:=λz=>by subst z;simp[bE,cH]at hn
  have hn':bE r k=none:=by simpa[bE,cH,hk]using hn
  have ih:=DQ k j y r hn'
  unfold bE at ih⊢
  by_cases h:k'=j
  ·have h':¬j=k:=λz=>hk (h.trans z)
   simp[cH,h,h']
  ·simp only[LR,cH,h,decide_false,ih]
theorem wK(kvs:List (Sum Int Str×D))(k j:Sum Int Str)(y:D):bE (dG kvs k y) j=if j=k then some y else bE kvs j:=by
 unfold dG
 rw[DP]
 cases h:bE kvs k with
 |none=>
  rw[if_neg (by simp)]
  exact DQ k j y kvs h
 |some x=>
  rw[if_pos (by simp),DO]
  by_cases e:j=k
  ·subst e;rw[h];simp
  ·rw[if_neg e]
   cases bE kvs j<;>simp[e]
theorem cJ{α:Type}{f:D->Res (Option D)}(enc:α->D)(g:α->Option D):∀{xs:List α},(∀a∈xs,f (enc a)=.ok (g a))->aY f (xs.map enc)=.ok (xs.filterMap g)
 |[],_=>rfl
 |a::r,h=>by
  rw[aK,aY,h a bC,Res.ok_bind,cJ enc g λx hx=>h x (aR _ hx),Res.ok_bind,gT]
  cases g a<;>rfl
theorem DR{α:Type}{f:D->Res (Option D)}(enc:α->D)(p:α->Bool){xs:List α}(h:∀a∈xs,f (enc a)=.ok (if p a=true then some (enc a)else none)):aY f (xs.map enc)=.ok ((xs.filter p).map enc):=by
 rw[cJ enc (λa=>if p a=true then some (enc a)else none) h]
 congr 1
 induction xs with
 |nil=>rfl
 |cons a r ih=>
  rw[gT,gX,ih λx hx=>h x (aR _ hx)]
  cases p a<;>rfl
noncomputable def fB(p:Nat×Nat):D:=.tup [.int p.1,.int p.2]
noncomputable def jC(many i:Nat):List (Nat×Nat):=(cW (i+1) (many-(i+1))).map λj=>(i,j)
noncomputable def fY(many:Nat):Nat->List (Nat×Nat)
 |0=>[]
 |k+1=>fY many k++jC many k
noncomputable def wL(many:Nat):List (Nat×Nat):=fY many many
theorem JD{many i:Nat}{p:Nat×Nat}(h:p∈jC many i):p.1=i/\i<p.2/\p.2<many:=by
 obtain⟨j,hj,rfl⟩:=bV.mp h
 have:=tK.mp hj
 exact⟨rfl,by lia,by lia⟩
theorem wM{many:Nat}{p:Nat×Nat}:∀{k:Nat},p∈fY many k->p.1<p.2/\p.2<many
 |0,h=>by simp[fY]at h
 |k+1,h=>by
  rcases fK.mp h with q|q
  ·exact wM q
  ·have:=JD q;lia
theorem wN(many:Nat):∀k,(fY many k).length<=k*many
 |0=>by simp[fY]
 |k+1=>by
  have:=wN many k
  rw[fY,cD,jC,aE,zU,Nat.succ_mul]
  lia
noncomputable def kL(ss:List Scene)(t:Nat):Int:=((ss[t]?).map Scene.len).getD 0
noncomputable def DS(ss:List Scene)(one:Nat):Nat->Option Int
 |0=>none
 |k+1=>if one∈cT ss k then some (gO ss k+kL ss k)else DS ss one k
noncomputable def DT(ps:List Part)(ss:List Scene)(one other t:Nat):Bool:=
 decide (other∈cT ss t)&&(match DS ss one t with|some e=>decide (gO ss t-e<fX ps one other)|none=>false)
noncomputable def hit(ps:List Part)(ss:List Scene)(i j t:Nat):Bool:=(decide (i∈cT ss t)&&decide (j∈cT ss t))||DT ps ss i j t||DT ps ss j i t
theorem JE{ss:List Scene}(g:∀s∈ss,0<=s.len/\0<=s.pause){s t:Nat}(h:s<t)(ht:t<=ss.length):gO ss s+kL ss s<=gO ss t:=by
 have hs:s<ss.length:=by lia
 have hx:=bD hs
 have e:=DM hx h ht
 have hl:kL ss s=ss[s].len:=by unfold kL;rw[hx];rfl
 have hb:0<=eE ss s t:=by
  unfold eE
  rw[hx]
  have h1:=(g ss[s] (kC hs)).2
  have h2:0<=(((ss.drop (s+1)).take (t-(s+1))).map Scene.both).sum:=by
   have:∀l:List Scene,(∀x∈l,0<=x.len/\0<=x.pause)->0<=(l.map Scene.both).sum:=by
    intro l
    induction l with
    |nil=>intro _;simp
    |cons x r ih=>
     intro h
     have a:=h x bC
     have b:=ih λy hy=>h y (aR _ hy)
     rw[aK,List.sum_cons]
     unfold Scene.both at *
     lia
   exact this _ λx hx=>g x (LS (zV hx))
  simp only[Option.map_some,Option.getD_some]
  lia
 lia
theorem JF{ss:List Scene}{s t:Nat}(h:s<t)(ht:t<=ss.length):eE ss s t=gO ss t-(gO ss s+kL ss s):=by
 have hx:=bD (l:=ss) (i:=s) (by lia)
 have e:=DM hx h ht
 have hl:kL ss s=(ss[s]'(by lia)).len:=by unfold kL;rw[hx];rfl
 lia
theorem DU{α β:Type}{f:α->Option β}{l:List α}:(l.findSome? f).isSome=l.any λa=>(f a).isSome:=by
 induction l with
 |nil=>rfl
 |cons a r ih=>
  rw[zT,kA]
  cases f a<;>simp[ih]
theorem short_some{ps:List Part}{ss:List Scene}{s i j:Nat}:(jA ps ss s i j).isSome=true↔∃t,s<t/\t<ss.length/\j∈cT ss t/\eE ss s t<fX ps i j:=by
 unfold jA
 rw[DU,tL]
 constructor
 ·rintro⟨t,h1,h2⟩
  have:=tK.mp h1
  unfold lL at h2
  split at h2
  ·rename_i c;exact⟨t,by lia,by lia,c.1,c.2⟩
  ·cases h2
 ·rintro⟨t,h1,h2,h3,h4⟩
  refine⟨t,tK.mpr ⟨by lia,by lia⟩,?_⟩
  unfold lL
  rw[if_pos ⟨h3,h4⟩];rfl
theorem from_some{ps:List Part}{ss:List Scene}{s i j:Nat}:(jB ps ss i j s).isSome=true↔(i∈cT ss s/\j∈cT ss s)\/(i∈cT ss s/\(jA ps ss s i j).isSome=true/\¬j∈cT ss s)\/(j∈cT ss s/\(jA ps ss s j i).isSome=true/\¬i∈cT ss s):=by
 unfold jB
 by_cases h1:i∈cT ss s<;>by_cases h2:j∈cT ss s<;>simp[h1,h2]
theorem JG{ps:List Part}{ss:List Scene}{i j:Nat}:(dS ps ss i j).isSome=true↔∃s,s<ss.length/\(jB ps ss i j s).isSome=true:=by
 unfold dS
 rw[DU,tL]
 constructor
 ·rintro⟨s,h1,h2⟩;exact⟨s,by simpa using h1,h2⟩
 ·rintro⟨s,h1,h2⟩;exact⟨s,by simpa using h1,h2⟩
theorem JH{ps:List Part}{ss:List Scene}(g:∀s∈ss,0<=s.len/\0<=s.pause)(hp:∀p∈ps,p.off=0/\p.on=0)(i j:Nat):(dS ps ss i j).isSome=ss.any λs=>decide (i∈s.who)&&decide (j∈s.who):=by
 have need0:∀i j,fX ps i j=0:=by
  intro i j
  unfold fX
  have a:((ps[i]?).map Part.off).getD 0=0:=by
   cases e:ps[i]? with
   |none=>rfl
   |some p=>exact(hp p (iJ e)).1
  have b:((ps[j]?).map Part.on).getD 0=0:=by
   cases e:ps[j]? with
   |none=>rfl
   |some p=>exact(hp p (iJ e)).2
  lia
 have noshort:∀s i j,(jA ps ss s i j).isSome=true->False:=by
  intro s i j h
  obtain⟨t,h1,h2,h3,h4⟩:=short_some.mp h
  rw[need0,JF h1 (by lia)]at h4
  have:=JE g h1 (by lia)
  lia
 rw[Bool.eq_iff_iff,JG,tL]
 constructor
 ·rintro⟨s,h1,h2⟩
  rcases from_some.mp h2 with h|⟨_,h',_⟩|⟨_,h',_⟩
  ·refine⟨ss[s],kC h1,?_⟩
   rw[rG h1]at h
   rw[decide_eq_true h.1,decide_eq_true h.2];rfl
  ·exact(noshort _ _ _ h').elim
  ·exact(noshort _ _ _ h').elim
 ·rintro⟨x,h1,h2⟩
  obtain⟨s,hs,rfl⟩:=List.getElem_of_mem h1
  refine⟨s,hs,from_some.mpr (.inl ?_)⟩
  rw[rG hs]
  simpa using h2
end Tr
set_option maxRecDepth 100000
namespace Tr
open PySem
noncomputable def hasC(g:Str)(c:Nat):Bool:=decide (c∈g.cps.toList)
noncomputable def dM(x:Str):List Nat:=x.cps.toList
@[simp] theorem L9(x:Str):Bt.run .len [.str x]=aC (decide (x.length<=big)) (.ok (.int x.length)):=id rfl
theorem rH(x:Str):x.length=(dM x).length:=by cases x;simp[Str.length,dM]
section
variable{T:Tab}
@[simp] theorem fresh_cmp{o:CmpOp}{a b:E}:bJ T (.cmp o a b)=false:=id rfl
@[simp] theorem fresh_and{a b:E}:bJ T (.and a b)=false:=id rfl
@[simp] theorem fresh_mod{a b:E}:bJ T (.bin .Mod a b)=false:=id rfl
@[simp] theorem fresh_con{d:D}:bJ T (.con d)=false:=id rfl
@[simp] theorem fresh_var{i:Nat}:bJ T (.var i)=false:=id rfl
@[simp] theorem fresh_tup{a:E}:bJ T (.tup a)=false:=id rfl
end
theorem DV{x y:Str}(h:dM x=dM y):x=y:=by
 cases x;cases y
 simp only[dM]at h
 congr 1
 exact Eb.mp h
theorem lM{α:Type}{xs:List α}{k:Nat}{x:α}(h:xs[k]?=some x):atI xs (k:Int)=some x:=by
 have hk:=(gC.mp h).1
 unfold atI ixN
 rw[if_pos (by lia),if_pos (by lia)]
 exact h
@[simp] theorem ix_lst2{a b c:D}{r:List D}:(D.lst (a::b::c::r)).ix (.int 2)=.ok c:=by
 show Res.of (atI _ ((2:Nat):Int))=_
 rw[lM (x:=c) rfl];rfl
@[simp] theorem ix_lst3{a b c d:D}{r:List D}:(D.lst (a::b::c::d::r)).ix (.int 3)=.ok d:=by
 show Res.of (atI _ ((3:Nat):Int))=_
 rw[lM (x:=d) rfl];rfl
@[simp] theorem ix_lst4{a b c d f:D}{r:List D}:(D.lst (a::b::c::d::f::r)).ix (.int 4)=.ok f:=by
 show Res.of (atI _ ((4:Nat):Int))=_
 rw[lM (x:=f) rfl];rfl
theorem wO{α:Type}{xs:List α}{a:Nat}(ha:a<=xs.length):cut xs (some (a:Int)) none=xs.drop a:=by
 unfold cut sIx
 simp only[]
 rw[if_neg (by lia),kY,mJ ha,mD (by simp)]
theorem DW{a b:List Nat}(h:a.length+b.length<=big):D.bin .Add (.str ⟨a.toArray⟩) (.str ⟨b.toArray⟩)=.ok (.str ⟨(a++b).toArray⟩):=by
 show aC (decide ((⟨a.toArray⟩:Str).length+(⟨b.toArray⟩:Str).length<=big)) (.ok (D.str ((⟨a.toArray⟩:Str)++(⟨b.toArray⟩:Str))))=_
 rw[show decide ((⟨a.toArray⟩:Str).length+(⟨b.toArray⟩:Str).length<=big)=true by
  rw[rH,rH];simp only[dM,List.toList_toArray];exact decide_eq_true h]
 refine congrArg (λz=>Res.ok (D.str z)) (DV ?_)
 show(a.toArray++b.toArray).toList=(a++b).toArray.toList
 simp
theorem wQ{α:Type}{xs:List α}{b:Nat}(hb:b<=xs.length):cut xs none (some (b:Int))=xs.take b:=by
 unfold cut sIx
 simp only[]
 rw[if_neg (by lia),kY,mJ hb,oX,tF]
theorem DX{a b:List D}(h:a.length+b.length<=big):D.bin .Add (.lst a) (.lst b)=.ok (.lst (a++b)):=by
 show aC (decide (a.length+b.length<=big)) (.ok (D.lst (a++b)))=_
 rw[show decide (a.length+b.length<=big)=true by simpa using h]
 rfl
noncomputable def fC{α:Type}(c:Int)(l:List α):List α:=l.drop (c%((l.length:Int)+1)).toNat++l.take (c%((l.length:Int)+1)).toNat
theorem DY{α:Type}(c:Int)(l:List α):(c%((l.length:Int)+1)).toNat<=l.length:=by
 have:=zW c (show(0:Int)<(l.length:Int)+1 by lia)
 lia
theorem DZ{α:Type}{c:Int}{l:List α}{x:α}:x∈fC c l↔x∈l:=by
 unfold fC
 rw[fK]
 constructor
 ·rintro(h|h)
  ·exact LS h
  ·exact zV h
 ·intro h
  rw[<-LU (c%((l.length:Int)+1)).toNat l,fK]at h
  exact h.symm
theorem D0{α:Type}(c:Int)(l:List α):(fC c l).Perm l:=by
 unfold fC
 refine(List.perm_append_comm).trans ?_
 rw[LU]
theorem D1{α β:Type}(f:α->β)(c:Int)(l:List α):fC c (l.map f)=(fC c l).map f:=by
 unfold fC
 rw[aE,fM,Ei,zX]
@[simp] theorem ix_lst5{a b c d f g:D}{r:List D}:(D.lst (a::b::c::d::f::g::r)).ix (.int 5)=.ok g:=by
 show Res.of (atI _ ((5:Nat):Int))=_
 rw[lM (x:=g) rfl];rfl
@[simp] theorem ix_lst6{a b c d f g h:D}{r:List D}:(D.lst (a::b::c::d::f::g::h::r)).ix (.int 6)=.ok h:=by
 show Res.of (atI _ ((6:Nat):Int))=_
 rw[lM (x:=h) rfl];rfl
@[simp] theorem ix_lst7{a b c d f g h i:D}{r:List D}:(D.lst (a::b::c::d::f::g::h::i::r)).ix (.int 7)=.ok i:=by
 show Res.of (atI _ ((7:Nat):Int))=_
 rw[lM (x:=i) rfl];rfl
noncomputable def ent(p:Str×List D):D:=.tup (.str p.1::p.2)
end Tr
set_option maxRecDepth 100000
namespace Tr
open PySem
set_option genInjectivity false in
structure Player where
 name:Str
 voices:Str
 hire:Int
noncomputable def Player.enc(p:Player):D:=.tup [.str p.name,.str p.voices,.int p.hire]
@[simp] theorem qenc1{s:Player}:D.ix s.enc (.int 1)=.ok (.str s.voices):=wG
@[simp] theorem penc1{s:Part}:D.ix s.enc (.int 1)=.ok (.str s.voice):=wG
theorem qs_at{ss:List Player}{s:Nat}{x:Player}(h:ss[s]?=some x):D.ix (.tup (ss.map Player.enc)) (.int s)=.ok x.enc:=iC (by rw[bT,h];rfl)
noncomputable def aQ:Option Nat->D
 |none=>.non
 |some j=>.int (j:Int)
@[simp] theorem optN_none:aQ none=.non:=id rfl
@[simp] theorem JI{j:Nat}:aQ (some j)=.int (j:Int):=id rfl
noncomputable def lN(p:Part)(q:Player):Bool:=match dM p.voice with
 |[c]=>hasC q.voices c
 |_=>false
theorem JJ{p:Part}{q:Player}(h:(dM p.voice).length=1):D.cmp .NotIn (.str p.voice) (.str q.voices)=.ok (.bl (!lN p q)):=by
 obtain⟨c,hc⟩:∃c,dM p.voice=[c]:=List.length_eq_one_iff.mp h
 have e:p.voice=hE c:=DV (by rw[hc];rfl)
 unfold lN
 rw[hc]
 rw[e]
 rfl
noncomputable def oB(P:List Part)(Q:List Player)(k j:Nat):Bool:=((P[k]?).bind λp=>(Q[j]?).map λq=>lN p q).getD false
theorem D2{P:List Part}{Q:List Player}{k j:Nat}(hk:k<P.length)(hj:j<Q.length):oB P Q k j=lN P[k] Q[j]:=by
 unfold oB;rw[bD hk,bD hj];rfl
theorem cast_at{cs:List (Option Nat)}{k:Nat}{o:Option Nat}(h:cs[k]?=some o):D.ix (.lst (cs.map aQ)) (.int k)=.ok (aQ o):=iY (by rw[bT,h];rfl)
theorem JK(o:Option Nat)(j:Nat):D.cmp .Eq (aQ o) (.int j)=.ok (.bl (decide (o=some j))):=by
 cases o with
 |none=>rfl
 |some i=>
  show Res.ok (D.bl ((i:Int)==(j:Int)))=_
  by_cases h:i=j
  ·subst h;simp
  ·rw[show((i:Int)==(j:Int))=false by simp;lia];simp[h]
theorem JL(o o':Option Nat):D.cmp .Eq (aQ o) (aQ o')=.ok (.bl (decide (o=o'))):=by
 cases o' with
 |none=>cases o<;>rfl
 |some j=>exact JK o j
theorem JM{xs:List D}(h:D.pls 30 xs=true):D.cmp .Eq (.tup xs) (.tup [])=.ok (.bl xs.isEmpty):=by
 show aC (D.eqOk _ _) (.ok (D.bl (D.eqb (.tup xs) (.tup []))))=_
 rw[bR (by unfold D.eqOk;rw[rE,h];rfl)]
 cases xs<;>rfl
inductive Flt where
 |nob (i:Nat)|voi (i k:Nat)|cla (i j:Nat)
noncomputable def Flt.enc:Flt->D
 |.nob i=>.tup [.str "nobody", .int i]
 |.voi i k=>.tup [.str "voice", .int i,.int k]
 |.cla i j=>.tup [.str "clash", .int i,.int j]
noncomputable def eV:Option Flt->D
 |none=>.non
 |some x=>x.enc
@[simp] theorem isNon_optF{o:Option Flt}:(eV o).isNon=o.isNone:=by
 cases o with
 |none=>rfl
 |some x=>cases x<;>rfl
noncomputable def eK(P:List Part)(Q:List Player)(cs:List (Option Nat))(k:Nat):Option Flt:=match cs.getD k none with
 |none=>some (.nob k)
 |some j=>if oB P Q k j=true then none else some (.voi k j)
noncomputable def fZ(cs:List (Option Nat))(i j:Nat):Bool:=(cs.getD i none).isSome&&decide (cs.getD i none=cs.getD j none)
noncomputable def lO(P:List Part)(Q:List Player)(ps:List (Nat×Nat))(cs:List (Option Nat)):List Flt:=
 (aD cs.length).filterMap (eK P Q cs)++(ps.filter λp=>fZ cs p.1 p.2).map λp=>.cla p.1 p.2
theorem D3{α:Type}(f:α->D)(x:α):∀(cs:List α)(j:Nat),dB (j:Int) (cs.map f)=(aD cs.length).map (λk=>D.tup [.int ((j+k:Nat):Int),f (cs.getD k x)])
 |[],_=>rfl
 |c::r,j=>by
  rw[aK,dB,aW,zN,aK,cB]
  have h:=D3 f x r (j+1)
  rw[show((j+1:Nat):Int)=(j:Int)+1 by push_cast;rfl]at h
  rw[h]
  congr 1
  apply iK
  intro k _
  simp only[Function.comp,List.getD_cons_succ]
  congr 4
  lia
theorem D4{cs:List (Option Nat)}{k:Nat}(h:k<cs.length):cs[k]?=some (cs.getD k none):=by
 rw[jH,bD h];rfl
theorem D5{cs:List (Option Nat)}{k:Nat}(h:k<cs.length):D.ix (.lst (cs.map aQ)) (.int k)=.ok (aQ (cs.getD k none)):=cast_at (D4 h)
noncomputable def Flt.names(p:Nat):Flt->Bool
 |.nob i=>i==p
 |.voi i _=>i==p
 |.cla i j=>i==p||j==p
end Tr
set_option maxRecDepth 100000
namespace Tr
open PySem
end Tr
set_option maxRecDepth 100000
namespace Tr
open PySem
end Tr
set_option maxRecDepth 100000
namespace Tr
open PySem
noncomputable def aL(c:List (Nat×Nat))(p:Nat):Option Nat:=(c.find? λx=>x.1==p).map (·.2)
noncomputable def cY(c:List (Nat×Nat))(p g:Nat):List (Nat×Nat):=if(c.any λx=>x.1==p)=true then c.map (λx=>if x.1=p then(x.1,g)else x)else c++[(p,g)]
noncomputable def fcL(rec:Nat->List (Nat×Nat)->List Nat->Option (Bool×List (Nat×Nat)×List Nat))(gap:Nat):List Nat->List (Nat×Nat)->List Nat->Option (Bool×List (Nat×Nat)×List Nat)
 |[],c,a=>some (false,c,a)
 |p::r,c,a=>if p∈a then fcL rec gap r c a else
  match aL c p with
  |none=>some (true,cY c p gap,a++[p])
  |some g=>match rec g c (a++[p])with
   |some (true,c',a')=>some (true,cY c' p gap,a')
   |some (false,c',a')=>fcL rec gap r c' a'
   |none=>none
noncomputable def fc(ch:Nat->List Nat):Nat->Nat->List (Nat×Nat)->List Nat->Option (Bool×List (Nat×Nat)×List Nat)
 |0,_,_,_=>none
 |n+1,gap,c,a=>fcL (fc ch n) gap (ch gap) c a
theorem getA_none{c:List (Nat×Nat)}{p:Nat}:aL c p=none↔p∉c.map (·.1):=by
 unfold aL
 rw[Option.map_eq_none_iff,LV]
 constructor
 ·intro h hm
  obtain⟨x,hx,e⟩:=bV.mp hm
  exact h x hx (by simpa using e)
 ·intro h x hx e
  exact h (bV.mpr ⟨x,hx,by simpa using e⟩)
theorem gA:∀{l U:List Nat},l.Nodup->(∀x∈l,x∈U)->l.length<=U.length
 |[],_,_,_=>eW _
 |a::r,U,h,hs=>by
  rw[dD]at h
  have ha:=hs a bC
  have:=gA (l:=r) (U:=U.erase a) h.2 λx hx=>(List.mem_erase_of_ne (λe:x=a=>h.1 (e▸hx))).mpr (hs x (aR _ hx))
  have l:=List.length_erase_of_mem ha
  have:=List.length_pos_of_mem ha
  rw[aW];lia
theorem oC{c:List (Nat×Nat)}{p g:Nat}(h:aL c p=some g):(p,g)∈c:=by
 unfold aL at h
 obtain⟨x,hx,rfl⟩:=LG.mp h
 have h1:=List.mem_of_find?_eq_some hx
 have h2:=List.find?_some hx
 have:x.1=p:=by simpa using h2
 rw[<-this];exact h1
theorem any_key{c:List (Nat×Nat)}{p:Nat}:(c.any λx=>x.1==p)=true↔p∈c.map (·.1):=by
 rw[tL,bV]
 simp
theorem D6{c:List (Nat×Nat)}{p g:Nat}:(cY c p g).map (·.1)=if p∈c.map (·.1)then c.map (·.1)else c.map (·.1)++[p]:=by
 unfold cY
 by_cases h:p∈c.map (·.1)
 ·rw[if_pos (any_key.mpr h),if_pos h,cB]
  apply iK
  intro x _
  show(if x.1=p then(x.1,g)else x).1=x.1
  split<;>rfl
 ·rw[if_neg (λz=>h (any_key.mp z)),if_neg h,fM];rfl
theorem jT{x:Nat×Nat}{c:List (Nat×Nat)}{p:Nat}:aL (x::c) p=if x.1=p then some x.2 else aL c p:=by
 unfold aL
 rw[cH]
 by_cases h:x.1=p
 ·rw[if_pos h,show(x.1==p)=true by simpa using h];rfl
 ·rw[if_neg h,show(x.1==p)=false by simpa using h]
theorem JN{c d:List (Nat×Nat)}{p:Nat}:aL (c++d) p=(aL c p).or (aL d p):=by
 induction c with
 |nil=>simp[aL]
 |cons x c ih=>
  rw[LR,jT,jT,ih]
  split<;>simp
theorem JO{c:List (Nat×Nat)}{p g q:Nat}:aL (c.map λx=>if x.1=p then(x.1,g)else x) q=if q=p then(aL c p).map (λ_=>g)else aL c q:=by
 induction c with
 |nil=>simp[aL]
 |cons x c ih=>
  rw[aK,jT,jT,jT,ih]
  by_cases hx:x.1=p
  ·simp only[hx,if_true]
   by_cases hq:q=p
   ·subst hq;simp
   ·have hq':¬p=q:=λe=>hq e.symm
    simp[hq,hq']
  ·simp only[hx,if_false]
   by_cases hq:q=p
   ·subst hq;simp[hx]
   ·simp[hq]
theorem wR{c:List (Nat×Nat)}{p g q:Nat}:aL (cY c p g) q=if q=p then some g else aL c q:=by
 unfold cY
 by_cases h:p∈c.map (·.1)
 ·rw[if_pos (any_key.mpr h),JO]
  by_cases hq:q=p
  ·rw[if_pos hq,if_pos hq]
   cases e:aL c p with
   |none=>exact absurd h (getA_none.mp e)
   |some z=>rfl
  ·rw[if_neg hq,if_neg hq]
 ·rw[if_neg (λz=>h (any_key.mp z)),JN,jT]
  by_cases hq:q=p
  ·subst hq
   rw[if_pos rfl,if_pos rfl,getA_none.mpr h];rfl
  ·rw[if_neg (λe=>hq e.symm),if_neg hq]
   cases aL c q<;>simp[aL]
noncomputable def cK(c:List (Nat×Nat))(g:Nat):Nat:=(c.filter λx=>x.2==g).length
theorem JP{c:List (Nat×Nat)}(hd:(c.map (·.1)).Nodup){p g0 g:Nat}(h:aL c p=some g0)(q:Nat) :
 cK (c.map λx=>if x.1=p then(x.1,g)else x) q+(if g0=q then 1 else 0)=cK c q+if g=q then 1 else 0:=by
 induction c with
 |nil=>simp[aL]at h
 |cons x c ih=>
  rw[aK,dD]at hd
  rw[jT]at h
  by_cases hx:x.1=p
  ·rw[if_pos hx]at h
   cases h
   have same:c.map (λx=>if x.1=p then(x.1,g)else x)=c:=by
    refine(iK λy hy=>?_).trans (List.map_id c)
    have:y.1≠p:=λe=>hd.1 (by rw[hx,<-e];exact List.mem_map_of_mem hy)
    rw[if_neg this];rfl
   rw[aK,same,if_pos hx]
   unfold cK
   rw[gX,gX]
   by_cases a:x.2=q<;>by_cases b:g=q<;>simp[a,b]
  ·rw[if_neg hx]at h
   have:=ih hd.2 h
   rw[aK,if_neg hx]
   unfold cK at this⊢
   rw[gX,gX]
   by_cases a:x.2=q
   ·simp only[a,beq_self_eq_true,if_true,aW];lia
   ·simp only[show(x.2==q)=false by simpa using a,mF,if_false];exact this
theorem JQ{c:List (Nat×Nat)}{p g:Nat}(h:aL c p=none)(q:Nat):cK (cY c p g) q=cK c q+if g=q then 1 else 0:=by
 unfold cY
 rw[if_neg (λz=>getA_none.mp h (any_key.mp z))]
 unfold cK
 rw[LW,cD]
 congr 1
 by_cases a:g=q<;>simp[a]
theorem JR{c:List (Nat×Nat)}(hd:(c.map (·.1)).Nodup){p g0 g:Nat}(h:aL c p=some g0)(q:Nat):cK (cY c p g) q+(if g0=q then 1 else 0)=cK c q+if g=q then 1 else 0:=by
 unfold cY
 rw[if_pos (any_key.mpr (Classical.byContradiction λz=>by rw[getA_none.mpr z]at h;cases h))]
 exact JP hd h q
theorem D7{c:List (Nat×Nat)}(hd:(c.map (·.1)).Nodup)(p g:Nat):((cY c p g).map (·.1)).Nodup:=by
 rw[D6]
 split
 ·exact hd
 ·rename_i h
  rw[tM]
  refine⟨hd,by simp,λx hx y hy e=>?_⟩
  rw[cI.mp hy]at e
  exact h (e▸hx)
noncomputable def OkA(ch:Nat->List Nat)(c:List (Nat×Nat)):Prop:=(c.map (·.1)).Nodup/\∀p g,aL c p=some g->p∈ch g
theorem OkA.put{ch:Nat->List Nat}{c:List (Nat×Nat)}(h:OkA ch c){p g:Nat}(hp:p∈ch g):OkA ch (cY c p g):=by
 refine⟨D7 h.1 p g,λq k e=>?_⟩
 rw[wR]at e
 split at e
 ·rename_i z
  cases e
  rw[z];exact hp
 ·exact h.2 q k e
structure Won(ch:Nat->List Nat)(gap:Nat)(c:List (Nat×Nat))(a:List Nat)(c':List (Nat×Nat))(a':List Nat):Prop where
 ok:OkA ch c'
 keep:∀p∈a,aL c' p=aL c p
 cnt:∀q,cK c' q=cK c q+if gap=q then 1 else 0
structure Lost(ch:Nat->List Nat)(gap:Nat)(xs:List Nat)(c:List (Nat×Nat))(a:List Nat)(c':List (Nat×Nat))(a':List Nat):Prop where
 same:c'=c
 sub:∀p∈a,p∈a'
 nd:a.Nodup->a'.Nodup
 all:∀p∈xs,p∈a'
 new:∀p∈a',p∉a->(∃g,aL c p=some g/\∀q∈ch g,q∈a')/\(p∈xs\/∃q g,q∈a'/\q∉a/\aL c q=some g/\p∈ch g)
theorem wU{ch:Nat->List Nat}{rec:Nat->List (Nat×Nat)->List Nat->Option (Bool×List (Nat×Nat)×List Nat)}
 (ih:∀g c a b c' a',OkA ch c->rec g c a=some (b,c',a')->if b=true then Won ch g c a c' a' else Lost ch g (ch g) c a c' a') (gap:Nat) :
 ∀(xs:List Nat)(c:List (Nat×Nat))(a:List Nat)(b:Bool)(c':List (Nat×Nat))(a':List Nat),(∀p∈xs,p∈ch gap)->OkA ch c->fcL rec gap xs c a=some (b,c',a')->if b=true then Won ch gap c a c' a' else Lost ch gap xs c a c' a'
 |[],c,a,b,c',a',_,ok,h=>by
  cases h
  rw[if_neg aO]
  exact⟨rfl,λp hp=>hp,λh=>h,λp hp=>(by cases hp),λp hp hn=>absurd hp hn⟩
 |p::r,c,a,b,c',a',hx,ok,h=>by
  have hr:∀q∈r,q∈ch gap:=λq hq=>hx q (aR _ hq)
  have hp:=hx p bC
  rw[fcL]at h
  by_cases pa:p∈a
  ·rw[if_pos pa]at h
   have:=wU ih gap r c a b c' a' hr ok h
   cases b with
   |true=>exact this
   |false=>
    rw[if_neg aO]at this⊢
    exact⟨this.same,this.sub,this.nd,λq hq=>by
     rcases aV.mp hq with rfl|hq
     ·exact this.sub _ pa
     ·exact this.all q hq,λq hq hn=>⟨(this.new q hq hn).1,(this.new q hq hn).2.imp (aR _) id⟩⟩
  ·rw[if_neg pa]at h
   cases e:aL c p with
   |none=>
    rw[e]at h
    cases h
    rw[if_pos rfl]
    exact⟨ok.put hp,λq hq=>by rw[wR,if_neg (λz:q=p=>pa (z▸hq))],λq=>JQ e q⟩
   |some g=>
    rw[e]at h
    dsimp only at h
    cases e2:rec g c (a++[p])with
    |none=>rw[e2]at h;cases h
    |some z=>
     obtain⟨b1,c1,a1⟩:=z
     rw[e2]at h
     have i:=ih g c (a++[p]) b1 c1 a1 ok e2
     cases b1 with
     |true=>
      rw[if_pos rfl]at i
      cases h
      rw[if_pos rfl]
      have gp:aL c1 p=some g:=by rw[i.keep p (by simp),e]
      refine⟨i.ok.put hp,λq hq=>?_,λq=>?_⟩
      ·rw[wR,if_neg (λz:q=p=>pa (z▸hq)),i.keep q (by simp[hq])]
      ·have h1:=JR i.ok.1 (g:=gap) gp q
       have h2:=i.cnt q
       lia
     |false=>
      rw[if_neg aO]at i
      dsimp only at h
      obtain⟨rfl,i2,i3,i4,i5⟩:=i
      have j:=wU ih gap r c1 a1 b c' a' hr ok h
      have pin:p∈a1:=i2 p (by simp)
      cases b with
      |true=>
       rw[if_pos rfl]at j⊢
       exact⟨j.ok,λq hq=>j.keep q (i2 q (by simp[hq])),j.cnt⟩
      |false=>
       rw[if_neg aO]at j⊢
       obtain⟨j1,j2,j3,j4,j5⟩:=j
       refine⟨j1,λq hq=>j2 q (i2 q (by simp[hq])),λnd=>j3 (i3 ?_),λq hq=>?_,λq hq hn=>?_⟩
       ·rw[tM]
        exact⟨nd,by simp,λx hx y hy e=>pa (by rw[cI.mp hy]at e;exact e▸hx)⟩
       ·rcases aV.mp hq with rfl|hq
        ·exact j2 _ pin
        ·exact j4 q hq
       ·by_cases q1:q∈a1
        ·by_cases qp:q=p
         ·subst qp
          exact⟨⟨g,e,λy hy=>j2 y (i4 y hy)⟩,.inl bC⟩
         ·obtain⟨⟨k,k1,k2⟩,k3⟩:=i5 q q1 (by simp[hn,qp])
          refine⟨⟨k,k1,λy hy=>j2 y (k2 y hy)⟩,.inr ?_⟩
          rcases k3 with k3|⟨y,z,y1,y2,y3,y4⟩
          ·exact⟨p,g,j2 p pin,pa,e,k3⟩
          ·exact⟨y,z,j2 y y1,λya=>y2 (by simp[ya]),y3,y4⟩
        ·obtain⟨k1,k3⟩:=j5 q hq q1
         refine⟨k1,?_⟩
         rcases k3 with k3|⟨y,z,y1,y2,y3,y4⟩
         ·exact .inl (aR _ k3)
         ·exact .inr ⟨y,z,y1,λya=>y2 (i2 y (by simp[ya])),y3,y4⟩
theorem wV(ch:Nat->List Nat):∀(n g:Nat)(c:List (Nat×Nat))(a:List Nat)(b:Bool)(c':List (Nat×Nat))(a':List Nat),OkA ch c->fc ch n g c a=some (b,c',a')->if b=true then Won ch g c a c' a' else Lost ch g (ch g) c a c' a'
 |0,_,_,_,_,_,_,_,h=>by cases h
 |n+1,g,c,a,b,c',a',ok,h=>wU (wV ch n) g (ch g) c a b c' a' (λ_ h=>h) ok h
theorem wW{ch:Nat->List Nat}{U:List Nat}{n:Nat}(hU:∀g,∀p∈ch g,p∈U)
 (ih:∀g c a,OkA ch c->a.Nodup->(∀p∈a,p∈U)->U.length<a.length+n->∃r,fc ch n g c a=some r) (gap:Nat) :
 ∀(xs:List Nat)(c:List (Nat×Nat))(a:List Nat),(∀p∈xs,p∈ch gap)->OkA ch c->a.Nodup->(∀p∈a,p∈U)->U.length<a.length+1+n->(∀p∈xs,p∉a->U.length<a.length+1+n)->∃r,fcL (fc ch n) gap xs c a=some r
 |[],c,a,_,_,_,_,_,_=>⟨_,rfl⟩
 |p::r,c,a,hx,ok,nd,au,hl,hq=>by
  have hr:∀q∈r,q∈ch gap:=λq hq=>hx q (aR _ hq)
  rw[fcL]
  by_cases pa:p∈a
  ·rw[if_pos pa]
   exact wW hU ih gap r c a hr ok nd au hl λq h1 h2=>hl
  ·rw[if_neg pa]
   cases e:aL c p with
   |none=>exact⟨_,rfl⟩
   |some g=>
    dsimp only
    have nd':(a++[p]).Nodup:=by
     rw[tM]
     exact⟨nd,by simp,λx hx y hy e=>pa (by rw[cI.mp hy]at e;exact e▸hx)⟩
    have au':∀q∈a++[p],q∈U:=λq hq=>by
     rcases fK.mp hq with h|h
     ·exact au q h
     ·rw[cI.mp h];exact hU gap p (hx p bC)
    obtain⟨⟨b1,c1,a1⟩,e2⟩:=ih g c (a++[p]) ok nd' au' (by rw[cD,kW];lia)
    rw[e2]
    have i:=wV ch n g c (a++[p]) b1 c1 a1 ok e2
    cases b1 with
    |true=>exact⟨_,rfl⟩
    |false=>
     rw[if_neg aO]at i
     obtain⟨rfl,i2,i3,i4,i5⟩:=i
     have au1:∀q∈a1,q∈U:=λq hq=>by
      by_cases z:q∈a++[p]
      ·exact au' q z
      ·rcases(i5 q hq z).2 with h|⟨y,k,_,_,_,h⟩
       ·exact hU g q h
       ·exact hU k q h
     have la:a.length+1<=a1.length:=by
      have:=gA nd' λq hq=>i2 q hq
      rw[cD,kW]at this
      exact this
     exact wW hU ih gap r c1 a1 hr ok (i3 nd') au1 (by lia) λ_ _ _=>by lia
theorem D8{ch:Nat->List Nat}{U:List Nat}(hU:∀g,∀p∈ch g,p∈U):∀(n g:Nat)(c:List (Nat×Nat))(a:List Nat),OkA ch c->a.Nodup->(∀p∈a,p∈U)->U.length<a.length+n->∃r,fc ch n g c a=some r
 |0,g,c,a,ok,nd,au,hl=>by
  have:=gA nd au
  lia
 |n+1,g,c,a,ok,nd,au,hl=>wW hU (λg c a=>D8 hU n g c a) g (ch g) c a (λ_ h=>h) ok nd au (by lia) λ_ _ _=>by lia
end Tr
namespace K61
open PySem Tr
noncomputable def rJ:E:=
 (.bin .Add (.ix (.var 0) (.con (.int 1))) (.ix (.var 0) (.con (.int 2))))
noncomputable def wX:S:=
 (.cons (.asg (.one 3) (.ix (.var 0) (.glob 2)))
 (.cons (.ret (.bin .Add (.ix (.ix (.var 3) (.var 1)) (.con (.int 2))) (.bt .sum (.acons (.comp 1 [] (.one 0) rJ (.seq (.sl (.var 3) (.bin .Add (.var 1) (.con (.int 1))) (.var 2))) (.con (.bl true))) .anil))))
 .nil))
noncomputable def wY:S:=
 (.cons (.ret (.bin .Add (.ix (.ix (.ix (.var 0) (.glob 0)) (.var 1)) (.con (.int 2))) (.ix (.ix (.ix (.var 0) (.glob 0)) (.var 2)) (.con (.int 3)))))
 .nil)
noncomputable def oD:S:=
 (.cons (.ite (.cmp .In (.var 3) (.ix (.ix (.ix (.var 0) (.glob 2)) (.var 5)) (.con (.int 3))))
 (.cons (.asg (.one 6) (.call 0 (.acons (.var 0) (.acons (.var 1) (.acons (.var 5) .anil)))))
 (.cons (.ite (.cmp .Lt (.var 6) (.var 4))
 (.cons (.ret (.tup (.acons (.con (.str "change")) (.acons (.var 1) (.acons (.var 5) (.acons (.var 6) (.acons (.var 4) .anil)))))))
 .nil)
 .nil)
 .nil))
 .nil)
 .nil)
noncomputable def rK:S:=
 (.cons (.asg (.one 4) (.call 1 (.acons (.var 0) (.acons (.var 2) (.acons (.var 3) .anil)))))
 (.cons (.forS (.one 5) (.rng2 (.bin .Add (.var 1) (.con (.int 1))) (.bt .len (.acons (.ix (.var 0) (.glob 2)) .anil))) oD)
 (.cons (.ret (.con .non))
 .nil)))
noncomputable def lP:S:=
 (.cons (.asg (.one 4) (.ix (.ix (.ix (.var 0) (.glob 2)) (.var 1)) (.con (.int 3))))
 (.cons (.ite (.and (.cmp .In (.var 2) (.var 4)) (.cmp .In (.var 3) (.var 4)))
 (.cons (.ret (.tup (.acons (.con (.str "scene")) (.acons (.var 1) .anil))))
 .nil)
 .nil)
 (.cons (.ite (.cmp .In (.var 2) (.var 4))
 (.cons (.ret (.call 2 (.acons (.var 0) (.acons (.var 1) (.acons (.var 2) (.acons (.var 3) .anil))))))
 .nil)
 .nil)
 (.cons (.ite (.cmp .In (.var 3) (.var 4))
 (.cons (.ret (.call 2 (.acons (.var 0) (.acons (.var 1) (.acons (.var 3) (.acons (.var 2) .anil))))))
 .nil)
 .nil)
 (.cons (.ret (.con .non))
 .nil)))))
noncomputable def rL:S:=
 (.cons (.asg (.one 4) (.call 3 (.acons (.var 0) (.acons (.var 3) (.acons (.var 1) (.acons (.var 2) .anil))))))
 (.cons (.ite (.cmp .IsNot (.var 4) (.con .non))
 (.cons (.ret (.var 4))
 .nil)
 .nil)
 .nil))
noncomputable def rM:S:=
 (.cons (.forS (.one 3) (.rng (.bt .len (.acons (.ix (.var 0) (.glob 2)) .anil))) rL)
 (.cons (.ret (.con .non))
 .nil))
noncomputable def rN:E:=
 (.cmp .IsNot (.call 4 (.acons (.var 2) (.acons (.var 1) (.acons (.var 0) .anil)))) (.con .non))
noncomputable def rO:E:=
 (.tup (.acons (.var 1) (.acons (.var 0) .anil)))
noncomputable def wZ:S:=
 (.cons (.ext 1 (.comp 1 [3,0] (.one 0) rO (.rng2 (.bin .Add (.var 3) (.con (.int 1))) (.var 2)) rN))
 .nil)
noncomputable def xA:S:=
 (.cons (.asgO 1 (.lst .anil))
 (.cons (.asg (.one 2) (.bt .len (.acons (.ix (.var 0) (.glob 0)) .anil)))
 (.cons (.forS (.one 3) (.rng (.var 2)) wZ)
 (.cons (.retO 1)
 .nil))))
noncomputable def oE:S:=
 (.cons (.ite (.cmp .Is (.var 2) (.con .non))
 (.cons (.ret (.tup (.acons (.con (.str "nobody")) (.acons (.var 1) .anil))))
 .nil)
 .nil)
 (.cons (.ite (.cmp .NotIn (.ix (.ix (.ix (.var 0) (.glob 0)) (.var 1)) (.con (.int 1))) (.ix (.ix (.ix (.var 0) (.glob 1)) (.var 2)) (.con (.int 1))))
 (.cons (.ret (.tup (.acons (.con (.str "voice")) (.acons (.var 1) (.acons (.var 2) .anil)))))
 .nil)
 .nil)
 (.cons (.ret (.con .non))
 .nil)))
noncomputable def rP:S:=
 (.cons (.ret (.and (.cmp .IsNot (.ix (.var 0) (.var 1)) (.con .non)) (.cmp .Eq (.ix (.var 0) (.var 1)) (.ix (.var 0) (.var 2)))))
 .nil)
noncomputable def xB:E:=
 (.call 6 (.acons (.var 2) (.acons (.var 0) (.acons (.var 1) .anil))))
noncomputable def rQ:E:=
 (.cmp .IsNot (.var 0) (.con .non))
noncomputable def rR:E:=
 (.var 0)
noncomputable def rS:E:=
 (.call 7 (.acons (.var 2) (.acons (.var 0) (.acons (.var 1) .anil))))
noncomputable def rT:E:=
 (.tup (.acons (.con (.str "clash")) (.acons (.var 0) (.acons (.var 1) .anil))))
noncomputable def xC:S:=
 (.cons (.asgO 2 (.comp 2 [0] (.many [0,1]) xB (.enum (.var 1)) (.con (.bl true))))
 (.cons (.asgO 2 (.comp 1 [] (.one 0) rR (.seq (.rd 2)) rQ))
 (.cons (.ext 2 (.comp 2 [1] (.many [0,1]) rT (.seq (.call 5 (.acons (.var 0) .anil))) rS))
 (.cons (.retO 2)
 .nil))))
noncomputable def xD:S:=
 (.cons (.ite (.cmp .NotEq (.call 8 (.acons (.var 0) (.acons (.var 1) .anil))) (.lst .anil))
 (.cons (.never)
 .nil)
 .nil)
 .nil)
noncomputable def rV:E:=
 (.cmp .In (.ix (.var 2) (.var 0)) (.var 1))
noncomputable def rW:E:=
 (.var 0)
noncomputable def xE:S:=
 (.cons (.ret (.comp 1 [2,1] (.one 0) rW (.seq (.ix (.ix (.ix (.var 0) (.glob 2)) (.var 3)) (.con (.int 3)))) rV))
 .nil)
noncomputable def xF:E:=
 (.ix (.var 1) (.var 0))
noncomputable def rX:E:=
 (.cmp .Eq (.var 0) (.var 2))
noncomputable def rY:E:=
 (.var 1)
noncomputable def lQ:E:=
 (.and (.cmp .NotIn (.var 0) (.var 1)) (.cmp .NotIn (.var 0) (.var 2)))
noncomputable def lR:E:=
 (.var 0)
noncomputable def xG:S:=
 (.cons (.asg (.one 5) (.comp 1 [1] (.one 0) xF (.seq (.ix (.ix (.ix (.var 0) (.glob 2)) (.var 3)) (.con (.int 3)))) (.con (.bl true))))
 (.cons (.asg (.one 6) (.srt (.comp 2 [4] (.many [0,1]) rY (.seq (.ix (.var 0) (.glob 3))) rX)))
 (.cons (.ret (.comp 1 [2,5] (.one 0) lR (.seq (.var 6)) lQ))
 .nil)))
noncomputable def xH:E:=
 (.ix (.var 1) (.var 0))
noncomputable def xI:S:=
 (.cons (.asg (.one 3) (.bin .Add (.lst (.acons (.var 2) .anil)) (.comp 1 [0] (.one 0) xH (.seqD (.var 1)) (.con (.bl true)))))
 (.cons (.ret (.tup (.acons (.con (.str "lacks")) (.acons (.srt (.var 3)) (.acons (.srt (.var 1)) .anil)))))
 .nil))
noncomputable def xJ:E:=
 (.tup (.acons (.var 0) (.acons (.call 11 (.acons (.var 1) (.acons (.var 2) (.acons (.var 3) (.acons (.var 4) (.acons (.var 0) .anil)))))) .anil)))
noncomputable def kM:S:=
 (.cons (.newD 8)
 (.cons (.ifR true .omit 34 (.var 5) 6 8 (.var 7)
 (.cons (.sealed 8)
 (.cons (.sealed 6)
 (.cons (.ret (.call 12 (.acons (.var 6) (.acons (.var 8) (.acons (.var 7) .anil)))))
 .nil)))
 .nil)
 .nil))
noncomputable def xK:E:=
 (.tup (.acons (.ix (.var 1) (.var 0)) (.acons (.var 0) .anil)))
noncomputable def rZ:E:=
 (.tup (.acons (.var 0) (.acons (.ix (.var 1) (.var 0)) .anil)))
noncomputable def sA:S:=
 (.cons (.asg (.one 4) (.call 10 (.acons (.var 0) (.acons (.var 1) (.acons (.var 2) (.acons (.var 3) .anil))))))
 (.cons (.asg (.one 5) (.dck (.comp 1 [0,1,2,3] (.one 0) xJ (.seq (.var 4)) (.con (.bl true)))))
 (.cons (.newD 6)
 (.cons (.forS (.one 7) (.seq (.var 4)) kM)
 (.cons (.sealed 6)
 (.cons (.asg (.one 9) (.dck (.comp 1 [6] (.one 0) xK (.seqD (.var 6)) (.con (.bl true)))))
 (.cons (.ret (.tup (.acons (.con (.str "covered")) (.acons (.comp 1 [9] (.one 0) rZ (.seq (.var 4)) (.con (.bl true))) .anil))))
 .nil)))))))
noncomputable def xM:S:=
 (.cons (.exp (.call 9 (.acons (.var 0) (.acons (.var 1) .anil))))
 (.cons (.ret (.call 13 (.acons (.var 0) (.acons (.var 1) (.acons (.var 2) (.acons (.var 3) .anil))))))
 .nil))
noncomputable def xN:E:=
 (.call 13 (.acons (.var 1) (.acons (.var 2) (.acons (.var 3) (.acons (.var 0) .anil)))))
noncomputable def xO:S:=
 (.cons (.exp (.call 9 (.acons (.var 0) (.acons (.var 1) .anil))))
 (.cons (.ret (.comp 1 [0,1,2] (.one 0) xN (.rng (.bt .len (.acons (.ix (.var 0) (.glob 2)) .anil))) (.con (.bl true))))
 .nil))
noncomputable def lS:S:=
 (.cons (.ite (.cmp .Eq (.ix (.call 13 (.acons (.var 0) (.acons (.var 1) (.acons (.var 2) (.acons (.var 3) .anil))))) (.con (.int 0))) (.con (.str "lacks")))
 (.cons (.ret (.var 3))
 .nil)
 .nil)
 .nil)
noncomputable def xP:S:=
 (.cons (.forS (.one 3) (.rng (.bt .len (.acons (.ix (.var 0) (.glob 2)) .anil))) lS)
 (.cons (.ret (.con .non))
 .nil))
noncomputable def xQ:E:=
 (.bin .Add (.var 1) (.tup (.acons (.var 0) .anil)))
noncomputable def oF:S:=
 (.cons (.asg (.one 4) (.ife (.var 3) (.bin .Add (.ix (.var 3) (.neg (.con (.int 1)))) (.con (.int 1))) (.con (.int 0))))
 (.cons (.ext 2 (.comp 1 [3] (.one 0) xQ (.rng2 (.var 4) (.var 1)) (.con (.bl true))))
 .nil))
noncomputable def xR:S:=
 (.cons (.asgO 2 (.lst .anil))
 (.cons (.forS (.one 3) (.seq (.var 0)) oF)
 (.cons (.retO 2)
 .nil)))
noncomputable def xS:S:=
 (.cons (.asgN 2 (.call 17 (.acons (.var 2) (.acons (.var 0) .anil))))
 (.cons (.extN 3 2)
 .nil))
noncomputable def xT:S:=
 (.cons (.asgN 2 (.lst (.acons (.tup .anil) .anil)))
 (.cons (.asgO 3 (.lst (.acons (.tup .anil) .anil)))
 (.cons (.forS (.one 4) (.rng (.var 1)) xS)
 (.cons (.retO 3)
 .nil))))
noncomputable def xU:E:=
 (.tup (.acons (.var 0) (.acons (.call 16 (.acons (.var 1) (.acons (.var 2) (.acons (.var 0) .anil)))) .anil)))
noncomputable def xV:S:=
 (.cons (.exp (.call 9 (.acons (.var 0) (.acons (.var 1) .anil))))
 (.cons (.ret (.comp 1 [0,1] (.one 0) xU (.seq (.call 18 (.acons (.bt .len (.acons (.ix (.var 0) (.glob 1)) .anil)) (.acons (.var 2) .anil)))) (.con (.bl true))))
 .nil))
noncomputable def sC:S:=
 (.cons (.ite (.cmp .Lt (.var 1) (.bt .len (.acons (.var 0) .anil)))
 (.cons (.ret (.ix (.var 0) (.var 1)))
 .nil)
 .nil)
 (.cons (.ret (.con (.int 0)))
 .nil))
noncomputable def xW:S:=
 (.cons (.ret (.bin .Mod (.bin .Add (.bin .Mult (.bin .Mod (.var 0) (.con (.int 1000003))) (.bin .Add (.con (.int 48271)) (.bin .Mult (.bin .Mult (.con (.int 15838)) (.var 1)) (.var 1)))) (.bin .Mult (.con (.int 69621)) (.var 1))) (.con (.int 2147483647))))
 .nil)
noncomputable def xX:S:=
 (.cons (.asg (.one 2) (.ix (.con (.str "abcdefghijklmnopqrstuvwxyz")) (.bin .Mod (.bin .Add (.var 0) (.bin .Mult (.var 1) (.ix (.lst (.acons (.con (.int 1)) (.acons (.con (.int 3)) (.acons (.con (.int 5)) (.acons (.con (.int 7)) .anil))))) (.bin .Mod (.bin .FloorDiv (.var 0) (.con (.int 26))) (.con (.int 4)))))) (.con (.int 26)))))
 (.cons (.asg (.one 3) (.ix (.lst (.acons (.con (.str "")) (.acons (.con (.str "a")) (.acons (.con (.str "ba")) (.acons (.con (.str "zzzzzzz")) .anil))))) (.bin .Mod (.bin .FloorDiv (.var 0) (.con (.int 104))) (.con (.int 4)))))
 (.cons (.asg (.one 4) (.bin .Mod (.bin .FloorDiv (.var 0) (.con (.int 416))) (.bin .Add (.bt .len (.acons (.var 3) .anil)) (.con (.int 1)))))
 (.cons (.ret (.bin .Add (.bin .Add (.sl (.var 3) .omit (.var 4)) (.var 2)) (.sl (.var 3) (.var 4) .omit)))
 .nil))))
noncomputable def xY:S:=
 (.cons (.ret (.bin .Mod (.bin .FloorDiv (.var 0) (.con (.int 6))) (.ix (.lst (.acons (.con (.int 7)) (.acons (.con (.int 7)) (.acons (.con (.int 40)) (.acons (.bin .Pow (.con (.int 10)) (.con (.int 9))) .anil))))) (.bin .Add (.bin .FloorDiv (.bin .Mod (.var 0) (.con (.int 6))) (.con (.int 2))) (.bin .FloorDiv (.bin .Mod (.var 0) (.con (.int 6))) (.con (.int 5)))))))
 .nil)
noncomputable def xZ:S:=
 (.cons (.asg (.one 3) (.call 21 (.acons (.var 0) (.acons (.var 1) .anil))))
 (.cons (.asg (.one 4) (.ix (.lst (.acons (.con (.str "a")) (.acons (.con (.str "b")) (.acons (.con (.str "a")) (.acons (.sl (.call 22 (.acons (.bin .Mult (.con (.int 7)) (.var 2)) (.acons (.var 3) .anil))) .omit (.con (.int 1))) .anil))))) (.bin .Mod (.var 3) (.con (.int 4)))))
 (.cons (.ret (.tup (.acons (.call 22 (.acons (.var 2) (.acons (.var 1) .anil))) (.acons (.var 4) (.acons (.call 23 (.acons (.bin .FloorDiv (.var 3) (.con (.int 4))) .anil)) (.acons (.call 23 (.acons (.call 21 (.acons (.var 0) (.acons (.bin .Add (.var 1) (.con (.int 20))) .anil))) .anil)) .anil))))))
 .nil)))
noncomputable def yA:S:=
 (.cons (.asg (.one 3) (.call 21 (.acons (.var 0) (.acons (.var 1) .anil))))
 (.cons (.asg (.one 4) (.ix (.lst (.acons (.con (.str "ab")) (.acons (.con (.str "a")) (.acons (.con (.str "bca")) (.acons (.con (.str "")) (.acons (.con (.str "abcdefghijklmnopqrstuvwxyz")) (.acons (.con (.str "zb")) .anil))))))) (.bin .Mod (.var 3) (.con (.int 6)))))
 (.cons (.ret (.tup (.acons (.call 22 (.acons (.var 2) (.acons (.var 1) .anil))) (.acons (.var 4) (.acons (.call 23 (.acons (.bin .FloorDiv (.var 3) (.con (.int 6))) .anil)) .anil)))))
 .nil)))
noncomputable def oG:E:=
 (.cmp .Eq (.bin .Mod (.bin .FloorDiv (.var 1) (.ix (.lst (.acons (.con (.int 1)) (.acons (.con (.int 3)) (.acons (.con (.int 9)) (.acons (.con (.int 27)) (.acons (.con (.int 81)) (.acons (.con (.int 243)) (.acons (.con (.int 729)) (.acons (.con (.int 2187)) .anil))))))))) (.var 0))) (.con (.int 3))) (.con (.int 0)))
noncomputable def oH:E:=
 (.var 0)
noncomputable def yB:S:=
 (.cons (.asg (.one 4) (.call 21 (.acons (.var 0) (.acons (.bin .Add (.var 1) (.con (.int 40))) .anil))))
 (.cons (.asg (.one 5) (.comp 1 [4] (.one 0) oH (.rng (.var 3)) oG))
 (.cons (.asg (.one 6) (.bin .Mod (.var 0) (.bin .Add (.bt .len (.acons (.var 5) .anil)) (.con (.int 1)))))
 (.cons (.asg (.one 4) (.call 21 (.acons (.var 0) (.acons (.var 1) .anil))))
 (.cons (.asg (.one 7) (.call 23 (.acons (.call 21 (.acons (.var 0) (.acons (.bin .Add (.var 1) (.con (.int 20))) .anil))) .anil)))
 (.cons (.ret (.tup (.acons (.call 22 (.acons (.var 2) (.acons (.var 1) .anil))) (.acons (.call 23 (.acons (.var 4) .anil)) (.acons (.var 7) (.acons (.bt .tuple (.acons (.bin .Add (.sl (.var 5) (.var 6) .omit) (.sl (.var 5) .omit (.var 6))) .anil)) .anil))))))
 .nil))))))
noncomputable def lT:S:=
 (.cons (.asg (.one 6) (.call 21 (.acons (.var 0) (.acons (.var 5) .anil))))
 (.cons (.asg (.one 7) (.tup (.acons (.bin .FloorDiv (.var 5) (.var 2)) (.acons (.bin .Mod (.var 5) (.var 2)) .anil))))
 (.cons (.ite (.cmp .Eq (.bin .Mod (.bin .FloorDiv (.var 6) (.con (.int 64))) (.var 3)) (.con (.int 0)))
 (.cons (.app 4 (.var 7))
 .nil)
 .nil)
 .nil)))
noncomputable def yC:S:=
 (.cons (.asgO 4 (.lst .anil))
 (.cons (.forS (.one 5) (.rng (.bin .Mult (.var 1) (.var 2))) lT)
 (.cons (.asg (.one 8) (.bin .Mod (.var 0) (.bin .Add (.bt .len (.acons (.rd 4) .anil)) (.con (.int 1)))))
 (.cons (.ret (.bin .Add (.sl (.rd 4) (.var 8) .omit) (.sl (.rd 4) .omit (.var 8))))
 .nil))))
noncomputable def lU:E:=
 (.call 20 (.acons (.var 1) (.acons (.bin .Add (.var 2) (.var 0)) .anil)))
noncomputable def yD:E:=
 (.call 24 (.acons (.ix (.var 1) (.con (.int 2))) (.acons (.var 0) (.acons (.ix (.var 1) (.con (.int 0))) .anil))))
noncomputable def yE:E:=
 (.call 25 (.acons (.ix (.var 1) (.con (.int 3))) (.acons (.var 0) (.acons (.ix (.var 1) (.con (.int 4))) .anil))))
noncomputable def oI:S:=
 (.cons (.app 6 (.call 26 (.acons (.var 8) (.acons (.var 7) (.acons (.ix (.var 2) (.con (.int 5))) (.acons (.var 3) .anil))))))
 .nil)
noncomputable def oJ:S:=
 (.cons (.app 9 (.tup (.acons (.var 10) (.acons (.var 11) (.acons (.bin .Mod (.call 21 (.acons (.ix (.var 2) (.con (.int 6))) (.acons (.bin .Add (.var 11) (.bin .Mult (.con (.int 9)) (.var 10))) .anil))) (.bin .Pow (.con (.int 10)) (.con (.int 9)))) .anil)))))
 .nil)
noncomputable def yF:S:=
 (.cons (.asg (.one 2) (.comp 1 [0,1] (.one 0) lU (.rng (.con (.int 8))) (.con (.bl true))))
 (.cons (.asg (.one 3) (.bin .Add (.bin .Mod (.ix (.var 2) (.con (.int 1))) (.con (.int 7))) (.bin .Mult (.con (.int 2)) (.bt .int (.acons (.and (.cmp .Eq (.bin .Mod (.bin .FloorDiv (.ix (.var 2) (.con (.int 1))) (.con (.int 7))) (.con (.int 8))) (.con (.int 5))) (.cmp .Eq (.bin .Mod (.ix (.var 2) (.con (.int 1))) (.con (.int 7))) (.con (.int 6)))) .anil)))))
 (.cons (.asg (.one 4) (.bt .tuple (.acons (.comp 1 [2] (.one 0) yD (.rng (.var 3)) (.con (.bl true))) .anil)))
 (.cons (.asg (.one 5) (.bt .tuple (.acons (.comp 1 [2] (.one 0) yE (.rng (.bin .Mod (.bin .FloorDiv (.ix (.var 2) (.con (.int 1))) (.con (.int 56))) (.con (.int 7)))) (.con (.bl true))) .anil)))
 (.cons (.asgO 6 (.lst .anil))
 (.cons (.forS (.many [7,8]) (.enum (.sl (.var 0) (.bin .Add (.var 1) (.con (.int 8))) (.bin .Add (.var 1) (.con (.int 17))))) oI)
 (.cons (.asgO 9 (.lst .anil))
 (.cons (.forS (.many [10,11]) (.seq (.call 27 (.acons (.ix (.var 2) (.con (.int 6))) (.acons (.bt .len (.acons (.var 5) .anil)) (.acons (.var 3) (.acons (.con (.int 3)) .anil)))))) oJ)
 (.cons (.asg (.one 12) (.bt .tuple (.acons (.call 27 (.acons (.ix (.var 2) (.con (.int 7))) (.acons (.var 3) (.acons (.bt .len (.acons (.var 5) .anil)) (.acons (.con (.int 2)) .anil))))) .anil)))
 (.cons (.ret (.tup (.acons (.var 4) (.acons (.var 5) (.acons (.bt .tuple (.acons (.rd 6) .anil)) (.acons (.bt .tuple (.acons (.rd 9) .anil)) (.acons (.var 12) .anil)))))))
 .nil))))))))))
noncomputable def yG:E:=
 (.tup (.acons (.var 0) (.acons (.con (.str "a")) (.acons (.con (.int 0)) (.acons (.con (.int 0)) .anil)))))
noncomputable def yH:E:=
 (.tup (.acons (.var 0) (.acons (.con (.str "ba")) (.acons (.var 2) .anil))))
noncomputable def yI:E:=
 (.bin .Mod (.call 21 (.acons (.var 1) (.acons (.var 0) .anil))) (.bt .len (.acons (.var 2) .anil)))
noncomputable def yJ:E:=
 (.ix (.var 1) (.var 0))
noncomputable def lV:S:=
 (.cons (.ite (.cmp .NotIn (.ix (.var 4) (.var 11)) (.comp 1 [4] (.one 0) yJ (.seq (.rd 10)) (.con (.bl true))))
 (.cons (.app 10 (.var 11))
 .nil)
 .nil)
 .nil)
noncomputable def sD:S:=
 (.cons (.asgO 10 (.lst .anil))
 (.cons (.forS (.one 11) (.seq (.var 9)) lV)
 (.cons (.app 5 (.tup (.acons (.var 6) (.acons (.var 7) (.acons (.var 8) (.acons (.bt .tuple (.acons (.rd 10) .anil)) .anil))))))
 .nil)))
noncomputable def yK:S:=
 (.cons (.asg (.one 2) (.bt .tuple (.acons (.comp 4 [] (.many [0,1,2,3]) yG (.seq (.ix (.var 0) (.con (.int 0)))) (.con (.bl true))) .anil)))
 (.cons (.asg (.one 3) (.bt .tuple (.acons (.comp 3 [] (.many [0,1,2]) yH (.seq (.ix (.var 0) (.con (.int 1)))) (.con (.bl true))) .anil)))
 (.cons (.asg (.one 4) (.comp 1 [1,3] (.one 0) yI (.rng (.bt .len (.acons (.var 2) .anil))) (.con (.bl true))))
 (.cons (.asgO 5 (.lst .anil))
 (.cons (.forS (.many [6,7,8,9]) (.seq (.sl (.ix (.var 0) (.con (.int 2))) .omit (.con (.int 5)))) sD)
 (.cons (.ret (.tup (.acons (.tup (.acons (.var 2) (.acons (.var 3) (.acons (.bt .tuple (.acons (.rd 5) .anil)) (.acons (.ix (.var 0) (.con (.int 3))) (.acons (.ix (.var 0) (.con (.int 4))) .anil)))))) (.acons (.var 4) .anil))))
 .nil))))))
noncomputable def sE:E:=
 (.cmp .Eq (.bin .Mod (.bin .FloorDiv (.var 1) (.ix (.lst (.acons (.con (.int 1)) (.acons (.con (.int 3)) (.acons (.con (.int 9)) (.acons (.con (.int 27)) (.acons (.con (.int 81)) (.acons (.con (.int 243)) .anil))))))) (.var 0))) (.con (.int 3))) (.con (.int 0)))
noncomputable def sF:E:=
 (.var 0)
noncomputable def yL:S:=
 (.cons (.ret (.comp 1 [1] (.one 0) sF (.rng (.bt .len (.acons (.ix (.var 0) (.con (.int 1))) .anil))) sE))
 .nil)
noncomputable def yM:E:=
 (.cmp .Lt (.bt .len (.acons (.var 0) .anil)) (.var 2))
noncomputable def yN:E:=
 (.bin .Add (.var 0) (.tup (.acons (.var 1) .anil)))
noncomputable def yO:S:=
 (.cons (.asg (.one 2) (.bin .Add (.var 2) (.comp 1 [3,1] (.one 0) yN (.seq (.var 2)) yM)))
 .nil)
noncomputable def yP:S:=
 (.cons (.asg (.one 2) (.lst (.acons (.tup .anil) .anil)))
 (.cons (.forS (.one 3) (.rng (.var 0)) yO)
 (.cons (.retK (.var 2))
 .nil)))
noncomputable def yQ:E:=
 (.ix (.var 0) (.con (.int 0)))
noncomputable def sG:E:=
 (.cmp .Eq (.ix (.var 1) (.var 0)) (.con (.str "lacks")))
noncomputable def sH:E:=
 (.var 0)
noncomputable def yR:S:=
 (.cons (.asg (.one 3) (.comp 1 [] (.one 0) yQ (.seq (.call 15 (.acons (.var 0) (.acons (.var 1) (.acons (.bt .list (.acons (.var 2) .anil)) .anil))))) (.con (.bl true))))
 (.cons (.asg (.one 4) (.comp 1 [3] (.one 0) sH (.rng (.bt .len (.acons (.var 3) .anil))) sG))
 (.cons (.ret (.ix (.bin .Add (.var 4) (.lst (.acons (.con .non) .anil))) (.con (.int 0))))
 .nil)))
noncomputable def yS:S:=
 (.cons (.asg (.one 6) (.ix (.call 14 (.acons (.var 1) (.acons (.var 2) (.acons (.var 3) (.acons (.var 5) .anil))))) (.con (.int 0))))
 (.cons (.ite (.or (.not (.isi (.ix (.var 4) (.var 5)) .tuple)) (.cmp .NotEq (.ix (.ix (.var 4) (.var 5)) (.con (.int 0))) (.var 6)))
 (.cons (.ret (.con (.bl false)))
 .nil)
 .nil)
 .nil))
noncomputable def yT:E:=
 (.ix (.var 0) (.con (.int 0)))
noncomputable def yU:S:=
 (.cons (.ite (.or (.not (.isi (.var 10) .tuple)) (.or (.isi (.var 5) .bool) (.cmp .NotEq (.var 5) (.call 32 (.acons (.var 1) (.acons (.var 2) (.acons (.var 10) .anil)))))))
 (.cons (.ret (.con (.bl false)))
 .nil)
 .nil)
 .nil)
noncomputable def fD:S:=
 (.cons (.asg (.one 1) (.call 28 (.acons (.var 0) (.acons (.con (.int 3)) .anil))))
 (.cons (.ite (.cmp .Eq (.ix (.var 1) (.con (.int 1))) (.tup .anil))
 (.cons (.ret (.con (.bl true)))
 .nil)
 .nil)
 (.cons (.asg (.many [1,2]) (.call 29 (.acons (.var 1) (.acons (.call 20 (.acons (.var 0) (.acons (.con (.int 0)) .anil))) .anil))))
 (.cons (.asg (.one 3) (.call 30 (.acons (.var 1) (.acons (.call 20 (.acons (.var 0) (.acons (.con (.int 1)) .anil))) .anil))))
 (.cons (.asg (.one 4) (.call 15 (.acons (.var 1) (.acons (.var 2) (.acons (.var 3) .anil)))))
 (.cons (.ite (.or (.not (.isi (.var 4) .list)) (.cmp .NotEq (.bt .len (.acons (.var 4) .anil)) (.bt .len (.acons (.ix (.var 1) (.con (.int 2))) .anil))))
 (.cons (.ret (.con (.bl false)))
 .nil)
 .nil)
 (.cons (.forS (.one 5) (.rng (.bt .len (.acons (.ix (.var 1) (.con (.int 2))) .anil))) yS)
 (.cons (.asg (.one 7) (.bin .Mod (.call 20 (.acons (.var 0) (.acons (.con (.int 2)) .anil))) (.con (.int 5))))
 (.cons (.asgO 8 (.call 19 (.acons (.var 1) (.acons (.var 2) (.acons (.var 7) .anil)))))
 (.cons (.asg (.one 9) (.call 31 (.acons (.bt .len (.acons (.ix (.var 1) (.con (.int 1))) .anil)) (.acons (.var 7) .anil))))
 (.cons (.ite (.or (.not (.isi (.rd 8) .list)) (.or (.cmp .NotEq (.comp 1 [] (.one 0) yT (.seq (.rd 8)) (.con (.bl true))) (.var 9)) (.cmp .NotEq (.ix (.rd 8) (.con (.int 0))) (.tup (.acons (.tup .anil) (.acons (.con .non) .anil))))))
 (.cons (.ret (.con (.bl false)))
 .nil)
 .nil)
 (.cons (.forS (.many [10,5]) (.seq (.rd 8)) yU)
 (.cons (.app 8 (.con .non))
 (.cons (.ret (.cmp .Eq (.call 19 (.acons (.var 1) (.acons (.var 2) (.acons (.var 7) .anil)))) (.sl (.rd 8) .omit (.neg (.con (.int 1))))))
 .nil))))))))))))))
noncomputable def gP:S:=
 (.cons (.ite (.cmp .NotIn (.var 4) (.rd 2))
 (.cons (.dputR 2 (.var 4) (.con (.bl true)))
 (.cons (.ifR false (.cmp .NotIn (.var 4) (.rd 1)) 34 (.var 0) 1 2 (.ix (.rd 1) (.var 4))
 (.cons (.dputR 1 (.var 4) (.var 3))
 (.cons (.retR (.con (.bl true)) 1 2)
 .nil))
 .nil)
 .nil))
 .nil)
 .nil)
noncomputable def oK:S:=
 (.cons (.forS (.one 4) (.seq (.ix (.var 0) (.var 3))) gP)
 (.cons (.retR (.con (.bl false)) 1 2)
 .nil))
noncomputable def T:Tab:=⟨λg=>match g with|0=>(.int 0)|1=>(.int 1)|2=>(.int 2)|3=>(.int 4)|_=>.non,λf=>f==5||f==8||f==10||f==11||f==15||f==17||f==18||f==19||f==30,λf=>match f with|34=>some 1000|_=>none⟩
@[simp] theorem T_glob0:T.glob 0=(.int 0):=id rfl
@[simp] theorem T_glob1:T.glob 1=(.int 1):=id rfl
@[simp] theorem T_glob2:T.glob 2=(.int 2):=id rfl
@[simp] theorem T_glob3:T.glob 3=(.int 4):=id rfl
@[simp] theorem T_fresh2:T.fresh 2=false:=id rfl
@[simp] theorem T_fresh12:T.fresh 12=false:=id rfl
@[simp] theorem T_fresh13:T.fresh 13=false:=id rfl
@[simp] theorem T_fresh19:T.fresh 19=true:=id rfl
noncomputable def dfs:List Df:=[⟨4,3,wX,none⟩,⟨3,3,wY,none⟩,⟨7,4,rK,none⟩,⟨5,4,lP,none⟩,⟨5,3,rM,none⟩,⟨4,1,xA,none⟩,⟨3,3,oE,none⟩,⟨3,3,rP,none⟩,⟨3,2,xC,none⟩,⟨2,2,xD,none⟩,⟨4,4,xE,none⟩,⟨7,5,xG,none⟩,⟨4,3,xI,none⟩,⟨10,4,sA,none⟩,⟨4,4,xM,none⟩,⟨3,3,xO,none⟩,⟨4,3,xP,none⟩,⟨5,2,xR,none⟩,⟨5,2,xT,none⟩,⟨3,3,xV,none⟩,⟨2,2,sC,none⟩,⟨2,2,xW,none⟩,⟨5,2,xX,none⟩,⟨1,1,xY,none⟩,⟨5,3,xZ,none⟩,⟨5,3,yA,none⟩,⟨8,4,yB,none⟩,⟨9,4,yC,none⟩,⟨13,2,yF,none⟩,⟨12,2,yK,none⟩,⟨2,2,yL,none⟩,⟨4,2,yP,none⟩,⟨5,3,yR,none⟩,⟨11,1,fD,none⟩,⟨5,4,oK,none⟩]
theorem sI(n:Nat)(ns:List Int)(k:Nat):aB T dfs (n+1) 20 [.lst (ns.map D.int),.int k]=.ok (.int (dR ns k)):=by
 unfold dR
 refine bP (k:=false) rfl rfl rfl ?_
 by_cases h:k<ns.length
 ·have hi:(ns.map D.int)[k]?=some (.int (ns.getD k 0)):=by simp[h]
  have f1:bJ T ((E.var 0).ix (E.var 1))=false:=rfl
  simp[sC,h,iY hi,f1]
 ·simp[sC,h]
noncomputable def gQ(c:Int):Int:=if c/26%4=0 then 1 else if c/26%4=1 then 3 else if c/26%4=2 then 5 else 7
noncomputable def cE(c:Int):List Nat:=if c/104%4=0 then []else if c/104%4=1 then [97]else if c/104%4=2 then [98,97]else [122,122,122,122,122,122,122]
noncomputable def atV(c:Int):Nat:=(c/416%(((cE c).length:Int)+1)).toNat
noncomputable def sJ(c k:Int):Nat:=97+((c+k*gQ c)%26).toNat
noncomputable def gR(c k:Int):List Nat:=(cE c).take (atV c)++sJ c k::(cE c).drop (atV c)
noncomputable def dU(c k:Int):Str:=⟨(gR c k).toArray⟩
theorem D9(c k:Int):dM (dU c k)=gR c k:=by simp[dM,dU]
theorem D_(c:Int):(cE c).length<=7:=by
 unfold cE
 repeat' split
 all_goals simp
theorem Da(c:Int):atV c<=(cE c).length:=by
 unfold atV
 have:=zW (c/416) (show(0:Int)<((cE c).length:Int)+1 by lia)
 lia
theorem Dc(c k:Int):(gR c k).length=(cE c).length+1:=by
 have:=Da c
 unfold gR
 rw[cD,aW,jG,tB]
 lia
theorem JS (i:Int) (h:0<=i/\i<26):D.ix (.str "abcdefghijklmnopqrstuvwxyz") (.int i)=.ok (.str (hE (97+i.toNat))):=by
 have hb:=bN
 have a:∀j:Fin 26,atI (("abcdefghijklmnopqrstuvwxyz" : Str).cps.toList) ((j.val:Nat):Int)=some (97+j.val):=by decide
 have:=a ⟨i.toNat,by lia⟩
 rw[show((i.toNat:Nat):Int)=i by lia]at this
 show aC (decide (("abcdefghijklmnopqrstuvwxyz" : Str).length<=big)) (Res.of ((atI ("abcdefghijklmnopqrstuvwxyz" : Str).cps.toList i).map λc=>D.str ⟨#[c]⟩))=_
 rw[this,show decide (("abcdefghijklmnopqrstuvwxyz" : Str).length<=big)=true by
  rw[show("abcdefghijklmnopqrstuvwxyz" : Str).length=26 by decide];simp;lia]
 rfl
noncomputable def eF(c:Int):Str:=⟨(cE c).toArray⟩
theorem sL{α:Type}(a b c d:α)(i:Int)(h:0<=i/\i<4):atI [a,b,c,d] i=some (if i=0 then a else if i=1 then b else if i=2 then c else d):=by
 have:i=0\/i=1\/i=2\/i=3:=by lia
 rcases this with rfl|rfl|rfl|rfl<;>rfl
theorem sM(n:Nat)(c k:Int):aB T dfs (n+1) 22 [.int c,.int k]=.ok (.str (dU c k)):=by
 refine bP (k:=true) rfl rfl rfl ?_
 have hb:=bN
 have r1:0<=c/26%4/\c/26%4<4:=by lia
 have r2:0<=c/104%4/\c/104%4<4:=by lia
 have e1:D.ix (.lst [.int 1,.int 3,.int 5,.int 7]) (.int (c/26%4))=.ok (.int (gQ c)):=by
  show Res.of (atI _ _)=_
  rw[sL _ _ _ _ _ r1]
  unfold gQ
  repeat' split
  all_goals rfl
 have e2:D.ix (.lst [.str "", .str "a", .str "ba", .str "zzzzzzz"]) (.int (c/104%4))=.ok (.str (eF c)):=by
  show Res.of (atI _ _)=_
  rw[sL _ _ _ _ _ r2]
  unfold eF cE
  repeat' split
  ·exact congrArg (λz=>Res.ok (D.str z)) (show("" : Str)=_ by decide)
  ·exact congrArg (λz=>Res.ok (D.str z)) (show("a" : Str)=_ by decide)
  ·exact congrArg (λz=>Res.ok (D.str z)) (show("ba" : Str)=_ by decide)
  ·exact congrArg (λz=>Res.ok (D.str z)) (show("zzzzzzz" : Str)=_ by decide)
 have hs:dM (eF c)=cE c:=by simp[dM,eF]
 have hl:=rH (eF c)
 rw[hs]at hl
 have ht:=D_ c
 have ha:=Da c
 have e3:D.bin .Mult (.int k) (.int (gQ c))=.ok (.int (k*gQ c)):=by
  show aC (dN k||dN (gQ c)) _=_
  have:dN (gQ c)=true:=by
   unfold gQ
   repeat' split
   all_goals decide
  rw[this,Ej];rfl
 have r3:0<=(c+k*gQ c)%26/\(c+k*gQ c)%26<26:=by lia
 have e4:=JS _ r3
 have e5:(eF c).length<=big:=by lia
 have e6:(0:Int)<(cE c).length+1:=by lia
 have e7:c/416%(((cE c).length:Int)+1)=(atV c:Int):=by
  unfold atV
  have:=pB (c/416) (show((cE c).length:Int)+1≠0 by lia)
  lia
 have e8:D.sl (.str (eF c)) none (some (atV c:Int))=.ok (.str ⟨((cE c).take (atV c)).toArray⟩):=by
  show aC (decide ((eF c).length<=big)) (.ok (D.str (iN (eF c) none (some (atV c:Int)))))=_
  rw[show decide ((eF c).length<=big)=true by simpa using e5]
  unfold iN
  rw[show(eF c).cps.toList=cE c from hs]
  have:cut (cE c) none (some (atV c:Int))=(cE c).take (atV c):=by
   unfold cut sIx
   simp only[]
   rw[if_neg (by lia),kY,mJ ha,oX,tF]
  rw[this];rfl
 have e9:D.sl (.str (eF c)) (some (atV c:Int)) none=.ok (.str ⟨((cE c).drop (atV c)).toArray⟩):=by
  show aC (decide ((eF c).length<=big)) (.ok (D.str (iN (eF c) (some (atV c:Int)) none)))=_
  rw[show decide ((eF c).length<=big)=true by simpa using e5]
  unfold iN
  rw[show(eF c).cps.toList=cE c from hs,wO ha];rfl
 have e10:D.bin .Add (.str ⟨((cE c).take (atV c)).toArray⟩) (.str (hE (97+((c+k*gQ c)%26).toNat)))=.ok (.str ⟨((cE c).take (atV c)++[sJ c k]).toArray⟩):=by
  exact DW (a:=(cE c).take (atV c)) (b:=[sJ c k]) (by simp;lia)
 have e11:D.bin .Add (.str ⟨((cE c).take (atV c)++[sJ c k]).toArray⟩) (.str ⟨((cE c).drop (atV c)).toArray⟩)=.ok (.str (dU c k)):=by
  rw[DW (by simp;lia)]
  unfold dU gR
  rw[oU];rfl
 have e12:(cE c).length<=big:=by lia
 simp[xX,e1,e2,e3,e4,hl,e12,e6,e7,e8,e9,e10,e11]
noncomputable def minV(x:Int):Int:=x/6%(if x%6<4 then 7 else if x%6=4 then 40 else 1000000000)
theorem sN(x:Int):0<=minV x/\minV x<1000000000:=by
 unfold minV
 repeat' split
 all_goals lia
theorem oM(n:Nat)(x:Int):aB T dfs (n+1) 23 [.int x]=.ok (.int (minV x)):=by
 refine bP (k:=false) rfl rfl rfl ?_
 have e0:D.bin .Pow (.int 10) (.int 9)=.ok (.int 1000000000):=by rfl
 have e1:D.ix (.lst [.int 7,.int 7,.int 40,.int 1000000000]) (.int (x%6/2+x%6/5))=.ok (.int (if x%6<4 then 7 else if x%6=4 then 40 else 1000000000)):=by
  show Res.of (atI _ _)=_
  rw[sL _ _ _ _ _ (by lia)]
  repeat' split
  all_goals first|rfl|(exfalso;lia)
 have e2:(0:Int)<(if x%6<4 then 7 else if x%6=4 then 40 else 1000000000):=by
  repeat' split
  all_goals lia
 simp[xY,e0,e1,e2,minV]
noncomputable def aN(c k:Int):Int:=(c%1000003*(48271+15838*k*k)+69621*k)%2147483647
theorem yV(c k:Int):0<=aN c k/\aN c k<2147483647:=by unfold aN;lia
theorem kN{i j:Int}(h:dN i=true\/dN j=true):D.bin .Mult (.int i) (.int j)=.ok (.int (i*j)):=by
 show aC (dN i||dN j) _=_
 rcases h with h|h
 ·rw[h];rfl
 ·rw[h,Ej];rfl
theorem jD(n:Nat)(c k:Int)(hk:0<=k/\k<1000000):aB T dfs (n+1) 21 [.int c,.int k]=.ok (.int (aN c k)):=by
 refine bP (k:=false) rfl rfl rfl ?_
 have hk2:dN k=true:=by unfold dN;simp;lia
 have e1:D.bin .Mult (.int 15838) (.int k)=.ok (.int (15838*k)):=kN (.inr hk2)
 have e2:D.bin .Mult (.int (15838*k)) (.int k)=.ok (.int (15838*k*k)):=kN (.inr hk2)
 have e3:D.bin .Mult (.int 69621) (.int k)=.ok (.int (69621*k)):=kN (.inr hk2)
 have e4:D.bin .Mult (.int (c%1000003)) (.int (48271+15838*k*k))=.ok (.int (c%1000003*(48271+15838*k*k))):=kN (.inl (by unfold dN;simp;lia))
 simp[xW,e1,e2,e3,e4,aN]
noncomputable def yW:List Nat->Nat
 |a::_=>a
 |[]=>97
noncomputable def sO(x base:Int):Nat:=if x%4=0 then 97 else if x%4=1 then 98 else if x%4=2 then 97 else yW (gR (7*base) x)
theorem JT(c k:Int):∃a r,gR c k=a::r:=by
 have:=Dc c k
 cases e:gR c k with
 |nil=>rw[e]at this;simp at this
 |cons a r=>exact⟨a,r,rfl⟩
noncomputable def oN(cell base:Int)(k:Nat):Str×List D:=(dU base k,[.str (hE (sO (aN cell k) base)),.int (minV (aN cell k/4)),.int (minV (aN cell (k+20)))])
theorem JU(n:Nat)(cell base:Int)(k:Nat)(hk:k<1000):aB T dfs (n+2) 24 [.int cell,.int k,.int base]=.ok (ent (oN cell base k)):=by
 refine bP (k:=false) rfl rfl rfl ?_
 have hb:=bN
 have e1:=jD n cell k (by lia)
 have e2:=jD n cell (k+20) (by lia)
 have e3:=sM n base k
 have e4:=sM n (7*base) (aN cell k)
 have e5:=oM n (aN cell k/4)
 have e6:=oM n (aN cell (k+20))
 have e7:D.bin .Mult (.int 7) (.int base)=.ok (.int (7*base)):=kN (.inl (by decide))
 have e8:D.sl (.str (dU (7*base) (aN cell k))) none (some 1)=.ok (.str (hE (yW (gR (7*base) (aN cell k))))):=by
  obtain⟨a,r,e⟩:=JT (7*base) (aN cell k)
  have hl:(dU (7*base) (aN cell k)).length<=big:=by
   rw[rH,D9,Dc];have:=D_ (7*base);lia
  show aC (decide ((dU (7*base) (aN cell k)).length<=big)) (.ok (D.str (iN (dU (7*base) (aN cell k)) none (some 1))))=_
  rw[show decide ((dU (7*base) (aN cell k)).length<=big)=true by simpa using hl]
  unfold iN
  rw[show(dU (7*base) (aN cell k)).cps.toList=gR (7*base) (aN cell k)from D9 _ _,e]
  have:cut (a::r) none (some 1)=[a]:=by
   unfold cut sIx;simp
  rw[this];rfl
 have r:=yV cell k
 have e9:D.ix (.lst [.str "a", .str "b", .str "a", .str (hE (yW (gR (7*base) (aN cell k))))]) (.int (aN cell k%4))=.ok (.str (hE (sO (aN cell k) base))):=by
  show Res.of (atI _ _)=_
  rw[sL _ _ _ _ _ (by lia)]
  unfold sO
  repeat' split
  ·exact congrArg (λz=>Res.ok (D.str z)) (show("a" : Str)=_ by decide)
  ·exact congrArg (λz=>Res.ok (D.str z)) (show("b" : Str)=_ by decide)
  ·exact congrArg (λz=>Res.ok (D.str z)) (show("a" : Str)=_ by decide)
  ·rfl
 simp[xZ,e1,e2,e3,e4,e5,e6,e7,e8,e9,ent,oN]
noncomputable def sP (x:Int):Str:=if x%6=0 then "ab" else if x%6=1 then "a" else if x%6=2 then "bca" else if x%6=3 then "" else if x%6=4 then "abcdefghijklmnopqrstuvwxyz" else "zb"
noncomputable def oO(cell base:Int)(k:Nat):Str×List D:=(dU base k,[.str (sP (aN cell k)),.int (minV (aN cell k/6))])
theorem Dd{α:Type}(a b c d e f:α)(i:Int)(h:0<=i/\i<6):atI [a,b,c,d,e,f] i=some (if i=0 then a else if i=1 then b else if i=2 then c else if i=3 then d else if i=4 then e else f):=by
 have:i=0\/i=1\/i=2\/i=3\/i=4\/i=5:=by lia
 rcases this with rfl|rfl|rfl|rfl|rfl|rfl<;>rfl
theorem JV(n:Nat)(cell base:Int)(k:Nat)(hk:k<1000):aB T dfs (n+2) 25 [.int cell,.int k,.int base]=.ok (ent (oO cell base k)):=by
 refine bP (k:=false) rfl rfl rfl ?_
 have hb:=bN
 have e1:=jD n cell k (by lia)
 have e3:=sM n base k
 have e5:=oM n (aN cell k/6)
 have r:=yV cell k
 have e9:D.ix (.lst [.str "ab", .str "a", .str "bca", .str "", .str "abcdefghijklmnopqrstuvwxyz", .str "zb"]) (.int (aN cell k%6))=.ok (.str (sP (aN cell k))):=by
  show Res.of (atI _ _)=_
  rw[Dd _ _ _ _ _ _ _ (by lia)]
  unfold sP
  repeat' split
  all_goals rfl
 simp[yA,e1,e3,e5,e9,ent,oO]
noncomputable def cQ(j:Nat):Int:=if j=0 then 1 else if j=1 then 3 else if j=2 then 9 else if j=3 then 27 else if j=4 then 81 else if j=5 then 243 else if j=6 then 729 else 2187
noncomputable def inV(x:Int)(j:Nat):Bool:=decide (x/cQ j%3=0)
theorem JW{α:Type}(a b c d e f g h:α)(i:Nat)(hi:i<8):atI [a,b,c,d,e,f,g,h] (i:Int)=some (if i=0 then a else if i=1 then b else if i=2 then c else if i=3 then d else if i=4 then e else if i=5 then f else if i=6 then g else h):=by
 have:i=0\/i=1\/i=2\/i=3\/i=4\/i=5\/i=6\/i=7:=by lia
 rcases this with rfl|rfl|rfl|rfl|rfl|rfl|rfl|rfl<;>rfl
theorem De(j:Nat):0<cQ j/\cQ j<1073741824:=by
 unfold cQ
 repeat' split
 all_goals lia
theorem Dg(n:Nat)(x:Int)(a b c d f g h:Sl):∀xs:List Nat,(∀j∈xs,j<8)->aY (aI T (aB T dfs n) 1 [4] (.one 0) oH oG [a,b,c,d,.v (.int x),f,g,h]) (xs.map λj:Nat=>D.int j)=.ok ((xs.filter (inV x)).map λj:Nat=>D.int j)
 |[],_=>rfl
 |j::r,hj=>by
  have h8:=hj j bC
  have e1:D.ix (.lst [.int 1,.int 3,.int 9,.int 27,.int 81,.int 243,.int 729,.int 2187]) (.int j)=.ok (.int (cQ j)):=by
   show Res.of (atI _ _)=_
   rw[JW _ _ _ _ _ _ _ _ j h8]
   unfold cQ
   repeat' split
   all_goals rfl
  have hp:=De j
  have e2:D.bin .FloorDiv (.int x) (.int (cQ j))=.ok (.int (x/cQ j)):=by
   show aC (decide (0<cQ j)&&decide (cQ j<1073741824)) _=_
   rw[show decide (0<cQ j)=true by simpa using hp.1,show decide (cQ j<1073741824)=true by simpa using hp.2]
   rfl
  rw[aK,aY,Dg n x a b c d f g h r λi hi=>hj i (aR _ hi)]
  by_cases q:x/cQ j%3=0
  ·have q':inV x j=true:=by unfold inV;simpa using q
   rw[LX q']
   simp[aI,Tr.aX,oH,oG,e1,e2,q]
  ·have q':¬inV x j=true:=by unfold inV;simpa using q
   rw[LY q']
   simp[aI,Tr.aX,oH,oG,e1,e2,q]
noncomputable def kO(x:Int)(many:Nat):List Nat:=(aD many).filter (inV x)
theorem JX(x:Int)(many:Nat):(kO x many).length<=many:=by
 have:=iL (inV x) (aD many)
 rw[cC]at this
 exact this
noncomputable def jU(cell:Int)(k many:Nat):List Nat:=fC cell (kO (aN cell (k+40)) many)
noncomputable def oP(cell base:Int)(k many:Nat):Str×List D:=(dU base k,[.int (minV (aN cell k)),.int (minV (aN cell (k+20))),.tup ((jU cell k many).map λj:Nat=>D.int j)])
theorem JY(n:Nat)(cell base:Int)(k many:Nat)(hk:k<1000)(hm:many<=8):aB T dfs (n+2) 26 [.int cell,.int k,.int base,.int many]=.ok (ent (oP cell base k many)):=by
 refine bP (k:=false) rfl rfl rfl ?_
 have hb:=bN
 have e0:=jD n cell (k+40) (by lia)
 have e1:=jD n cell k (by lia)
 have e2:=jD n cell (k+20) (by lia)
 have e3:=sM n base k
 have e4:=oM n (aN cell k)
 have e5:=oM n (aN cell (k+20))
 have e6:jS (.int (many:Int))=.ok ((aD many).map λj:Nat=>D.int j):=by
  rw[lK (by lia),iZ]
  simp
 have e7:=λa b c d f g h=>Dg (n+1) (aN cell (k+40)) a b c d f g h (aD many) λj hj=>by rw[cV]at hj;lia
 have hl:=JX (aN cell (k+40)) many
 have e7':∀a b c d f g h,aY (aI T (aB T dfs (n+1)) 1 [4] (.one 0) oH oG [a,b,c,d,.v (.int (aN cell (k+40))),f,g,h]) ((aD many).map λj:Nat=>D.int j)=.ok ((kO (aN cell (k+40)) many).map λj:Nat=>D.int j):=e7
 clear e7
 have hw:jU cell k many=fC cell (kO (aN cell (k+40)) many):=rfl
 generalize kO (aN cell (k+40)) many=L at *
 have hr:=DY cell L
 have e8:cell%((L.length:Int)+1)=(((cell%((L.length:Int)+1)).toNat:Nat):Int):=by
  have:=pB cell (show(L.length:Int)+1≠0 by lia)
  lia
 have e9:(0:Int)<(L.length:Int)+1:=by lia
 have hL:(L.map λj:Nat=>D.int j).length=L.length:=aE ..
 have e10:cut (L.map λj:Nat=>D.int j) (some (cell%((L.length:Int)+1))) none=(L.map λj:Nat=>D.int j).drop (cell%((L.length:Int)+1)).toNat:=by
  rw[e8];exact wO (by rw[hL];lia)
 have e11:cut (L.map λj:Nat=>D.int j) none (some (cell%((L.length:Int)+1)))=(L.map λj:Nat=>D.int j).take (cell%((L.length:Int)+1)).toNat:=by
  rw[e8];exact wQ (by rw[hL];lia)
 have e12:D.bin .Add (.lst ((L.map λj:Nat=>D.int j).drop (cell%((L.length:Int)+1)).toNat)) (.lst ((L.map λj:Nat=>D.int j).take (cell%((L.length:Int)+1)).toNat))=.ok (.lst ((jU cell k many).map λj:Nat=>D.int j)):=by
  rw[DX (by rw[tB,jG,hL];lia),hw,<-D1]
  unfold fC
  rw[hL]
 have e13:many<=big:=by lia
 have e14:L.length<=big:=by lia
 simp[yB,e0,e1,e2,e3,e4,e5,e6,e7',e9,e10,e11,e12,e13,e14,ent,oP]
noncomputable def jV(cell share:Int)(k:Nat):Bool:=decide (aN cell k/64%share=0)
noncomputable def prD(p:Nat×Nat):D:=.tup [.int p.1,.int p.2]
noncomputable def prs(cell share:Int)(other:Nat)(xs:List Nat):List (Nat×Nat):=(xs.filter (jV cell share)).map λk=>(k/other,k%other)
theorem JZ(n:Nat)(cell one share:Int)(other k:Nat)(ho:0<other/\other<1000)(hs:0<share)(hk:k<1000)(acc:List D)(ha:acc.length<1000)(x y z w:Sl) :
 aM T (aB T dfs (n+1)) (.one 5) lT (.int k) [.v (.int cell),.v (.int one),.v (.int other),.v (.int share),.o (.lst acc),x,y,z,w] =
  .ok (.nx [.v (.int cell),.v (.int one),.v (.int other),.v (.int share),.o (.lst (if jV cell share k then acc++[prD (k/other,k%other)]else acc)),.v (.int k),.v (.int (aN cell k)),.v (prD (k/other,k%other)),w]):=by
 have hb:=bN
 have e1:=jD n cell k (by lia)
 have e2:D.bin .FloorDiv (.int k) (.int other)=.ok (.int ((k/other:Nat):Int)):=by
  show aC (decide ((0:Int)<other)&&decide ((other:Int)<1073741824)) _=_
  rw[show decide ((0:Int)<other)=true by simp;lia,show decide ((other:Int)<1073741824)=true by simp;lia]
  simp
 have e3:D.bin .Mod (.int k) (.int other)=.ok (.int ((k%other:Nat):Int)):=by
  show aC (decide ((0:Int)<other)) _=_
  rw[show decide ((0:Int)<other)=true by simp;lia]
  simp
 have e4:acc.length<big:=by lia
 by_cases q:aN cell k/64%share=0
 ·have q':jV cell share k=true:=by unfold jV;simpa using q
  simp[aM,lT,e1,e2,e3,hs,q,q',e4,prD]
 ·have q':jV cell share k=false:=by unfold jV;simpa using q
  simp[aM,lT,e1,e2,e3,hs,q,q',prD]
theorem Dh(n:Nat)(cell one share:Int)(other:Nat)(ho:0<other/\other<1000)(hs:0<share)(w:Sl):∀(xs:List Nat)(acc:List D)(x y z:Sl),(∀k∈xs,k<1000)->acc.length+xs.length<1000 ->
 ∃x' y' z',aP (aM T (aB T dfs (n+1)) (.one 5) lT) (xs.map λk:Nat=>D.int k) [.v (.int cell),.v (.int one),.v (.int other),.v (.int share),.o (.lst acc),x,y,z,w] =
  .ok (.nx [.v (.int cell),.v (.int one),.v (.int other),.v (.int share),.o (.lst (acc++(prs cell share other xs).map prD)),x',y',z',w])
 |[],acc,x,y,z,_,_=>⟨x,y,z,by simp[prs,rC]⟩
 |k::r,acc,x,y,z,hx,hl=>by
  rw[aW]at hl
  have e:=JZ n cell one share other k ho hs (hx k bC) acc (by lia) x y z w
  obtain⟨x',y',z',e2⟩:=Dh n cell one share other ho hs w r (if jV cell share k then acc++[prD (k/other,k%other)]else acc) (.v (.int k)) (.v (.int (aN cell k))) (.v (prD (k/other,k%other))) (λi hi=>hx i (aR _ hi)) (by split<;>(try rw[cD,kW])<;>lia)
  refine⟨x',y',z',?_⟩
  rw[aK,dJ e,e2]
  unfold prs
  cases q:jV cell share k with
  |true=>rw[LX q];simp
  |false=>rw[LY (by rw[q];simp)];simp
noncomputable def fE(cell share:Int)(one other:Nat):List (Nat×Nat):=fC cell (prs cell share other (aD (one*other)))
theorem Di(cell share:Int)(other:Nat)(xs:List Nat):(prs cell share other xs).length<=xs.length:=by
 unfold prs
 rw[aE]
 exact iL _ _
theorem Dj(n:Nat)(cell share:Int)(one other:Nat)(h1:one<=8)(h2:other<=8)(hs:0<share):aB T dfs (n+2) 27 [.int cell,.int one,.int other,.int share]=.ok (.lst ((fE cell share one other).map prD)):=by
 refine bP (k:=true) rfl rfl rfl ?_
 have hb:=bN
 have hm:one*other<=64:=tO h1 h2
 have e1:D.bin .Mult (.int one) (.int other)=.ok (.int ((one:Int)*(other:Int))):=kN (.inl (by unfold dN;simp;lia))
 have e2:jS (.int ((one:Int)*(other:Int)))=.ok ((aD (one*other)).map λk:Nat=>D.int k):=by
  rw[show(one:Int)*(other:Int)=((one*other:Nat):Int) by push_cast;rfl,lK (by lia),iZ]
  simp
 have e3:∃x' y' z',aP (aM T (aB T dfs (n+1)) (.one 5) lT) ((aD (one*other)).map λk:Nat=>D.int k) [.v (.int cell),.v (.int one),.v (.int other),.v (.int share),.o (.lst []),.no,.no,.no,.no] =
  .ok (.nx [.v (.int cell),.v (.int one),.v (.int other),.v (.int share),.o (.lst ((prs cell share other (aD (one*other))).map prD)),x',y',z',.no]):=by
  by_cases ho:0<other
  ·have:=Dh n cell one share other ⟨ho,by lia⟩ hs .no (aD (one*other)) [] .no .no .no (λk hk=>by rw[cV]at hk;lia) (by rw[cC];simp;lia)
   simpa using this
  ·have:other=0:=by lia
   subst this
   exact⟨.no,.no,.no,by simp[prs,rC]⟩
 obtain⟨x',y',z',e3⟩:=e3
 have hl:=Di cell share other (aD (one*other))
 rw[cC]at hl
 have hw:fE cell share one other=fC cell (prs cell share other (aD (one*other))):=rfl
 generalize prs cell share other (aD (one*other))=L at *
 have hr:=DY cell L
 have e8:cell%((L.length:Int)+1)=(((cell%((L.length:Int)+1)).toNat:Nat):Int):=by
  have:=pB cell (show(L.length:Int)+1≠0 by lia)
  lia
 have e9:(0:Int)<(L.length:Int)+1:=by lia
 have hL:(L.map prD).length=L.length:=aE ..
 have e10:cut (L.map prD) (some (cell%((L.length:Int)+1))) none=(L.map prD).drop (cell%((L.length:Int)+1)).toNat:=by
  rw[e8];exact wO (by rw[hL];lia)
 have e11:cut (L.map prD) none (some (cell%((L.length:Int)+1)))=(L.map prD).take (cell%((L.length:Int)+1)).toNat:=by
  rw[e8];exact wQ (by rw[hL];lia)
 have e12:D.bin .Add (.lst ((L.map prD).drop (cell%((L.length:Int)+1)).toNat)) (.lst ((L.map prD).take (cell%((L.length:Int)+1)).toNat))=.ok (.lst ((fE cell share one other).map prD)):=by
  rw[DX (by rw[tB,jG,hL];lia),hw,<-D1]
  unfold fC
  rw[hL]
 have e14:L.length<=big:=by lia
 simp[yC,e1,e2,e3,e9,e10,e11,e12,e14]
noncomputable def dW(f:Nat->Int):D:=.lst [.int (f 0),.int (f 1),.int (f 2),.int (f 3),.int (f 4),.int (f 5),.int (f 6),.int (f 7)]
theorem J0(n:Nat)(ns:List Int)(at_:Nat)(env:Nv):aY (aI T (aB T dfs (n+1)) 1 [0,1] (.one 0) lU (.con (.bl true)) (.v (.lst (ns.map D.int))::.v (.int at_)::env)) (cL 0 8)=.ok [.int (dR ns at_),.int (dR ns (at_+1)),.int (dR ns (at_+2)),.int (dR ns (at_+3)),.int (dR ns (at_+4)),.int (dR ns (at_+5)),.int (dR ns (at_+6)),.int (dR ns (at_+7))]:=by
 have e:∀xs:List Nat,aY (aI T (aB T dfs (n+1)) 1 [0,1] (.one 0) lU (.con (.bl true)) (.v (.lst (ns.map D.int))::.v (.int at_)::env)) (xs.map λj:Nat=>D.int j)=.ok (xs.map λj:Nat=>D.int (dR ns (at_+j))):=by
  intro xs
  induction xs with
  |nil=>rfl
  |cons x r ih=>
   have c:=sI n ns (at_+x)
   rw[show((at_+x:Nat):Int)=(at_:Int)+(x:Int) by push_cast;rfl]at c
   rw[aK,aY,ih]
   simp[aI,Tr.aX,lU,c]
 have e2:cL 0 8=(aD 8).map λj:Nat=>D.int j:=by rw[iZ];simp
 rw[e2,e]
 rfl
theorem Dk(n:Nat)(f:Nat->Int)(a b:Sl)(env:Nv):∀xs:List Nat,(∀k∈xs,k<1000)->aY (aI T (aB T dfs (n+2)) 1 [2] (.one 0) yD (.con (.bl true)) (a::b::.v (dW f)::env)) (xs.map λj:Nat=>D.int j)=.ok (xs.map λk=>ent (oN (f 2) (f 0) k))
 |[],_=>rfl
 |x::r,h=>by
  have c:=JU n (f 2) (f 0) x (h x bC)
  rw[aK,aY,Dk n f a b env r λk hk=>h k (aR _ hk)]
  simp[aI,Tr.aX,yD,dW,c]
theorem Dl(n:Nat)(f:Nat->Int)(a b:Sl)(env:Nv):∀xs:List Nat,(∀k∈xs,k<1000)->aY (aI T (aB T dfs (n+2)) 1 [2] (.one 0) yE (.con (.bl true)) (a::b::.v (dW f)::env)) (xs.map λj:Nat=>D.int j)=.ok (xs.map λk=>ent (oO (f 3) (f 4) k))
 |[],_=>rfl
 |x::r,h=>by
  have c:=JV n (f 3) (f 4) x (h x bC)
  rw[aK,aY,Dl n f a b env r λk hk=>h k (aR _ hk)]
  simp[aI,Tr.aX,yE,dW,c]
noncomputable def kP(base:Int)(many:Nat):Nat->List Int->List (Str×List D)
 |_,[]=>[]
 |j,c::r=>oP c base j many::kP base many (j+1) r
theorem Dm(n:Nat)(f:Nat->Int)(many:Nat)(hm:many<=8)(a0 a1 a4 a5 a9 a10 a11 a12:Sl):∀(cs:List Int)(j:Nat)(acc:List D)(x y:Sl),j+cs.length<1000->acc.length+cs.length<1000 ->
 ∃x' y',aP (aM T (aB T dfs (n+2)) (.many [7,8]) oI) (dB j (cs.map D.int)) [a0,a1,.v (dW f),.v (.int many),a4,a5,.o (.lst acc),x,y,a9,a10,a11,a12] =
  .ok (.nx [a0,a1,.v (dW f),.v (.int many),a4,a5,.o (.lst (acc++(kP (f 5) many j cs).map ent)),x',y',a9,a10,a11,a12])
 |[],j,acc,x,y,_,_=>⟨x,y,by simp[kP,dB,rC]⟩
 |c::r,j,acc,x,y,h1,h2=>by
  rw[aW]at h1 h2
  have hb:=bN
  have e0:=JY n c (f 5) j many (by lia) hm
  have e1:acc.length<big:=by lia
  have e:aM T (aB T dfs (n+2)) (.many [7,8]) oI (.tup [.int j,.int c]) [a0,a1,.v (dW f),.v (.int many),a4,a5,.o (.lst acc),x,y,a9,a10,a11,a12] =
   .ok (.nx [a0,a1,.v (dW f),.v (.int many),a4,a5,.o (.lst (acc++[ent (oP c (f 5) j many)])),.v (.int j),.v (.int c),a9,a10,a11,a12]):=by
   simp[aM,oI,dW,e0,e1]
  obtain⟨x',y',e2⟩:=Dm n f many hm a0 a1 a4 a5 a9 a10 a11 a12 r (j+1) (acc++[ent (oP c (f 5) j many)]) (.v (.int j)) (.v (.int c)) (by lia) (by simp;lia)
  refine⟨x',y',?_⟩
  rw[aK,dB,dJ e,show(j:Int)+1=((j+1:Nat):Int) by push_cast;rfl,e2,kP,aK,oU]
  rfl
noncomputable def lW(cell:Int)(p:Nat×Nat):Nat×Nat×Nat:=(p.1,p.2,(aN cell (p.2+9*p.1)%1000000000).toNat)
noncomputable def lkD(l:Nat×Nat×Nat):D:=.tup [.int l.1,.int l.2.1,.int l.2.2]
theorem Dn(n:Nat)(f:Nat->Int)(a0 a1 a3 a4 a5 a6 a7 a8 a12:Sl):∀(ps:List (Nat×Nat))(acc:List D)(x y:Sl),(∀p∈ps,p.1<100/\p.2<100)->acc.length+ps.length<1000 ->
 ∃x' y',aP (aM T (aB T dfs (n+2)) (.many [10,11]) oJ) (ps.map prD) [a0,a1,.v (dW f),a3,a4,a5,a6,a7,a8,.o (.lst acc),x,y,a12] =
  .ok (.nx [a0,a1,.v (dW f),a3,a4,a5,a6,a7,a8,.o (.lst (acc++(ps.map (lW (f 6))).map lkD)),x',y',a12])
 |[],acc,x,y,_,_=>⟨x,y,by simp[rC]⟩
 |p::r,acc,x,y,h1,h2=>by
  rw[aW]at h2
  have hb:=bN
  have hp:=h1 p bC
  have e0:=jD (n+1) (f 6) ((p.2:Int)+9*(p.1:Int)) (by lia)
  have e1:acc.length<big:=by lia
  have r1:=yV (f 6) ((p.2:Int)+9*(p.1:Int))
  have e3:D.bin .Mult (.int 9) (.int (p.1:Int))=.ok (.int (9*(p.1:Int))):=kN (.inl (by decide))
  have e4:((aN (f 6) ((p.2:Int)+9*(p.1:Int))%1000000000).toNat:Int)=aN (f 6) ((p.2:Int)+9*(p.1:Int))%1000000000:=by lia
  have e:aM T (aB T dfs (n+2)) (.many [10,11]) oJ (prD p) [a0,a1,.v (dW f),a3,a4,a5,a6,a7,a8,.o (.lst acc),x,y,a12] =
   .ok (.nx [a0,a1,.v (dW f),a3,a4,a5,a6,a7,a8,.o (.lst (acc++[lkD (lW (f 6) p)])),.v (.int p.1),.v (.int p.2),a12]):=by
   simp[aM,oJ,dW,prD,e0,e1,e3,lkD,lW,e4]
  obtain⟨x',y',e2⟩:=Dn n f a0 a1 a3 a4 a5 a6 a7 a8 a12 r (acc++[lkD (lW (f 6) p)]) (.v (.int p.1)) (.v (.int p.2)) (λq hq=>h1 q (aR _ hq)) (by simp;lia)
  refine⟨x',y',?_⟩
  rw[aK,dJ e,e2,aK,aK,oU]
  rfl
noncomputable def bQ(c:Int):Nat:=(c%7).toNat+(if c/7%8=5/\c%7=6 then 2 else 0)
theorem Do(c:Int):bQ c<=8:=by unfold bQ;split<;>lia
noncomputable def fV(ns:List Int)(at_ j:Nat):Int:=dR ns (at_+j)
noncomputable def lX(f:Nat->Int):List (Str×List D):=(aD (bQ (f 1))).map λk=>oN (f 2) (f 0) k
noncomputable def jE(f:Nat->Int):List (Str×List D):=(aD (f 1/56%7).toNat).map λk=>oO (f 3) (f 4) k
noncomputable def yX(f:Nat->Int):List (Nat×Nat×Nat):=(fE (f 6) 3 (f 1/56%7).toNat (bQ (f 1))).map (lW (f 6))
noncomputable def yY(f:Nat->Int):List (Nat×Nat):=fE (f 7) 2 (bQ (f 1)) (f 1/56%7).toNat
noncomputable def sQ(f:Nat->Int)(cs:List Int):List (Str×List D):=kP (f 5) (bQ (f 1)) 0 cs
noncomputable def yZ(f:Nat->Int)(cs:List Int):D:=.tup [.tup ((lX f).map ent),.tup ((jE f).map ent),.tup ((sQ f cs).map ent),.tup ((yX f).map lkD),.tup ((yY f).map prD)]
theorem Dp{cell share:Int}{one other:Nat}{p:Nat×Nat}(h:p∈fE cell share one other):p.1<one/\p.2<other:=by
 unfold fE prs at h
 rw[DZ,bV]at h
 obtain⟨k,hk,rfl⟩:=h
 have hk:=(eN.mp hk).1
 rw[cV]at hk
 have ho:0<other:=by
  rcases Nat.eq_zero_or_pos other with z|z
  ·rw[z]at hk;simp at hk
  ·exact z
 exact⟨(Nat.div_lt_iff_lt_mul ho).mpr hk,Nat.mod_lt _ ho⟩
theorem Dq{cell share:Int}{one other:Nat}:(fE cell share one other).length<=one*other:=by
 unfold fE
 rw[(D0 _ _).length_eq]
 have:=Di cell share other (aD (one*other))
 rwa [cC]at this
theorem Dr{T:Tab}{cf:Nat->List D->Res D}{a r:S}{e e1:Nv}(h:exS T cf a e=.ok (.nx e1)):exS T cf (.cons a r) e=exS T cf r e1:=by rw[Cz,h];rfl
theorem J7(n:Nat)(ns:List Int)(at_:Nat)(hn:ns.length<=63)(ha:at_<=20):aB T dfs (n+3) 28 [.lst (ns.map D.int),.int at_]=.ok (yZ (fV ns at_) ((ns.drop (at_+8)).take 9)):=by
 refine bP (k:=false) rfl rfl rfl ?_
 have hb:=bN
 have e1:=λenv=>J0 (n+1) ns at_ env
 have e1':∀env,aY (aI T (aB T dfs (n+2)) 1 [0,1] (.one 0) lU (.con (.bl true)) (.v (.lst (ns.map D.int))::.v (.int at_)::env)) (cL 0 8)=.ok [.int (fV ns at_ 0),.int (fV ns at_ 1),.int (fV ns at_ 2),.int (fV ns at_ 3),.int (fV ns at_ 4),.int (fV ns at_ 5),.int (fV ns at_ 6),.int (fV ns at_ 7)]:=e1
 clear e1
 have e0:jS (.int 8)=.ok (cL 0 8):=lK (n:=8) (by lia)
 generalize hf:fV ns at_=f at *
 have hm:=Do (f 1)
 have hp:(f 1/56%7).toNat<=6:=by lia
 have e2:jS (.int (bQ (f 1):Int))=.ok ((aD (bQ (f 1))).map λj:Nat=>D.int j):=by
  rw[lK (by lia),iZ];simp
 have e3:jS (.int (f 1/56%7))=.ok ((aD (f 1/56%7).toNat).map λj:Nat=>D.int j):=by
  have h:=lK (n:=(f 1/56%7).toNat) (by lia)
  rw[LZ (by lia)]at h
  rw[h,iZ];simp
 have e4:=λa b env=>Dk n f a b env (aD (bQ (f 1))) λk hk=>by rw[cV]at hk;lia
 have e5:=λa b env=>Dl n f a b env (aD (f 1/56%7).toNat) λk hk=>by rw[cV]at hk;lia
 have e6:=Dj n (f 6) 3 (f 1/56%7).toNat (bQ (f 1)) (by lia) (by lia) (by lia)
 have e7:=Dj n (f 7) 2 (bQ (f 1)) (f 1/56%7).toNat (by lia) (by lia) (by lia)
 have hc:(ns.drop (at_+8)).take 9=(ns.drop (at_+8)).take 9:=rfl
 have e9:cut (ns.map D.int) (some ((at_:Int)+8)) (some ((at_:Int)+17))=((ns.drop (at_+8)).take 9).map D.int:=by
  unfold cut sIx
  simp only[]
  rw[if_neg (by lia),if_neg (by lia),zX,Ei,aE]
  by_cases q:at_+8<=ns.length
  ·rw[show((at_:Int)+8).toNat=at_+8 by lia,show((at_:Int)+17).toNat=at_+17 by lia,mJ q]
   by_cases q2:at_+17<=ns.length
   ·rw[mJ q2,show at_+17-(at_+8)=9 by lia]
   ·rw[L0 (by lia),mD (by simp),mD (by simp;lia)]
  ·rw[show((at_:Int)+8).toNat=at_+8 by lia,L1 (i:=at_+8) (by simp;lia),L1 (by rw[aE];lia)]
   simp
 generalize hC:(ns.drop (at_+8)).take 9=C at *
 have hCl:C.length<=9:=by rw[<-hC,jG];lia
 have e10:=λa0 a1 a4 a5 a9 a10 a11 a12=>Dm n f (bQ (f 1)) hm a0 a1 a4 a5 a9 a10 a11 a12 C 0 [] .no .no (by lia) (by simp;lia)
 have e11:∀a0 a1 a3 a4 a5 a6 a7 a8 a12,_:=λa0 a1 a3 a4 a5 a6 a7 a8 a12=>Dn n f a0 a1 a3 a4 a5 a6 a7 a8 a12 (fE (f 6) 3 (f 1/56%7).toNat (bQ (f 1))) [] .no .no (λp hp'=>by have:=Dp hp';lia) (by
  have h1:=Dq (cell:=f 6) (share:=3) (one:=(f 1/56%7).toNat) (other:=bQ (f 1))
  have h2:(f 1/56%7).toNat*bQ (f 1)<=6*8:=tO hp hm
  simp;lia)
 have z10:∀a0 a1 a4 a5 a9 a10 a11 a12,∃x' y',aP (aM T (aB T dfs (n+2)) (.many [7,8]) oI) (dB 0 (C.map D.int)) [a0,a1,.v (dW f),.v (.int (bQ (f 1))),a4,a5,.o (.lst []),.no,.no,a9,a10,a11,a12]=.ok (.nx [a0,a1,.v (dW f),.v (.int (bQ (f 1))),a4,a5,.o (.lst ((sQ f C).map ent)),x',y',a9,a10,a11,a12]):=e10
 clear e10
 have e12:(if f 1/7%8=5/\f 1%7=6 then(2:Int)else 0)+f 1%7=(bQ (f 1):Int):=by
  unfold bQ;split<;>lia
 have e13:D.bin .Mult (.int 2) (.int 1)=.ok (.int 2):=rfl
 have e14:D.bin .Mult (.int 2) (.int 0)=.ok (.int 0):=rfl
 have hl1:bQ (f 1)<=big:=by lia
 have hl2:(f 1/56%7).toNat<=big:=by lia
 have m0:Nat->True:=λ_=>trivial
 obtain⟨x1,y1,z10⟩:=z10 (.v (.lst (ns.map D.int))) (.v (.int at_)) (.v (.tup ((lX f).map ent))) (.v (.tup ((jE f).map ent))) .no .no .no .no
 obtain⟨x2,y2,z11⟩:=e11 (.v (.lst (ns.map D.int))) (.v (.int at_)) (.v (.int (bQ (f 1)))) (.v (.tup ((lX f).map ent))) (.v (.tup ((jE f).map ent))) (.o (.lst ((sQ f C).map ent))) x1 y1 .no
 have p1:(lX f).map ent=(aD (bQ (f 1))).map λk=>ent (oN (f 2) (f 0) k):=by unfold lX;rw[cB];rfl
 have p2:(jE f).map ent=(aD (f 1/56%7).toNat).map λk=>ent (oO (f 3) (f 4) k):=by unfold jE;rw[cB];rfl
 have p3:((jE f).map ent).length=(f 1/56%7).toNat:=by rw[p2];simp
 rw[<-p1]at e4
 rw[<-p2]at e5
 simp only[dW]at e4 e5 z10 z11
 have h8:8<=big:=by lia
 have e6':aB T dfs (n+2) 27 [.int (f 6),.int (((jE f).map ent).length:Nat),.int (bQ (f 1)),.int 3]=.ok (.lst ((fE (f 6) 3 (f 1/56%7).toNat (bQ (f 1))).map prD)):=by rw[p3];exact e6
 have e7':aB T dfs (n+2) 27 [.int (f 7),.int (bQ (f 1)),.int (((jE f).map ent).length:Nat),.int 2]=.ok (.lst ((yY f).map prD)):=by rw[p3];exact e7
 rw[aE]at e6' e7'
 have z11':aP (aM T (aB T dfs (n+2)) (.many [10,11]) oJ) ((fE (f 6) 3 (f 1/56%7).toNat (bQ (f 1))).map prD) _=.ok (.nx _):=z11
 rw[zO,show(fE (f 6) 3 (f 1/56%7).toNat (bQ (f 1))).map (lW (f 6))=yX f from rfl]at z11'
 unfold yF
 have s1:exS T (aB T dfs (n+2)) (.asg (.one 2) (.comp 1 [0,1] (.one 0) lU (.rng (.con (.int 8))) (.con (.bl true)))) [.v (.lst (ns.map D.int)),.v (.int at_),.no,.no,.no,.no,.no,.no,.no,.no,.no,.no,.no]=.ok (.nx [.v (.lst (ns.map D.int)),.v (.int at_),.v (.lst [.int (f 0),.int (f 1),.int (f 2),.int (f 3),.int (f 4),.int (f 5),.int (f 6),.int (f 7)]),.no,.no,.no,.no,.no,.no,.no,.no,.no,.no]):=by
  simp[e0,e1',h8]
 rw[show [D.lst (ns.map D.int),D.int at_].map Sl.v++aU (13-2) Sl.no=[.v (.lst (ns.map D.int)),.v (.int at_),.no,.no,.no,.no,.no,.no,.no,.no,.no,.no,.no]from rfl,Dr s1]
 have v1:∀env:Nv,env.at 2=.v (.lst [.int (f 0),.int (f 1),.int (f 2),.int (f 3),.int (f 4),.int (f 5),.int (f 6),.int (f 7)])->evE T (aB T dfs (n+2)) (.bin .Add (.bin .Mod (.ix (.var 2) (.con (.int 1))) (.con (.int 7))) (.bin .Mult (.con (.int 2)) (.bt .int (.acons (.and (.cmp .Eq (.bin .Mod (.bin .FloorDiv (.ix (.var 2) (.con (.int 1))) (.con (.int 7))) (.con (.int 8))) (.con (.int 5))) (.cmp .Eq (.bin .Mod (.ix (.var 2) (.con (.int 1))) (.con (.int 7))) (.con (.int 6)))) .anil)))) env=.ok (.int (bQ (f 1))):=by
  intro env h
  have w:f 1%7+(if f 1/7%8=5/\f 1%7=6 then(2:Int)else 0)=(bQ (f 1):Int):=by unfold bQ;split<;>lia
  rw[<-w]
  by_cases q1:f 1/7%8=5
  ·by_cases q2:f 1%7=6
   ·simp[h,q1,q2,e13]
    rfl
   ·have q3:(f 1%7==6)=false:=by simpa using q2
    simp[h,q1,q2,q3,b2z]
  ·simp[h,q1,b2z]
 have s2:exS T (aB T dfs (n+2)) (.asg (.one 3) (.bin .Add (.bin .Mod (.ix (.var 2) (.con (.int 1))) (.con (.int 7))) (.bin .Mult (.con (.int 2)) (.bt .int (.acons (.and (.cmp .Eq (.bin .Mod (.bin .FloorDiv (.ix (.var 2) (.con (.int 1))) (.con (.int 7))) (.con (.int 8))) (.con (.int 5))) (.cmp .Eq (.bin .Mod (.ix (.var 2) (.con (.int 1))) (.con (.int 7))) (.con (.int 6)))) .anil))))) [.v (.lst (ns.map D.int)),.v (.int at_),.v (.lst [.int (f 0),.int (f 1),.int (f 2),.int (f 3),.int (f 4),.int (f 5),.int (f 6),.int (f 7)]),.no,.no,.no,.no,.no,.no,.no,.no,.no,.no]=.ok (.nx [.v (.lst (ns.map D.int)),.v (.int at_),.v (.lst [.int (f 0),.int (f 1),.int (f 2),.int (f 3),.int (f 4),.int (f 5),.int (f 6),.int (f 7)]),.v (.int (bQ (f 1))),.no,.no,.no,.no,.no,.no,.no,.no,.no]):=by
  rw[Ie,v1 _ rfl];rfl
 rw[Dr s2]
 clear s1 s2 v1
 simp[e2,e3,e4,e5,hl1,hl2,e9,wF,z10,e6',e7',z11',yZ]
noncomputable def partR(f:Nat->Int)(k:Nat):Part:=⟨dU (f 0) k,hE (sO (aN (f 2) k) (f 0)),minV (aN (f 2) k/4),minV (aN (f 2) (k+20))⟩
noncomputable def J8(f:Nat->Int)(k:Nat):Player:=⟨dU (f 4) k,sP (aN (f 3) k),minV (aN (f 3) k/6)⟩
noncomputable def sceneR(base:Int)(many:Nat)(cell:Int)(k:Nat):Scene:=⟨dU base k,minV (aN cell k),minV (aN cell (k+20)),jU cell k many⟩
noncomputable def jW(base:Int)(many:Nat):Nat->List Int->List Scene
 |_,[]=>[]
 |j,c::r=>sceneR base many c j::jW base many (j+1) r
theorem Ds(base:Int)(many:Nat):∀(cs:List Int)(j:Nat),(kP base many j cs).map ent=(jW base many j cs).map Scene.enc
 |[],_=>rfl
 |c::r,j=>by rw[kP,jW,aK,aK,Ds base many r (j+1)];rfl
theorem Dt(base:Int)(many:Nat):∀(cs:List Int)(j:Nat),(jW base many j cs).length=cs.length
 |[],_=>rfl
 |c::r,j=>by rw[jW,aW,aW,Dt base many r (j+1)]
theorem J9(cell:Int)(k many:Nat):(jU cell k many).Nodup:=by
 unfold jU
 refine(D0 _ _).nodup_iff.mpr ?_
 unfold kO
 exact E_.filter _ List.nodup_range
theorem J_{cell:Int}{k many i:Nat}(h:i∈jU cell k many):i<many:=by
 unfold jU at h
 rw[DZ]at h
 unfold kO at h
 simpa using(eN.mp h).1
theorem Du(base:Int)(many:Nat):∀(cs:List Int)(j:Nat)(s:Scene),s∈jW base many j cs->GoodScene many s
 |[],_,s,h=>by cases h
 |c::r,j,s,h=>by
  rw[jW]at h
  rcases aV.mp h with rfl|h
  ·exact⟨(sN _).1,(sN _).1,J9 _ _ _,λi hi=>J_ hi⟩
  ·exact Du base many r (j+1) s h
structure Drawn(P:List Part)(Q:List Player)(S:List Scene):Prop where
 hp:P.length<=8
 hq:Q.length<=6
 hs:S.length<=9
 voice:∀p∈P,(dM p.voice).length=1
 good:∀s∈S,GoodScene P.length s
 dress:∀p∈P,0<=p.off/\0<=p.on
theorem Ja(n:Nat)(P A B C:D)(ss:List Scene)(hl:ss.length<=24)(s t:Nat)(h:s<t)(ht:t<=ss.length):aB T dfs (n+1) 0 [.tup [P,A,.tup (ss.map Scene.enc),B,C],.int s,.int t]=.ok (.int (eE ss s t)):=by
 refine bP (k:=true) rfl rfl rfl ?_
 have hs:s<ss.length:=by lia
 have e1:=wI (bD hs)
 have e2:cut (ss.map Scene.enc) (some ((s:Int)+1)) (some (t:Int))=((ss.drop (s+1)).take (t-(s+1))).map Scene.enc:=by
  have:=cut_nn (xs:=ss.map Scene.enc) (a:=s+1) (b:=t) (by simp;lia) (by simp;lia)
  rw[zX,Ei,<-this]
  push_cast
  rfl
 have e3:aY (aI T (aB T dfs n) 1 [] (.one 0) rJ (.con (.bl true)) [.v (.tup [P,A,.tup (ss.map Scene.enc),B,C]),.v (.int s),.v (.int t),.v (.tup (ss.map Scene.enc))]) (((ss.drop (s+1)).take (t-(s+1))).map Scene.enc)=.ok ((((ss.drop (s+1)).take (t-(s+1))).map Scene.both).map D.int):=by
  rw[cB]
  have:∀xs:List Scene,aY (aI T (aB T dfs n) 1 [] (.one 0) rJ (.con (.bl true)) [.v (.tup [P,A,.tup (ss.map Scene.enc),B,C]),.v (.int s),.v (.int t),.v (.tup (ss.map Scene.enc))]) (xs.map Scene.enc)=.ok (xs.map (D.int∘Scene.both)):=by
   intro xs
   induction xs with
   |nil=>rfl
   |cons x r ih=>
    rw[aK,aY,ih]
    simp[aI,Tr.aX,rJ,Scene.both]
  exact this _
 have e4:((ss.map Scene.enc).length:Nat)<=big:=by have:=bN;simp;lia
 have e5:((((ss.drop (s+1)).take (t-(s+1))).map Scene.enc).length:Nat)<=big:=by have:=bN;simp;lia
 have e6:((ss[s]?).map Scene.pause).getD 0=ss[s].pause:=by simp[hs]
 have e7:eE ss s t=ss[s].pause+(((ss.drop (s+1)).take (t-(s+1))).map Scene.both).sum:=by unfold eE;rw[e6]
 rw[e7]
 clear e7 e4 ht
 generalize (ss.drop (s+1)).take (t-(s+1))=X at *
 simp only[aE]at e5
 simp[wX,e1,e2,e3,e5]
theorem Jb(n:Nat)(A S B C:D)(ps:List Part)(i j:Nat)(hi:i<ps.length)(hj:j<ps.length):aB T dfs (n+1) 1 [.tup [.tup (ps.map Part.enc),A,S,B,C],.int i,.int j]=.ok (.int (fX ps i j)):=by
 refine bP (k:=true) rfl rfl rfl ?_
 simp[wY,wJ (bD hi),wJ (bD hj),JC hi hj]
theorem Dv(n:Nat)(A B C:D)(ps:List Part)(ss:List Scene)(hl:ss.length<=24)(s i j:Nat)(hs:s<ss.length)(hi:i<ps.length)(hj:j<ps.length) :
 aB T dfs (n+2) 2 [.tup [.tup (ps.map Part.enc),A,.tup (ss.map Scene.enc),B,C],.int s,.int i,.int j]=.ok (iE (jA ps ss s i j)):=by
 have ct:=Jb n A (.tup (ss.map Scene.enc)) B C ps i j hi hj
 have rg:=DJ (s:=s) (m:=ss.length) (by lia) (by lia)
 have loop:=DN (f:=aM T (aB T dfs (n+1)) (.one 5) oD) (g:=lL ps ss s i j) (ts:=cW (s+1) (ss.length-(s+1)))
  (e:=[.v (.tup [.tup (ps.map Part.enc),A,.tup (ss.map Scene.enc),B,C]),.v (.int s),.v (.int i),.v (.int j),.v (.int (fX ps i j)),.no,.no])
  (I:=λe=>∃s5 s6,e=[.v (.tup [.tup (ps.map Part.enc),A,.tup (ss.map Scene.enc),B,C]),.v (.int s),.v (.int i),.v (.int j),.v (.int (fX ps i j)),s5,s6]) ⟨_,_,rfl⟩ (by
   rintro t ht e ⟨s5,s6,rfl⟩
   have ht':s<t/\t<ss.length:=by have:=tK.mp ht;lia
   have e1:=wI (bD ht'.2)
   have e2:=Ja n (.tup (ps.map Part.enc)) A B C ss hl s t ht'.1 (by lia)
   have e3:=rG ht'.2
   unfold lL
   by_cases c1:j∈cT ss t
   ·by_cases c2:eE ss s t<fX ps i j
    ·rw[if_pos ⟨c1,c2⟩]
     rw[e3]at c1
     simp[aM,oD,aG,e1,e2,c1,c2,bJ,Rz.enc]
    ·rw[if_neg (by simp[c2])]
     rw[e3]at c1
     refine⟨?e1,?h1,?i1⟩
     case h1=>
      simp[aM,oD,aG,e1,e2,c1,c2,bJ]
      exact rfl
     case i1=>exact⟨_,_,rfl⟩
   ·rw[if_neg (by simp[c1])]
    rw[e3]at c1
    refine⟨?e2,?h2,?i2⟩
    case h2=>
     simp[aM,oD,aG,e1,e2,c1,bJ]
     exact rfl
    case i2=>exact⟨_,_,rfl⟩)
 refine bP (k:=false) rfl rfl rfl ?_
 unfold jA
 cases hg:(cW (s+1) (ss.length-(s+1))).findSome? (lL ps ss s i j)with
 |some r=>
  rw[hg]at loop
  simp[rK,ct,rg,loop,iE]
 |none=>
  rw[hg]at loop
  obtain⟨e',h1,s5,s6,rfl⟩:=loop
  simp[rK,ct,rg,h1,iE,bJ]
theorem Jc(n:Nat)(A B C:D)(ps:List Part)(ss:List Scene)(hl:ss.length<=24)(s i j:Nat)(hs:s<ss.length)(hi:i<ps.length)(hj:j<ps.length) :
 aB T dfs (n+3) 3 [.tup [.tup (ps.map Part.enc),A,.tup (ss.map Scene.enc),B,C],.int s,.int i,.int j]=.ok (iE (jB ps ss i j s)):=by
 have e1:=wI (bD hs)
 have e2:=Dv n A B C ps ss hl s i j hs hi hj
 have e3:=Dv n A B C ps ss hl s j i hs hj hi
 have e4:=rG hs
 refine bP (k:=false) rfl rfl rfl ?_
 unfold jB
 rw[e4]
 by_cases c1:i∈ss[s].who<;>by_cases c2:j∈ss[s].who
 ·simp[lP,e1,c1,c2,iE,Rz.enc,bJ]
 ·simp[lP,e1,c1,c2,e2]
 ·simp[lP,e1,c1,c2,e3]
 ·simp[lP,e1,c1,c2,iE,bJ]
theorem Jd(n:Nat)(A B C:D)(ps:List Part)(ss:List Scene)(hl:ss.length<=24)(i j:Nat)(hi:i<ps.length)(hj:j<ps.length) :
 aB T dfs (n+4) 4 [.tup [.tup (ps.map Part.enc),A,.tup (ss.map Scene.enc),B,C],.int i,.int j]=.ok (iE (dS ps ss i j)):=by
 have rg:=iD (n:=ss.length) (by lia)
 have loop:=DN (f:=aM T (aB T dfs (n+3)) (.one 3) rL) (g:=jB ps ss i j) (ts:=aD ss.length)
  (e:=[.v (.tup [.tup (ps.map Part.enc),A,.tup (ss.map Scene.enc),B,C]),.v (.int i),.v (.int j),.no,.no])
  (I:=λe=>∃s5 s6,e=[.v (.tup [.tup (ps.map Part.enc),A,.tup (ss.map Scene.enc),B,C]),.v (.int i),.v (.int j),s5,s6]) ⟨_,_,rfl⟩ (by
   rintro s ht e ⟨s5,s6,rfl⟩
   have e1:=Jc n A B C ps ss hl s i j (by simpa using ht) hi hj
   cases hg:jB ps ss i j s with
   |some r=>
    rw[hg]at e1
    simp[aM,rL,aG,e1,bJ]
    rfl
   |none=>
    rw[hg]at e1
    refine⟨?e1,?h1,?i1⟩
    case h1=>
     simp[aM,rL,aG,e1]
     exact rfl
    case i1=>exact⟨_,_,rfl⟩)
 refine bP (k:=false) rfl rfl rfl ?_
 unfold dS
 cases hg:(aD ss.length).findSome? (jB ps ss i j)with
 |some r=>
  rw[hg]at loop
  simp[rM,rg,loop,iE]
 |none=>
  rw[hg]at loop
  obtain⟨e',h1,s5,s6,rfl⟩:=loop
  simp[rM,rg,h1,iE,bJ]
theorem Je(n:Nat)(A B C:D)(ps:List Part)(ss:List Scene)(hl:ss.length<=24)(hp:ps.length<=8) :
 aB T dfs (n+5) 5 [.tup [.tup (ps.map Part.enc),A,.tup (ss.map Scene.enc),B,C]]=.ok (.lst (((wL ps.length).filter λp=>(dS ps ss p.1 p.2).isSome).map fB)):=by
 have rg:=iD (n:=ps.length) (by lia)
 obtain⟨e',h1,s3,rfl⟩:=DG (f:=aM T (aB T dfs (n+4)) (.one 3) wZ)
  (λi e=>∃s3,e=[.v (.tup [.tup (ps.map Part.enc),A,.tup (ss.map Scene.enc),B,C]),.o (.lst (((fY ps.length i).filter λp=>(dS ps ss p.1 p.2).isSome).map fB)),.v (.int ps.length),s3])
  ((aD ps.length).map aG) [.v (.tup [.tup (ps.map Part.enc),A,.tup (ss.map Scene.enc),B,C]),.o (.lst []),.v (.int ps.length),.no] 0 ⟨_,rfl⟩ (by
   rintro i0 d e hd ⟨s3,rfl⟩
   rw[kB]
   rw[bT]at hd
   cases hx:(aD ps.length)[i0]? with
   |none=>rw[hx]at hd;cases hd
   |some i=>
   rw[hx]at hd
   cases hd
   have hi':=gC.mp hx
   simp at hi'
   obtain⟨hi,rfl⟩:=hi'
   have rg2:=DJ (s:=i0) (m:=ps.length) (by lia) (by lia)
   have hc:aY (aI T (aB T dfs (n+4)) 1 [3,0] (.one 0) rO rN [.v (.tup [.tup (ps.map Part.enc),A,.tup (ss.map Scene.enc),B,C]),.o (.lst (((fY ps.length i0).filter λp=>(dS ps ss p.1 p.2).isSome).map fB)),.v (.int ps.length),.v (.int i0)]) ((cW (i0+1) (ps.length-(i0+1))).map aG) =
    .ok (((jC ps.length i0).filter λp=>(dS ps ss p.1 p.2).isSome).map fB):=by
    rw[cJ aG (λj=>if(dS ps ss i0 j).isSome=true then some (fB (i0,j))else none) (by
     intro j hj
     have hj':=tK.mp hj
     have e1:=Jd n A B C ps ss hl i0 j hi (by lia)
     cases hr:dS ps ss i0 j with
     |none=>rw[hr]at e1;simp[aI,Tr.aX,aG,rN,rO,e1]
     |some r=>rw[hr]at e1;simp[aI,Tr.aX,aG,rN,rO,e1,fB])]
    refine congrArg Res.ok ?_
    unfold jC
    generalize cW (i0+1) (ps.length-(i0+1))=l
    induction l with
    |nil=>rfl
    |cons j r ih=>
     rw[gT,aK,gX]
     dsimp only
     rw[ih]
     cases (dS ps ss i0 j).isSome<;>rfl
   have b1:(((fY ps.length i0).filter λp=>(dS ps ss p.1 p.2).isSome).map fB).length+(((jC ps.length i0).filter λp=>(dS ps ss p.1 p.2).isSome).map fB).length<=big:=by
    have h1:=wN ps.length i0
    have h2:(jC ps.length i0).length<=8:=by rw[jC,aE,zU];lia
    have h3:=iL (λp:Nat×Nat=>(dS ps ss p.1 p.2).isSome) (fY ps.length i0)
    have h4:=iL (λp:Nat×Nat=>(dS ps ss p.1 p.2).isSome) (jC ps.length i0)
    have h5:i0*ps.length<=8*8:=tO (by lia) hp
    have:=bN
    rw[aE,aE]
    lia
   have b2:((cW (i0+1) (ps.length-(i0+1))).map aG).length<=big:=by have:=bN;simp;lia
   refine⟨?e1,.inl ?h1,?i1⟩
   case h1=>
    rw[aM]
    simp only[Im,aG,Res.ok_bind,wZ,Cz,Ih,IZ,I_,IY,IW,IX,List.set,Il,Ik,val_v,Io,rg2,hc,Ij,Ig,own_o,decide_eq_true b1,decide_eq_true b2,Fu,Bool.and_self,Ia,Ib]
    exact rfl
   case i1=>exact⟨.v (aG i0),by rw[fY,LW,fM];rfl⟩)
 refine bP (k:=true) rfl rfl rfl ?_
 have hlen:((aD ps.length).map aG).length=ps.length:=by simp
 rw[hlen,kB]at h1
 simp[xA,rg,h1,wL]
theorem Jf(n:Nat)(P:List Part)(Q:List Player)(X Y Z:D)(hv:∀p∈P,(dM p.voice).length=1)(cs:List (Option Nat))(hc:∀j,some j∈cs->j<Q.length)(k:Nat)(hk:k<P.length)(hk2:k<cs.length) :
 aB T dfs (n+1) 6 [.tup [.tup (P.map Part.enc),.tup (Q.map Player.enc),X,Y,Z],.int k,aQ (cs.getD k none)]=.ok (eV (eK P Q cs k)):=by
 refine bP (k:=false) rfl rfl rfl ?_
 unfold eK
 cases h:cs.getD k none with
 |none=>simp[oE,eV,Flt.enc]
 |some j=>
  have hj:j<Q.length:=hc j (by
   have:=D4 hk2
   rw[h]at this
   exact iJ this)
  have e1:=wJ (bD hk)
  have e2:=qs_at (bD hj)
  have e3:=JJ (p:=P[k]) (q:=Q[j]) (hv _ (kC hk))
  rw[<-D2 hk hj]at e3
  dsimp only
  generalize oB P Q k j=c at e3
  cases c with
  |true=>simp[oE,e1,e2,e3,eV]
  |false=>simp[oE,e1,e2,e3,eV,Flt.enc]
theorem Jg(n:Nat)(cs:List (Option Nat))(i j:Nat)(hi:i<cs.length)(hj:j<cs.length):aB T dfs (n+1) 7 [.lst (cs.map aQ),.int i,.int j]=.ok (.bl (fZ cs i j)):=by
 refine bP (k:=false) rfl rfl rfl ?_
 have e1:=D5 hi
 have e2:=D5 hj
 have e3:=JL (cs.getD i none) (cs.getD j none)
 unfold fZ
 generalize cs.getD i none=a at *
 generalize cs.getD j none=b at *
 cases a with
 |none=>simp[rP,e1]
 |some x=>simp only[JI]at e1 e3;simp[rP,e1,e2,e3]
theorem Jh(n:Nat)(P:List Part)(Q:List Player)(S:List Scene)(Y Z:D)(hp:P.length<=8)(hs:S.length<=24)(hv:∀p∈P,(dM p.voice).length=1)(cs:List (Option Nat))(hl:cs.length=P.length)(hc:∀j,some j∈cs->j<Q.length)(ps:List (Nat×Nat))(hps:∀p∈ps,p.1<P.length/\p.2<P.length)(hpl:ps.length<=100)
 (cl:aB T dfs (n+5) 5 [.tup [.tup (P.map Part.enc),.tup (Q.map Player.enc),.tup (S.map Scene.enc),Y,Z]]=.ok (.lst (ps.map fB))) :
 aB T dfs (n+6) 8 [.tup [.tup (P.map Part.enc),.tup (Q.map Player.enc),.tup (S.map Scene.enc),Y,Z],.lst (cs.map aQ)]=.ok (.lst ((lO P Q ps cs).map Flt.enc)):=by
 have hb:=bN
 refine bP (k:=true) rfl rfl rfl ?_
 have c1:∀x,aY (aI T (aB T dfs (n+5)) 2 [0] (.many [0,1]) xB (.con (.bl true)) [.v (.tup [.tup (P.map Part.enc),.tup (Q.map Player.enc),.tup (S.map Scene.enc),Y,Z]),.v (.lst (cs.map aQ)),x]) (dB 0 (cs.map aQ))=.ok ((aD cs.length).map λk=>eV (eK P Q cs k)):=by
  intro x
  have e:=D3 aQ none cs 0
  rw[show((0:Nat):Int)=0 from rfl]at e
  rw[e,cJ (λk=>D.tup [.int ((0+k:Nat):Int),aQ (cs.getD k none)]) (λk=>some (eV (eK P Q cs k))) (by
   intro k hk
   have hk:k<cs.length:=by simpa using hk
   have e1:=Jf (n+4) P Q (.tup (S.map Scene.enc)) Y Z hv cs hc k (by lia) hk
   simp only[kB]
   generalize aQ (cs.getD k none)=z at e1⊢
   simp[aI,Tr.aX,xB,e1]),fN]
 have c2:∀x y z (l:List (Option Flt)),aY (aI T (aB T dfs (n+5)) 1 [] (.one 0) rR rQ [x,y,z]) (l.map eV)=.ok ((l.filterMap id).map Flt.enc):=by
  intro x y z l
  rw[cJ eV (λo=>o.map Flt.enc) (by
   intro o _
   cases o with
   |none=>simp[aI,Tr.aX,rR,rQ,eV]
   |some f=>simp[aI,Tr.aX,rR,rQ];rfl)]
  refine congrArg Res.ok ?_
  induction l with
  |nil=>rfl
  |cons o r ih=>cases o<;>simp[ih]
 have c3:∀x z,aY (aI T (aB T dfs (n+5)) 2 [1] (.many [0,1]) rT rS [x,.v (.lst (cs.map aQ)),z]) (ps.map fB)=.ok (((ps.filter λp=>fZ cs p.1 p.2).map λp=>Flt.cla p.1 p.2).map Flt.enc):=by
  intro x z
  rw[cJ fB (λp=>if fZ cs p.1 p.2=true then some (Flt.enc (.cla p.1 p.2))else none) (by
   intro p hp'
   have h:=hps p hp'
   have e1:=Jg (n+4) cs p.1 p.2 (by lia) (by lia)
   generalize fZ cs p.1 p.2=c at e1
   cases c with
   |true=>simp[aI,Tr.aX,fB,rT,rS,e1,Flt.enc]
   |false=>simp[aI,Tr.aX,fB,rT,rS,e1])]
  refine congrArg Res.ok ?_
  clear cl hpl hps
  induction ps with
  |nil=>rfl
  |cons p r ih=>
   rw[gT,gX]
   cases fZ cs p.1 p.2<;>simp[ih]
 have c4:((aD cs.length).map λk=>eV (eK P Q cs k))=((aD cs.length).map (eK P Q cs)).map eV:=by rw[cB];rfl
 rw[c4]at c1
 have c5:=λx y z=>c2 x y z ((aD cs.length).map (eK P Q cs))
 have l1:cs.length<=big:=by lia
 have l2:(((aD cs.length).map (eK P Q cs)).map eV).length<=big:=by simp;lia
 have l3:ps.length<=big:=by lia
 have l5:=iL (λp:Nat×Nat=>fZ cs p.1 p.2) ps
 have l6:(((aD cs.length).map (eK P Q cs)).filterMap id).length<=cs.length:=by
  have:=List.length_filterMap_le id ((aD cs.length).map (eK P Q cs))
  simpa using this
 have f1:lO P Q ps cs=((aD cs.length).map (eK P Q cs)).filterMap id++(ps.filter λp=>fZ cs p.1 p.2).map λp=>Flt.cla p.1 p.2:=by
  unfold lO
  rw[LB];rfl
 rw[f1]
 generalize ((aD cs.length).map (eK P Q cs)).filterMap id=A at *
 generalize hB:((aD cs.length).map (eK P Q cs)).map eV=B at *
 have l7:A.length+((ps.filter λp=>fZ cs p.1 p.2)).length<=big:=by lia
 generalize hG:(ps.filter λp=>fZ cs p.1 p.2).map (λp=>Flt.cla p.1 p.2)=G at *
 have l8:A.length+G.length<=big:=by rw[<-hG,aE];exact l7
 simp[xC,wF,c1,l1,c5,l2,cl,c3,l3,l8]
noncomputable def bK(c:List (Nat×Nat)):List (Sum Int Str×D):=c.map λx=>(.inl (x.1:Int),.int (x.2:Int))
noncomputable def bL(a:List Nat):List (Sum Int Str×D):=a.map λ(p:Nat)=>(.inl (p:Int),.bl true)
theorem zA(c:List (Nat×Nat))(p:Nat):bE (bK c) (.inl (p:Int))=(aL c p).map λ(g:Nat)=>D.int (g:Int):=by
 unfold bE bK aL
 rw[List.find?_map,L3,L3]
 rw[show((λkv:Sum Int Str×D=>decide (kv.1=Sum.inl (p:Int)))∘λx:Nat×Nat=>((Sum.inl (x.1:Int):Sum Int Str),D.int (x.2:Int)))=λx:Nat×Nat=>x.1==p from funext λx=>by
  show decide ((Sum.inl (x.1:Int):Sum Int Str)=Sum.inl (p:Int))=(x.1==p)
  by_cases h:x.1=p
  ·rw[h];simp
  ·rw[decide_eq_false (λz=>h (by injection z with z;lia))];simp[h]]
 rfl
theorem Ji(a:List Nat)(p:Nat):bE (bL a) (.inl (p:Int))=if p∈a then some (.bl true)else none:=by
 unfold bE bL
 induction a with
 |nil=>rfl
 |cons x r ih=>
  rw[aK,cH]
  by_cases h:x=p
  ·subst h
   rw[show decide ((Sum.inl (x:Int):Sum Int Str)=Sum.inl (x:Int))=true by simp,if_pos bC];rfl
  ·rw[show decide ((Sum.inl (x:Int):Sum Int Str)=Sum.inl (p:Int))=false from decide_eq_false (λz=>h (by injection z with z;lia))]
   rw[ih]
   by_cases q:p∈r
   ·rw[if_pos q,if_pos (aR _ q)]
   ·rw[if_neg q,if_neg (λz=>by rcases aV.mp z with z|z;exact h z.symm;exact q z)]
theorem Jj(a:List Nat)(p:Nat):((bL a).any λkv=>decide (kv.1=(.inl (p:Int))))=decide (p∈a):=by
 unfold bL
 rw[List.any_map]
 induction a with
 |nil=>rfl
 |cons x r ih=>
  rw[kA,ih]
  by_cases h:x=p
  ·subst h;simp
  ·have:((λkv:Sum Int Str×D=>decide (kv.1=Sum.inl (p:Int)))∘λ(p:Nat)=>((Sum.inl (p:Int):Sum Int Str),D.bl true)) x=false:=decide_eq_false (λz=>h (by injection z with z;lia))
   rw[this,oV]
   simp only[aV]
   rw[decide_eq_decide]
   exact⟨.inr,λz=>z.resolve_left λe=>h e.symm⟩
theorem Jk{a:List Nat}{p:Nat}(h:p∉a):dG (bL a) (.inl (p:Int)) (.bl true)=bL (a++[p]):=by
 unfold dG
 rw[Jj,if_neg (by simpa using h)]
 unfold bL
 rw[fM];rfl
theorem Dw(c:List (Nat×Nat))(p g:Nat):dG (bK c) (.inl (p:Int)) (.int (g:Int))=bK (cY c p g):=by
 unfold dG cY
 have e1:((bK c).any λkv=>decide (kv.1=(.inl (p:Int))))=c.any λx=>x.1==p:=by
  unfold bK
  rw[List.any_map]
  congr 1
  funext x
  show decide ((Sum.inl (x.1:Int):Sum Int Str)=Sum.inl (p:Int))=(x.1==p)
  by_cases h:x.1=p
  ·rw[h];simp
  ·rw[decide_eq_false (λz=>h (by injection z with z;lia))];simp[h]
 rw[e1]
 by_cases h:(c.any λx=>x.1==p)=true
 ·rw[if_pos h,if_pos h]
  unfold bK
  rw[cB,cB]
  apply iK
  intro x _
  show(if(Sum.inl (x.1:Int):Sum Int Str)=Sum.inl (p:Int)then(Sum.inl (x.1:Int),D.int (g:Int))else(Sum.inl (x.1:Int),D.int (x.2:Int)))=_
  by_cases q:x.1=p
  ·rw[if_pos (by rw[q])]
   show _=((Sum.inl (((if x.1=p then(x.1,g)else x):Nat×Nat).1:Int):Sum Int Str),D.int (((if x.1=p then(x.1,g)else x):Nat×Nat).2:Int))
   rw[if_pos q]
  ·rw[if_neg (λz=>q (by injection z with z;lia))]
   show _=((Sum.inl (((if x.1=p then(x.1,g)else x):Nat×Nat).1:Int):Sum Int Str),D.int (((if x.1=p then(x.1,g)else x):Nat×Nat).2:Int))
   rw[if_neg q]
 ·rw[if_neg h,if_neg h]
  unfold bK
  rw[fM];rfl
noncomputable abbrev fcE(C:D)(t1 t2:Nat)(c:List (Nat×Nat))(a:List Nat)(g:Nat)(x:Sl):Nv:=[.v C,.r t1 (.dct (bK c)),.r t2 (.dct (bL a)),.v (.int (g:Int)),x]
theorem Dx(a:List Nat)(p:Nat):D.cmp .NotIn (.int (p:Int)) (.dct (bL a))=.ok (.bl (decide (p∉a))):=by
 show(do let k<-D.inn (.int (p:Int)) (.dct (bL a));Res.ok (D.bl (!k)))=_
 rw[show D.inn (.int (p:Int)) (.dct (bL a))=.ok (bE (bL a) (.inl (p:Int))).isSome from rfl,Ji,Res.ok_bind]
 by_cases h:p∈a
 ·rw[if_pos h];simp[h]
 ·rw[if_neg h];simp[h]
theorem Dy(c:List (Nat×Nat))(p:Nat):D.cmp .NotIn (.int (p:Int)) (.dct (bK c))=.ok (.bl (aL c p).isNone):=by
 show(do let k<-D.inn (.int (p:Int)) (.dct (bK c));Res.ok (D.bl (!k)))=_
 rw[show D.inn (.int (p:Int)) (.dct (bK c))=.ok (bE (bK c) (.inl (p:Int))).isSome from rfl,zA,Res.ok_bind]
 cases aL c p<;>rfl
structure Sm(U G:List Nat)(c:List (Nat×Nat))(a:List Nat):Prop where
 cn:(c.map (·.1)).Nodup
 cu:∀p∈c.map (·.1),p∈U
 an:a.Nodup
 au:∀p∈a,p∈U
 cv:∀x∈c,x.2∈G
theorem Sm.len{U G:List Nat}{c:List (Nat×Nat)}{a:List Nat}(h:Sm U G c a)(hU:U.length<=100):(bK c).length<big/\(bL a).length<big:=by
 have hb:=bN
 have h1:=gA h.cn h.cu
 have h2:=gA h.an h.au
 unfold bK bL
 rw[aE,aE]
 rw[aE]at h1
 exact⟨by lia,by lia⟩
theorem Sm.ask{U G:List Nat}{c:List (Nat×Nat)}{a:List Nat}(h:Sm U G c a){p:Nat}(hp:p∈U)(hn:p∉a):Sm U G c (a++[p]):=
 ⟨h.cn,h.cu,tM.mpr ⟨h.an,by simp,λx hx y hy e=>hn (by rw[cI.mp hy]at e;exact e▸hx)⟩,λx hx=>by
  rcases fK.mp hx with z|z
  ·exact h.au x z
  ·rw[cI.mp z];exact hp,h.cv⟩
theorem Jl{c:List (Nat×Nat)}{p g:Nat}{x:Nat×Nat}(h:x∈cY c p g):x∈c\/x.2=g:=by
 unfold cY at h
 split at h
 ·obtain⟨y,hy,e⟩:=bV.mp h
  split at e
  ·exact .inr (by rw[<-e])
  ·exact .inl (e▸hy)
 ·rcases fK.mp h with z|z
  ·exact .inl z
  ·exact .inr (by rw[cI.mp z])
theorem Sm.put{U G:List Nat}{c:List (Nat×Nat)}{a:List Nat}(h:Sm U G c a){p:Nat}(hp:p∈U){g:Nat}(hg:g∈G):Sm U G (cY c p g) a:=
 ⟨D7 h.cn p g,λx hx=>by
  rw[D6]at hx
  split at hx
  ·exact h.cu x hx
  ·rcases fK.mp hx with z|z
   ·exact h.cu x z
   ·rw[cI.mp z];exact hp,h.an,h.au,λx hx=>(Jl hx).elim (h.cv x) λe=>e▸hg⟩
theorem sR{cf:Nat->List D->Res D}{C:D}{t1 t2 g:Nat}{U G:List Nat}(hg:g∈G)(hU:U.length<=100){rec:Nat->List (Nat×Nat)->List Nat->Option (Bool×List (Nat×Nat)×List Nat)}
 (hrec:∀g c a b c' a',g∈G->Sm U G c a->rec g c a=some (b,c',a')->Sm U G c' a'/\fO cf 34 C (bK c) (bL a) (.int (g:Int))=.ok (.bl b,bK c',bL a')) :
 ∀(xs:List Nat)(c:List (Nat×Nat))(a:List Nat)(b:Bool)(c':List (Nat×Nat))(a':List Nat)(x:Sl),(∀p∈xs,p∈U)->Sm U G c a->fcL rec g xs c a=some (b,c',a') ->
  Sm U G c' a'/\if b=true then aP (aM T cf (.one 4) gP) (xs.map aG) (fcE C t1 t2 c a g x)=.ok (.rr (.bl true) t1 (bK c') t2 (bL a'))else ∃y,aP (aM T cf (.one 4) gP) (xs.map aG) (fcE C t1 t2 c a g x)=.ok (.nx (fcE C t1 t2 c' a' g y))
 |[],c,a,b,c',a',x,_,h,e=>by
  cases e
  exact⟨h,by rw[if_neg aO];exact⟨x,rfl⟩⟩
 |p::r,c,a,b,c',a',x,hx,h,e=>by
  have hp:=hx p bC
  have hr:∀q∈r,q∈U:=λq hq=>hx q (aR _ hq)
  rw[fcL]at e
  by_cases ha:p∈a
  ·rw[if_pos ha]at e
   obtain⟨g1,g2⟩:=sR (t1:=t1) (t2:=t2) hg hU hrec r c a b c' a' (.v (.int (p:Int))) hr h e
   refine⟨g1,?_⟩
   have body:aM T cf (.one 4) gP (aG p) (fcE C t1 t2 c a g x)=.ok (.nx (fcE C t1 t2 c a g (.v (.int (p:Int))))):=by
    have q:=Dx a p
    rw[decide_eq_false (by simpa using ha)]at q
    simp[aM,gP,fcE,aG,q]
   rw[aK,dJ body]
   exact g2
  ·rw[if_neg ha]at e
   have q:=Dx a p
   rw[decide_eq_true ha]at q
   have qa:=Jk ha
   have hA:=h.ask hp ha
   cases hc:aL c p with
   |none=>
    rw[hc]at e
    cases e
    refine⟨hA.put hp hg,?_⟩
    rw[if_pos rfl]
    have qc:=Dy c p
    rw[hc]at qc
    have pc:=Dw c p g
    have body:aM T cf (.one 4) gP (aG p) (fcE C t1 t2 c a g x)=.ok (.rr (.bl true) t1 (bK (cY c p g)) t2 (bL (a++[p]))):=by
     have st:exS T cf (.ifR false (.cmp .NotIn (.var 4) (.rd 1)) 34 (.var 0) 1 2 (.ix (.rd 1) (.var 4)) (.cons (.dputR 1 (.var 4) (.var 3)) (.cons (.retR (.con (.bl true)) 1 2) .nil)) .nil) (fcE C t1 t2 c (a++[p]) g (.v (.int (p:Int))))=.ok (.rr (.bl true) t1 (bK (cY c p g)) t2 (bL (a++[p]))):=by
      rw[ifR_t rfl (by decide) (z:=.bl true) (by simp[fcE,qc]) rfl]
      have l1:=(h.len hU).1
      simp[fcE,pc,l1,Res.of,dA]
     have l2:=(h.len hU).2
     generalize hz:(S.ifR false (.cmp .NotIn (.var 4) (.rd 1)) 34 (.var 0) 1 2 (.ix (.rd 1) (.var 4)) (.cons (.dputR 1 (.var 4) (.var 3)) (.cons (.retR (.con (.bl true)) 1 2) .nil)) .nil)=W at st
     simp only[fcE]at st
     simp[aM,gP,fcE,aG,q,qa,l2,hz,st,Res.of,dA]
    rw[aK,DF body]
   |some g0=>
    rw[hc]at e
    dsimp only at e
    cases hz:rec g0 c (a++[p])with
    |none=>rw[hz]at e;cases e
    |some z=>
     obtain⟨b1,c1,a1⟩:=z
     obtain⟨s1,rf⟩:=hrec g0 c (a++[p]) b1 c1 a1 (h.cv _ (oC hc)) hA hz
     rw[hz]at e
     have qc:=Dy c p
     rw[hc]at qc
     have ix:D.ix (.dct (bK c)) (.int (p:Int))=.ok (.int (g0:Int)):=by rw[rA,qZ,Res.ok_bind,zA,hc];rfl
     have l2:=(h.len hU).2
     have st:=DA (T:=T) (cf:=cf) (e:=fcE C t1 t2 c (a++[p]) g (.v (.int (p:Int)))) (neg:=false) (c:=.cmp .NotIn (.var 4) (.rd 1)) (x:=.var 0) (i:=1) (j:=2) (y:=.ix (.rd 1) (.var 4)) (a:=.cons (.dputR 1 (.var 4) (.var 3)) (.cons (.retR (.con (.bl true)) 1 2) .nil)) (b:=.nil) (f:=34) (k:=b1) rfl (by decide) (.inr ⟨(show _=Res.ok (D.bl false) by simp[fcE,qc]),rfl⟩) (d1:=C) (by simp[fcE]) (g:=bK c) (by simp[fcE]) (h:=bL (a++[p])) (by simp[fcE]) (d2:=.int (g0:Int)) (by simp[fcE,ix]) rf rfl
     generalize hw:(S.ifR false (.cmp .NotIn (.var 4) (.rd 1)) 34 (.var 0) 1 2 (.ix (.rd 1) (.var 4)) (.cons (.dputR 1 (.var 4) (.var 3)) (.cons (.retR (.con (.bl true)) 1 2) .nil)) .nil)=W at st
     cases b1 with
     |true=>
      cases e
      refine⟨s1.put hp hg,?_⟩
      rw[if_pos rfl]
      have pc:=Dw c1 p g
      have l1:=(s1.len hU).1
      have body:aM T cf (.one 4) gP (aG p) (fcE C t1 t2 c a g x)=.ok (.rr (.bl true) t1 (bK (cY c1 p g)) t2 (bL a')):=by
       rw[if_pos (by decide)]at st
       simp[fcE,pc,l1,Res.of,dA]at st
       simp[aM,gP,fcE,aG,q,qa,l2,hw,st,Res.of,dA]
      rw[aK,DF body]
     |false=>
      obtain⟨g1,g2⟩:=sR (t1:=t1) (t2:=t2) hg hU hrec r c1 a1 b c' a' (.v (.int (p:Int))) hr s1 e
      refine⟨g1,?_⟩
      have body:aM T cf (.one 4) gP (aG p) (fcE C t1 t2 c a g x)=.ok (.nx (fcE C t1 t2 c1 a1 g (.v (.int (p:Int))))):=by
       rw[if_neg (by decide)]at st
       simp[fcE]at st
       simp[aM,gP,fcE,aG,q,qa,l2,hw,st,Res.of,dA]
      rw[aK,dJ body]
      exact g2
theorem Dz{C:D}{U G:List Nat}(hU:U.length<=100){ch:Nat->List Nat}(hch:∀g∈G,D.ix C (.int (g:Int))=.ok (.lst ((ch g).map aG))/\∀p∈ch g,p∈U)(m:Nat) :
 ∀(n g:Nat)(c:List (Nat×Nat))(a:List Nat)(b:Bool)(c':List (Nat×Nat))(a':List Nat),g∈G->Sm U G c a->fc ch n g c a=some (b,c',a')->Sm U G c' a'/\∀t1 t2:Nat,aB T dfs (m+n) 34 [C,.tup [.int t1,.dct (bK c)],.tup [.int t2,.dct (bL a)],.int (g:Int)]=.ok (.tup [.bl b,.dct (bK c'),.dct (bL a')])
 |0,g,c,a,b,c',a',hg,h,e=>by cases e
 |n+1,g,c,a,b,c',a',hg,h,e=>by
  rw[fc]at e
  have hrec:∀g c a b c' a',g∈G->Sm U G c a->fc ch n g c a=some (b,c',a')->Sm U G c' a'/\fO (aB T dfs (m+n)) 34 C (bK c) (bL a) (.int (g:Int))=.ok (.bl b,bK c',bL a'):=λg c a b c' a' hg h e=>by
   obtain⟨h1,h2⟩:=Dz hU hch m n g c a b c' a' hg h e
   exact⟨h1,Au λt1 t2 _=>h2 t1 t2⟩
  obtain⟨ix,hu⟩:=hch g hg
  refine⟨(sR (t1:=0) (t2:=0) hg hU hrec (ch g) c a b c' a' .no hu h e).1,λt1 t2=>?_⟩
  obtain⟨_,run⟩:=sR (C:=C) (t1:=t1) (t2:=t2) hg hU hrec (ch g) c a b c' a' .no hu h e
  refine Iv rfl rfl rfl ?_
  show exS T (aB T dfs (m+n)) oK (fcE C t1 t2 c a g .no)=_
  cases b with
  |true=>
   rw[if_pos rfl]at run
   simp only[fcE]at run⊢
   simp[oK,ix,run]
  |false=>
   rw[if_neg aO]at run
   obtain⟨y,run⟩:=run
   simp only[fcE]at run⊢
   simp[oK,ix,run]
theorem in_lN{i:Nat}{ws:List Nat}:D.cmp .In (.int (i:Int)) (.lst (aA ws))=.ok (.bl (decide (i∈ws))):=by
 show(do let k<-aC (D.pls 30 (aA ws)&&D.pl 29 (.int (i:Int))) (.ok (D.mem (.int (i:Int)) (aA ws)));.ok (D.bl k))=_
 rw[bR (by rw[kK 29 ws];rfl),oA];rfl
theorem zB{i:Nat}{ws:List Nat}:D.cmp .NotIn (.int (i:Int)) (.lst (aA ws))=.ok (.bl (!decide (i∈ws))):=by
 show(do let k<-aC (D.pls 30 (aA ws)&&D.pl 29 (.int (i:Int))) (.ok (D.mem (.int (i:Int)) (aA ws)));.ok (D.bl (!k)))=_
 rw[bR (by rw[kK 29 ws];rfl),oA];rfl
theorem book62(n:Nat)(ns:List Int)(at_:Nat)(hn:ns.length<=63)(ha:at_<=20):∃(P:List Part)(Q:List Player)(S:List Scene)(L:D)(cv:List (Nat×Nat)),Drawn P Q S/\(∀x∈cv,x.1<P.length/\x.2<Q.length)/\cv.length<=48 /\
 aB T dfs (n+3) 28 [.lst (ns.map D.int),.int at_]=.ok (.tup [.tup (P.map Part.enc),.tup (Q.map Player.enc),.tup (S.map Scene.enc),L,.tup (cv.map prD)]):=by
 have e:=J7 n ns at_ hn ha
 generalize hf:fV ns at_=f at e
 generalize hC:(ns.drop (at_+8)).take 9=cs at e
 have hcl:cs.length<=9:=by rw[<-hC,jG];lia
 have hm:=Do (f 1)
 refine⟨(aD (bQ (f 1))).map (partR f),(aD (f 1/56%7).toNat).map (J8 f),jW (f 5) (bQ (f 1)) 0 cs,.tup ((yX f).map lkD),yY f,⟨by simpa using hm,by simp;lia,by rw[Dt];exact hcl,?_,?_,?_⟩,?_,?_,?_⟩
 ·intro p hp
  obtain⟨k,_,rfl⟩:=bV.mp hp
  rfl
 ·intro s hs
  rw[aE,cC]
  exact Du _ _ _ _ s hs
 ·intro p hp
  obtain⟨k,_,rfl⟩:=bV.mp hp
  exact⟨(sN _).1,(sN _).1⟩
 ·intro x hx
  rw[aE,cC,aE,cC]
  exact Dp hx
 ·have h:=Dq (cell:=f 7) (share:=2) (one:=bQ (f 1)) (other:=(f 1/56%7).toNat)
  have:=tO hm (show(f 1/56%7).toNat<=6 by lia)
  exact bX h this
 ·rw[e]
  unfold yZ lX jE sQ
  rw[Ds,cB,cB,cB,cB]
  rfl
noncomputable def iF (p:Part):Part:=⟨p.name, "a", 0,0⟩
noncomputable def fF (q:Player):Player:=⟨q.name, "ba", q.hire⟩
noncomputable def cA(cs:List Nat)(i:Nat):Nat:=cs.getD i 0
noncomputable def fG(cell:Int)(m n:Nat):List Nat:=(aD n).map λ(k:Nat)=>(aN cell (k:Int)%(m:Int)).toNat
noncomputable def gB(cs:List Nat):List Nat->List Nat->List Nat
 |kept,[]=>kept
 |kept,p::r=>if cA cs p∈kept.map (λi=>cA cs i)then gB cs kept r else gB cs (kept++[p]) r
noncomputable def iG(cs:List Nat)(s:Scene):Scene:=⟨s.name,s.len,s.pause,gB cs [] s.who⟩
theorem sS(cs:List Nat):∀(r kept:List Nat),(kept.map (λi=>cA cs i)).Nodup->((gB cs kept r).map (λi=>cA cs i)).Nodup/\(∀x∈gB cs kept r,x∈kept\/x∈r)
 |[],kept,h=>⟨h,λx hx=>.inl hx⟩
 |p::r,kept,h=>by
  rw[gB]
  by_cases c:cA cs p∈kept.map (λi=>cA cs i)
  ·rw[if_pos c]
   obtain⟨h1,h2⟩:=sS cs r kept h
   exact⟨h1,λx hx=>(h2 x hx).imp id (aR _)⟩
  ·rw[if_neg c]
   obtain⟨h1,h2⟩:=sS cs r (kept++[p]) (by
    rw[fM,tM]
    refine⟨h,by simp,λx hx y hy e=>c ?_⟩
    rw[aK,lZ,cI]at hy
    rw[<-hy,<-e];exact hx)
   refine⟨h1,λx hx=>?_⟩
   rcases h2 x hx with z|z
   ·rcases fK.mp z with z|z
    ·exact .inl z
    ·exact .inr (by rw[cI.mp z];exact bC)
   ·exact .inr (aR _ z)
theorem EA{α β:Type}(f:α->β):∀{l:List α},(l.map f).Nodup->l.Nodup
 |[],_=>gW
 |a::r,h=>by
  rw[aK,dD]at h
  exact dD.mpr ⟨λz=>h.1 (bV.mpr ⟨a,z,rfl⟩),EA f h.2⟩
theorem Jm{cs:List Nat}{m:Nat}{s:Scene}(h:GoodScene m s):GoodScene m (iG cs s):=by
 obtain⟨h1,h2⟩:=sS cs s.who [] gW
 exact⟨h.len,h.pause,EA _ h1,λi hi=>h.lt i ((h2 i hi).resolve_left λz=>by cases z)⟩
theorem cast_at{cs:List Nat}{i:Nat}(h:i<cs.length):D.ix (.lst (aA cs)) (.int (i:Int))=.ok (.int (cA cs i:Int)):=by
 refine iY ?_
 unfold aA
 rw[bT,bD h,show cA cs i=cs[i] by unfold cA;rw[jH,bD h];rfl];rfl
theorem zC(n:Nat){cs:List Nat}(h8:cs.length<=8)(a0 a1 a2 a3 a5 a6 a7 a8 a9:Sl):∀(r kept:List Nat)(x:Sl),(∀i∈r,i<cs.length)->(∀i∈kept,i<cs.length)->kept.length+r.length<=100 ->
 ∃y,aP (aM T (aB T dfs n) (.one 11) lV) (aA r) [a0,a1,a2,a3,.v (.lst (aA cs)),a5,a6,a7,a8,a9,.o (.lst (aA kept)),x]=.ok (.nx [a0,a1,a2,a3,.v (.lst (aA cs)),a5,a6,a7,a8,a9,.o (.lst (aA (gB cs kept r))),y])
 |[],kept,x,_,_,_=>⟨x,rfl⟩
 |p::r,kept,x,hr,hk,hl=>by
  have hb:=bN
  have hp:=hr p bC
  have e1:=cast_at hp
  have c1:∀z,aY (aI T (aB T dfs n) 1 [4] (.one 0) yJ (.con (.bl true)) [a0,a1,a2,a3,.v (.lst (aA cs)),a5,a6,a7,a8,a9,.o (.lst (aA kept)),z]) (aA kept)=.ok (aA (kept.map λi=>cA cs i)):=λz=>by
   unfold aA
   rw[cJ (λ(i:Nat)=>D.int (i:Int)) (λi=>some (D.int (cA cs i:Int))) (λi hi=>by
    have:=cast_at (hk i hi)
    unfold aA at this
    simp[aI,Tr.aX,yJ,this]),fN,cB];rfl
  have ln:(aA kept).length<=big:=by rw[fW];rw[aW]at hl;lia
  have ll:(aA kept).length<big:=by rw[fW];rw[aW]at hl;lia
  have q:=zB (i:=cA cs p) (ws:=kept.map λi=>cA cs i)
  rw[gB]
  have ap:aA kept++[D.int (p:Int)]=aA (kept++[p]):=by unfold aA;rw[fM];rfl
  by_cases c:cA cs p∈kept.map (λi=>cA cs i)
  ·rw[if_pos c]
   rw[decide_eq_true c]at q
   obtain⟨y,hy⟩:=zC n h8 a0 a1 a2 a3 a5 a6 a7 a8 a9 r kept (.v (.int (p:Int))) (λi hi=>hr i (aR _ hi)) hk (by rw[aW]at hl;lia)
   refine⟨y,?_⟩
   have body:aM T (aB T dfs n) (.one 11) lV (.int (p:Int)) [a0,a1,a2,a3,.v (.lst (aA cs)),a5,a6,a7,a8,a9,.o (.lst (aA kept)),x]=.ok (.nx [a0,a1,a2,a3,.v (.lst (aA cs)),a5,a6,a7,a8,a9,.o (.lst (aA kept)),.v (.int (p:Int))]):=by
    generalize aA kept=k at *
    simp[aM,lV,e1,c1,ln,q]
   show aP _ (.int (p:Int)::aA r) _=_
   rw[dJ body,hy]
  ·rw[if_neg c]
   rw[decide_eq_false c]at q
   obtain⟨y,hy⟩:=zC n h8 a0 a1 a2 a3 a5 a6 a7 a8 a9 r (kept++[p]) (.v (.int (p:Int))) (λi hi=>hr i (aR _ hi)) (λi hi=>by
    rcases fK.mp hi with z|z
    ·exact hk i z
    ·rw[cI.mp z];exact hp) (by rw[aW]at hl;rw[cD,kW];lia)
   refine⟨y,?_⟩
   have body:aM T (aB T dfs n) (.one 11) lV (.int (p:Int)) [a0,a1,a2,a3,.v (.lst (aA cs)),a5,a6,a7,a8,a9,.o (.lst (aA kept)),x]=.ok (.nx [a0,a1,a2,a3,.v (.lst (aA cs)),a5,a6,a7,a8,a9,.o (.lst (aA (kept++[p]))),.v (.int (p:Int))]):=by
    rw[<-ap]
    generalize aA kept=k at *
    simp[aM,lV,e1,c1,ln,ll,q]
   show aP _ (.int (p:Int)::aA r) _=_
   rw[dJ body,hy]
theorem Jn{α:Type}(xs:List α)(k:Nat):cut xs none (some (k:Int))=xs.take k:=by
 by_cases h:k<=xs.length
 ·exact wQ h
 ·unfold cut sIx
  dsimp only
  rw[if_neg (by lia),kY,L0 (by lia),oX,tF,List.take_length,mD (by lia)]
theorem EB(n:Nat){cs:List Nat}(h8:cs.length<=8)(a0 a1 a2 a3:Sl):∀(ss done:List Scene)(x6 x7 x8 x9 x10 x11:Sl),(∀s∈ss,GoodScene cs.length s)->done.length+ss.length<=100 ->
 ∃y6 y7 y8 y9 y10 y11,aP (aM T (aB T dfs n) (.many [6,7,8,9]) sD) (ss.map Scene.enc) [a0,a1,a2,a3,.v (.lst (aA cs)),.o (.lst (done.map Scene.enc)),x6,x7,x8,x9,x10,x11]=.ok (.nx [a0,a1,a2,a3,.v (.lst (aA cs)),.o (.lst ((done++ss.map (iG cs)).map Scene.enc)),y6,y7,y8,y9,y10,y11])
 |[],done,x6,x7,x8,x9,x10,x11,_,_=>⟨x6,x7,x8,x9,x10,x11,by rw[lZ (f:=iG cs),oS];rfl⟩
 |s::ss,done,x6,x7,x8,x9,x10,x11,hg,hl=>by
  have hb:=bN
  have gs:=hg s bC
  have w8:s.who.length<=8:=bX (gA gs.nd (U:=aD cs.length) λx hx=>cV.mpr (gs.lt x hx)) (by rw[cC];exact h8)
  rw[aW]at hl
  obtain⟨y,hy⟩:=zC n h8 a0 a1 a2 a3 (.o (.lst (done.map Scene.enc))) (.v (.str s.name)) (.v (.int s.len)) (.v (.int s.pause)) (.v (.tup (aA s.who))) s.who [] x11 gs.lt (λi hi=>by cases hi) (by rw[oW];lia)
  obtain⟨y6,y7,y8,y9,y10,y11,h⟩:=EB n h8 a0 a1 a2 a3 ss (done++[iG cs s]) (.v (.str s.name)) (.v (.int s.len)) (.v (.int s.pause)) (.v (.tup (aA s.who))) (.o (.lst (aA (gB cs [] s.who)))) y (λt ht=>hg t (aR _ ht)) (by rw[cD,kW];lia)
  refine⟨y6,y7,y8,y9,y10,y11,?_⟩
  have ll:(done.map Scene.enc).length<big:=by rw[aE];lia
  have ap:done.map Scene.enc++[D.tup [.str s.name,.int s.len,.int s.pause,.tup (aA (gB cs [] s.who))]]=(done++[iG cs s]).map Scene.enc:=by rw[fM];rfl
  have body:aM T (aB T dfs n) (.many [6,7,8,9]) sD s.enc [a0,a1,a2,a3,.v (.lst (aA cs)),.o (.lst (done.map Scene.enc)),x6,x7,x8,x9,x10,x11]=.ok (.nx [a0,a1,a2,a3,.v (.lst (aA cs)),.o (.lst ((done++[iG cs s]).map Scene.enc)),.v (.str s.name),.v (.int s.len),.v (.int s.pause),.v (.tup (aA s.who)),.o (.lst (aA (gB cs [] s.who))),y]):=by
   rw[show aA []=[]from rfl]at hy
   rw[<-ap]
   generalize done.map Scene.enc=dd at *
   generalize aA (gB cs [] s.who)=kk at *
   simp[aM,sD,Scene.enc,hy,ll]
  rw[aK,dJ body,h,aK]
  rw[oU];rfl
theorem Jo{cell:Int}{m n:Nat}(hm:0<m){j:Nat}(h:j∈fG cell m n):j<m:=by
 obtain⟨k,_,rfl⟩:=bV.mp h
 have:=zW (aN cell (k:Int)) (show(0:Int)<(m:Int) by lia)
 have:=pB (aN cell (k:Int)) (show(m:Int)≠0 by lia)
 lia
theorem staged(n:Nat)(P:List Part)(Q:List Player)(S:List Scene)(L C:D)(dr:Drawn P Q S)(hq:0<Q.length)(cell:Int) :
 aB T dfs (n+2) 29 [.tup [.tup (P.map Part.enc),.tup (Q.map Player.enc),.tup (S.map Scene.enc),L,C],.int cell] =
  .ok (.tup [.tup [.tup ((P.map iF).map Part.enc),.tup ((Q.map fF).map Player.enc),.tup (((S.take 5).map (iG (fG cell Q.length P.length))).map Scene.enc),L,C],.lst (aA (fG cell Q.length P.length))]):=by
 have hb:=bN
 have hp8:=dr.hp
 have hq6:=dr.hq
 refine bP (k:=false) rfl rfl rfl ?_
 have c1:∀e,aY (aI T (aB T dfs (n+1)) 4 [] (.many [0,1,2,3]) yG (.con (.bl true)) e) (P.map Part.enc)=.ok ((P.map iF).map Part.enc):=λe=>by
  rw[cJ Part.enc (λp=>some (iF p).enc) (λp _=>by simp[aI,Tr.aX,yG,Part.enc,iF]),fN,cB];rfl
 have c2:∀e,aY (aI T (aB T dfs (n+1)) 3 [] (.many [0,1,2]) yH (.con (.bl true)) e) (Q.map Player.enc)=.ok ((Q.map fF).map Player.enc):=λe=>by
  rw[cJ Player.enc (λp=>some (fF p).enc) (λp _=>by simp[aI,Tr.aX,yH,Player.enc,fF]),fN,cB];rfl
 have lp:Bt.run .len [.tup ((P.map iF).map Part.enc)]=.ok (.int (P.length:Nat)):=by
  show Res.ok (D.int (((P.map iF).map Part.enc).length:Nat))=_
  rw[aE,aE]
 have lq:Bt.run .len [.tup ((Q.map fF).map Player.enc)]=.ok (.int (Q.length:Nat)):=by
  show Res.ok (D.int (((Q.map fF).map Player.enc).length:Nat))=_
  rw[aE,aE]
 have rg:=iD (n:=P.length) (by lia)
 have c3:∀a0 a2 x4 x5 x6 x7 x8 x9 x10 x11,aY (aI T (aB T dfs (n+1)) 1 [1,3] (.one 0) yI (.con (.bl true)) [a0,.v (.int cell),a2,.v (.tup ((Q.map fF).map Player.enc)),x4,x5,x6,x7,x8,x9,x10,x11]) ((aD P.length).map aG)=.ok (aA (fG cell Q.length P.length)):=λa0 a2 x4 x5 x6 x7 x8 x9 x10 x11=>by
  rw[cJ aG (λ(k:Nat)=>some (D.int ((aN cell (k:Int)%(Q.length:Int)).toNat:Int))) (λk hk=>by
   have hk:=cV.mp hk
   have e1:=jD n cell (k:Int) ⟨by lia,by lia⟩
   have e2:D.bin .Mod (.int (aN cell (k:Int))) (.int (Q.length:Nat))=.ok (.int ((aN cell (k:Int)%(Q.length:Int)).toNat:Int)):=by
    rw[Ip (by lia)]
    have:=pB (aN cell (k:Int)) (show(Q.length:Int)≠0 by lia)
    rw[LZ this]
   generalize ((Q.map fF).map Player.enc)=qq at *
   simp[aI,Tr.aX,yI,aG,e1,lq,e2]),fN]
  unfold aA fG
  rw[cB];rfl
 have hcl:(fG cell Q.length P.length).length=P.length:=by unfold fG;rw[aE,cC]
 have sl:D.sl (.tup (S.map Scene.enc)) none (some 5)=.ok (.tup ((S.take 5).map Scene.enc)):=by
  show Res.ok (D.tup (cut (S.map Scene.enc) none (some 5)))=_
  rw[show(some (5:Int))=some ((5:Nat):Int)from rfl]
  rw[Jn,zX]
 generalize hcs:fG cell Q.length P.length=cs at *
 obtain⟨y6,y7,y8,y9,y10,y11,lo⟩:=EB (n+1) (cs:=cs) (by lia) (.v (.tup [.tup (P.map Part.enc),.tup (Q.map Player.enc),.tup (S.map Scene.enc),L,C])) (.v (.int cell)) (.v (.tup ((P.map iF).map Part.enc))) (.v (.tup ((Q.map fF).map Player.enc))) (S.take 5) [] .no .no .no .no .no .no (λs hs=>by rw[hcl];exact dr.good s (zV hs)) (by rw[oW,jG];lia)
 have l1:((P.map Part.enc)).length<=big:=by rw[aE];lia
 have l2:((Q.map Player.enc)).length<=big:=by rw[aE];lia
 have l3:((aD P.length).map aG).length<=big:=by rw[aE,cC];lia
 rw[lZ,zO]at lo
 generalize (P.map iF).map Part.enc=pe at *
 generalize (Q.map fF).map Player.enc=qe at *
 generalize ((S.take 5).map (iG cs)).map Scene.enc=se at *
 generalize (S.take 5).map Scene.enc=s5 at *
 generalize S.map Scene.enc=s0 at *
 generalize P.map Part.enc=p0 at *
 generalize Q.map Player.enc=q0 at *
 generalize (aD P.length).map aG=rr at *
 generalize aA cs=cc at *
 simp[yK,c1,c2,c3,lp,lq,rg,l1,l2,l3,sl,lo]
noncomputable def iH(A:D)(aw:List Nat):Prop:=∀j:Nat,D.cmp .In (.int (j:Int)) A=.ok (.bl (decide (j∈aw)))/\D.cmp .NotIn (.int (j:Int)) A=.ok (.bl (!decide (j∈aw)))
theorem zD(aw:List Nat):iH (.lst (aA aw)) aw:=λ_=>⟨in_lN,zB⟩
theorem Jp(aw:List Nat):iH (.tup (aA aw)) aw:=λj=>⟨Iy,by
 show(do let k<-aC (D.pls 30 (aA aw)&&D.pl 29 (.int (j:Int))) (.ok (D.mem (.int (j:Int)) (aA aw)));.ok (D.bl (!k)))=_
 rw[bR (by rw[kK 29 aw];rfl),oA];rfl⟩
noncomputable def jX(cs aw:List Nat)(s:Scene):List Nat:=s.who.filter λi=>decide (cA cs i∈aw)
theorem EC{S:List Scene}{k:Nat}(h:k<S.length):D.ix (.tup (S.map Scene.enc)) (.int (k:Int))=.ok S[k].enc:=iC (by rw[bT,bD h];rfl)
theorem Jq(n:Nat)(B0 B1 L C:D)(S:List Scene)(cs aw:List Nat)(A:D)(hA:iH A aw)(hs:∀s∈S,GoodScene cs.length s)(h8:cs.length<=8)(k:Nat)(hk:k<S.length) :
 aB T dfs (n+1) 10 [.tup [B0,B1,.tup (S.map Scene.enc),L,C],.lst (aA cs),A,.int (k:Int)]=.ok (.lst (aA (jX cs aw S[k]))):=by
 have hb:=bN
 have gs:=hs S[k] (kC hk)
 have e1:=EC hk
 have w8:S[k].who.length<=8:=bX (gA gs.nd (U:=aD cs.length) λx hx=>cV.mpr (gs.lt x hx)) (by rw[cC];exact h8)
 refine bP (k:=true) rfl rfl rfl ?_
 have c1:∀a0 a3,aY (aI T (aB T dfs n) 1 [2,1] (.one 0) rW rV [a0,.v (.lst (aA cs)),.v A,a3]) (aA S[k].who)=.ok (aA (jX cs aw S[k])):=λa0 a3=>by
  unfold jX aA
  rw[cJ (λ(i:Nat)=>D.int (i:Int)) (λi=>if cA cs i∈aw then some (D.int (i:Int))else none) (λi hi=>by
   have e1:=cast_at (gs.lt i hi)
   have e2:=(hA (cA cs i)).1
   unfold aA at e1
   generalize cA cs i=j at *
   by_cases h:j∈aw
   ·rw[decide_eq_true h]at e2
    rw[if_pos h]
    simp[aI,Tr.aX,rW,rV,e1,e2]
   ·rw[decide_eq_false h]at e2
    rw[if_neg h]
    simp[aI,Tr.aX,rW,rV,e1,e2])]
  refine congrArg Res.ok ?_
  generalize S[k].who=l
  induction l with
  |nil=>rfl
  |cons x r ih=>
   rw[gT,gX]
   by_cases h:cA cs x∈aw
   ·rw[if_pos h,if_pos (by simpa using h),aK,ih]
   ·rw[if_neg h,if_neg (by simpa using h),ih]
 have lw:(aA S[k].who).length<=big:=by rw[fW];lia
 have e3:D.ix S[k].enc (.int 3)=.ok (.tup (aA S[k].who)):=by unfold Scene.enc;rfl
 generalize S[k].enc=se at *
 generalize aA S[k].who=ww at *
 simp[xE,e1,e3,c1,lw]
noncomputable def eL(l:List Nat):List Nat:=(dO (l.map λ(n:Nat)=>(n:Int))).map Int.toNat
theorem ED(n:Int):∀(l:List Int)(x:Int),x∈gI n l↔x=n\/x∈l
 |[],x=>by simp[gI]
 |m::r,x=>by
  rw[gI]
  split
  ·simp
  ·rw[aV,ED n r x,aV]
   constructor
   ·rintro(h|h|h)
    ·exact .inr (.inl h)
    ·exact .inl h
    ·exact .inr (.inr h)
   ·rintro(h|h|h)
    ·exact .inr (.inl h)
    ·exact .inl h
    ·exact .inr (.inr h)
theorem sT:∀(l:List Int)(x:Int),x∈dO l↔x∈l
 |[],x=>by simp[dO]
 |n::r,x=>by rw[dO,ED,sT r,aV]
theorem EE(n:Int):∀l:List Int,(gI n l).length=l.length+1
 |[]=>rfl
 |m::r=>by
  rw[gI]
  split
  ·rfl
  ·rw[aW,EE n r,aW]
theorem EF:∀l:List Int,(dO l).length=l.length
 |[]=>rfl
 |n::r=>by rw[dO,EE,EF r,aW]
theorem sortN_mem{l:List Nat}{x:Nat}:x∈eL l↔x∈l:=by
 unfold eL
 rw[bV]
 constructor
 ·rintro⟨y,hy,rfl⟩
  obtain⟨z,hz,rfl⟩:=bV.mp ((sT _ _).mp hy)
  simpa using hz
 ·intro h
  exact⟨(x:Int),(sT _ _).mpr (bV.mpr ⟨x,h,rfl⟩),by simp⟩
theorem Jr(l:List Nat):(eL l).length=l.length:=by unfold eL;rw[aE,EF,aE]
theorem zE:∀l:List Nat,cN (aA l)=.ok (l.map λ(n:Nat)=>(n:Int))
 |[]=>rfl
 |n::r=>by
  show(do let q<-cN (aA r);Res.ok ((n:Int)::q))=_
  rw[zE r];rfl
theorem EG(l:List Nat):(dO (l.map λ(n:Nat)=>(n:Int))).map D.int=aA (eL l):=by
 unfold eL aA
 rw[cB]
 refine iK λx hx=>?_
 obtain⟨z,_,rfl⟩:=bV.mp ((sT _ _).mp hx)
 rfl
theorem EH{l:List Nat}(h:l.length<64):mY (.lst (aA l))=.ok (.lst (aA (eL l))):=by
 show(do let ns<-cN (aA l);aC (decide (ns.length<64)) (.ok (D.lst ((dO ns).map D.int))))=_
 rw[zE,Res.ok_bind,bR (by rw[aE];exact decide_eq_true h),EG]
noncomputable def iI(cs:List Nat)(s:Scene):List Nat:=s.who.map (cA cs)
noncomputable def kQ(cv:List (Nat×Nat))(cs aw:List Nat)(s:Scene)(part:Nat):List Nat:=(eL ((cv.filter λx=>x.1==part).map (·.2))).filter λj=>!decide (j∈aw)&&!decide (j∈iI cs s)
theorem Js(n:Nat)(B0 B1 L:D)(S:List Scene)(cv:List (Nat×Nat))(hcv:cv.length<=49)(cs aw:List Nat)(A:D)(hA:iH A aw)(hs:∀s∈S,GoodScene cs.length s)(h8:cs.length<=8)(k:Nat)(hk:k<S.length)(part:Nat) :
 aB T dfs (n+1) 11 [.tup [B0,B1,.tup (S.map Scene.enc),L,.tup (cv.map prD)],.lst (aA cs),A,.int (k:Int),.int (part:Int)]=.ok (.lst (aA (kQ cv cs aw S[k] part))):=by
 have hb:=bN
 have gs:=hs S[k] (kC hk)
 have e1:=EC hk
 have w8:S[k].who.length<=8:=bX (gA gs.nd (U:=aD cs.length) λx hx=>cV.mpr (gs.lt x hx)) (by rw[cC];exact h8)
 refine bP (k:=true) rfl rfl rfl ?_
 have c1:∀a0 a2 a3 a4 a5 a6,aY (aI T (aB T dfs n) 1 [1] (.one 0) xF (.con (.bl true)) [a0,.v (.lst (aA cs)),a2,a3,a4,a5,a6]) (aA S[k].who)=.ok (aA (iI cs S[k])):=λa0 a2 a3 a4 a5 a6=>by
  unfold iI aA
  rw[cJ (λ(i:Nat)=>D.int (i:Int)) (λi=>some (D.int (cA cs i:Int))) (λi hi=>by
   have e1:=cast_at (gs.lt i hi)
   unfold aA at e1
   generalize cA cs i=j at *
   simp[aI,Tr.aX,xF,e1]),fN,cB];rfl
 have c2:∀a0 a1 a2 a3 a5 a6,aY (aI T (aB T dfs n) 2 [4] (.many [0,1]) rY rX [a0,a1,a2,a3,.v (.int (part:Int)),a5,a6]) (cv.map prD)=.ok (aA ((cv.filter λx=>x.1==part).map (·.2))):=λa0 a1 a2 a3 a5 a6=>by
  rw[cJ prD (λx=>if x.1=part then some (D.int (x.2:Int))else none) (λx hx=>by
   by_cases h:x.1=part
   ·rw[if_pos h]
    have:((x.1:Nat):Int)=(part:Int):=by rw[h]
    simp[aI,Tr.aX,rY,rX,prD,this]
   ·rw[if_neg h]
    have:¬((x.1:Nat):Int)=(part:Int):=by lia
    simp[aI,Tr.aX,rY,rX,prD,this])]
  refine congrArg Res.ok ?_
  unfold aA
  generalize cv=l
  induction l with
  |nil=>rfl
  |cons x r ih=>
   rw[gT,gX]
   by_cases h:x.1=part
   ·rw[if_pos h,if_pos (by simpa using h),aK,aK,ih]
   ·rw[if_neg h,if_neg (by simpa using h),ih]
 have hl:((cv.filter λx=>x.1==part).map (·.2)).length<=49:=by rw[aE];exact bX (iL ..) hcv
 have so:=EH (l:=(cv.filter λx=>x.1==part).map (·.2)) (by lia)
 have c3:∀a0 a1 a3 a4 a6,aY (aI T (aB T dfs n) 1 [2,5] (.one 0) lR lQ [a0,a1,.v A,a3,a4,.v (.lst (aA (iI cs S[k]))),a6]) (aA (eL ((cv.filter λx=>x.1==part).map (·.2))))=.ok (aA (kQ cv cs aw S[k] part)):=λa0 a1 a3 a4 a6=>by
  unfold kQ
  generalize eL ((cv.filter λx=>x.1==part).map (·.2))=l
  have:aY (aI T (aB T dfs n) 1 [2,5] (.one 0) lR lQ [a0,a1,.v A,a3,a4,.v (.lst (aA (iI cs S[k]))),a6]) (l.map λ(i:Nat)=>D.int (i:Int))=_:=cJ (λ(i:Nat)=>D.int (i:Int)) (λj=>if(!decide (j∈aw)&&!decide (j∈iI cs S[k]))=true then some (D.int (j:Int))else none) (λj hj=>by
   have e2:=(hA j).2
   have e3:=zB (i:=j) (ws:=iI cs S[k])
   cases q1:decide (j∈aw)with
   |true=>rw[q1]at e2;simp[aI,Tr.aX,lR,lQ,e2]
   |false=>
    rw[q1]at e2
    cases q2:decide (j∈iI cs S[k])with
    |true=>rw[q2]at e3;simp[aI,Tr.aX,lR,lQ,e2,e3]
    |false=>rw[q2]at e3;simp[aI,Tr.aX,lR,lQ,e2,e3])
  refine this.trans (congrArg Res.ok ?_)
  unfold aA
  clear this
  induction l with
  |nil=>rfl
  |cons x r ih=>
   rw[gT,gX]
   by_cases h:(!decide (x∈aw)&&!decide (x∈iI cs S[k]))=true
   ·rw[if_pos h,if_pos h,aK,ih]
   ·rw[if_neg h,if_neg h,ih]
 have lw:(aA S[k].who).length<=big:=by rw[fW];lia
 have lc:(cv.map prD).length<=big:=by rw[aE];lia
 have ls:(aA (eL ((cv.filter λx=>x.1==part).map (·.2)))).length<=big:=by rw[fW,Jr];lia
 have e3:D.ix S[k].enc (.int 3)=.ok (.tup (aA S[k].who)):=by unfold Scene.enc;rfl
 generalize S[k].enc=se at *
 generalize aA S[k].who=ww at *
 generalize aA (iI cs S[k])=bw at *
 generalize aA (eL ((cv.filter λx=>x.1==part).map (·.2)))=sn at *
 generalize aA ((cv.filter λx=>x.1==part).map (·.2))=sm at *
 generalize cv.map prD=cw at *
 simp[xG,e1,e3,c1,c2,c3,lw,lc,ls,so]
theorem EI{f:Nat->D}:∀(G:List Nat)(kvs:List (Sum Int Str×D))(g:Nat),bE (eJ (G.map λ(g:Nat)=>(.inl (g:Int),f g)) kvs) (.inl (g:Int))=if g∈G then some (f g)else bE kvs (.inl (g:Int))
 |[],kvs,g=>by rw[if_neg (by simp)];rfl
 |x::r,kvs,g=>by
  show bE (eJ (r.map λ(g:Nat)=>(.inl (g:Int),f g)) (dG kvs (.inl (x:Int)) (f x))) (.inl (g:Int))=_
  rw[EI r _ g,wK]
  by_cases h:g∈r
  ·rw[if_pos h,if_pos (aR _ h)]
  ·rw[if_neg h]
   by_cases e:g=x
   ·subst e;rw[if_pos rfl,if_pos bC]
   ·rw[if_neg (λz=>e (by injection z with z;lia)),if_neg (λz=>by rcases aV.mp z with z|z;exact e z;exact h z)]
theorem EJ:∀(qs kvs:List (Sum Int Str×D))(k:Sum Int Str),(k∈qs.map (·.1)\/(bE kvs k).isSome=true)->(bE (eJ qs kvs) k).isSome=true
 |[],kvs,k,h=>by
  rcases h with h|h
  ·cases h
  ·exact h
 |q::r,kvs,k,h=>by
  show(bE (eJ r (dG kvs q.1 q.2)) k).isSome=true
  refine EJ r _ k ?_
  rcases h with h|h
  ·rw[aK]at h
   rcases aV.mp h with h|h
   ·exact .inr (by rw[wK,if_pos h];rfl)
   ·exact .inl h
  ·refine .inr ?_
   rw[wK]
   split
   ·rfl
   ·exact h
theorem EK:∀a:List Nat,jL (bL a)=.ok (a.map λ(n:Nat)=>(n:Int))
 |[]=>rfl
 |n::r=>by
  show(do let q<-jL (bL r);Res.ok ((n:Int)::q))=_
  rw[EK r];rfl
theorem Jt{a:List Nat}(h:a.length<64):mY (.dct (bL a))=.ok (.lst (aA (eL a))):=by
 show(do let ns<-jL (bL a);aC (decide (ns.length<64)) (.ok (D.lst ((dO ns).map D.int))))=_
 rw[EK,Res.ok_bind,bR (by rw[aE];exact decide_eq_true h),EG]
theorem Ju(a:List Nat):mV (.dct (bL a))=.ok (aA a):=by
 show Res.ok _=_
 unfold bL aA
 rw[cB];rfl
theorem Jv(c:List (Nat×Nat)):mV (.dct (bK c))=.ok (aA (c.map (·.1))):=by
 show Res.ok _=_
 unfold bK aA
 rw[cB,cB];rfl
theorem EL{c:List (Nat×Nat)}{p g:Nat}(h:aL c p=some g):D.ix (.dct (bK c)) (.int (p:Int))=.ok (.int (g:Int)):=by rw[rA,qZ,Res.ok_bind,zA,h];rfl
theorem Jw (n:Nat) (c:List (Nat×Nat)) (a:List Nat) (g:Nat) (ha:a.length<=20) (hc:∀p∈a,∃g,aL c p=some g):∃x,aB T dfs (n+1) 12 [.dct (bK c),.dct (bL a),.int (g:Int)]=.ok (.tup (.str "lacks" :: x)):=by
 have hb:=bN
 refine⟨[.lst (aA (eL (g::a.map λp=>(aL c p).getD 0))),.lst (aA (eL a))],bP (k:=false) rfl rfl rfl ?_⟩
 have c1:∀a1 a2 a3,aY (aI T (aB T dfs n) 1 [0] (.one 0) xH (.con (.bl true)) [.v (.dct (bK c)),a1,a2,a3]) (aA a)=.ok (aA (a.map λp=>(aL c p).getD 0)):=λa1 a2 a3=>by
  unfold aA
  rw[cJ (λ(i:Nat)=>D.int (i:Int)) (λp=>some (D.int (((aL c p).getD 0:Nat):Int))) (λp hp=>by
   obtain⟨g,hg⟩:=hc p hp
   have e:=EL hg
   rw[hg]
   simp[aI,Tr.aX,xH,e]),fN,cB];rfl
 have ks:=Ju a
 have s1:=EH (l:=g::a.map λp=>(aL c p).getD 0) (by rw[aW,aE];lia)
 have s2:=Jt (a:=a) (by lia)
 have la:(aA a).length<=big:=by rw[fW];lia
 have ad:D.bin .Add (.lst [.int (g:Int)]) (.lst (aA (a.map λp=>(aL c p).getD 0)))=.ok (.lst (aA (g::a.map λp=>(aL c p).getD 0))):=by
  show aC _ _=_
  rw[bR (decide_eq_true (by rw[fW,aE,kW];lia))];rfl
 generalize aA (g::a.map λp=>(aL c p).getD 0)=z1 at *
 generalize aA (a.map λp=>(aL c p).getD 0)=z2 at *
 generalize aA a=z3 at *
 simp[xI,ks,c1,la,ad,s1,s2]
theorem sU:∀{c:List (Nat×Nat)} {p g:Nat},(c.map (·.1)).Nodup->(p,g)∈c->aL c p=some g
 |x::r,p,g,nd,h=>by
  rw[aK,dD]at nd
  rw[jT]
  rcases aV.mp h with h|h
  ·rw[<-h,if_pos rfl]
  ·rw[if_neg (λz=>nd.1 (by rw[z];exact bV.mpr ⟨_,h,rfl⟩))]
   exact sU nd.2 h
noncomputable def jY(G:List Nat)(ch:Nat->List Nat):Prop:=∃f:Nat->Nat,(∀g∈G,f g∈ch g)/\∀g∈G,∀g'∈G,f g=f g'->g=g'
theorem Jx{G:List Nat}{ch:Nat->List Nat}{c:List (Nat×Nat)}(ok:OkA ch c)(h:∀g∈G,0<cK c g):jY G ch:=by
 have ex:∀g,∃p,g∈G->aL c p=some g:=λg=>by
  by_cases hg:g∈G
  ·have h0:=h g hg
   unfold cK at h0
   obtain⟨x,hx⟩:=L4 h0
   obtain⟨hx1,hx2⟩:=eN.mp hx
   have e0:=sU ok.1 (show(x.1,x.2)∈c from hx1)
   have hx2:x.2=g:=by simpa using hx2
   exact⟨x.1,λ_=>by rw[e0,hx2]⟩
  ·exact⟨0,λz=>absurd z hg⟩
 refine⟨λg=>(ex g).choose,λg hg=>ok.2 _ _ ((ex g).choose_spec hg),λg hg g' hg' e=>?_⟩
 have h1:=(ex g).choose_spec hg
 have h2:=(ex g').choose_spec hg'
 have e:(ex g).choose=(ex g').choose:=e
 rw[e,h2]at h1
 cases h1;rfl
theorem EM{c:List (Nat×Nat)}(nd:(c.map (·.1)).Nodup)(h1:∀g,cK c g<=1){p q g:Nat}(hp:aL c p=some g)(hq:aL c q=some g):p=q:=by
 have a:=h1 g
 unfold cK at a
 have mp:(p,g)∈c.filter λx=>x.2==g:=eN.mpr ⟨oC hp,by simp⟩
 have mq:(q,g)∈c.filter λx=>x.2==g:=eN.mpr ⟨oC hq,by simp⟩
 match hl:c.filter (λx=>x.2==g),a with
 |[],_=>rw[hl]at mp;cases mp
 |[y],_=>
  rw[hl]at mp mq
  have e1:=cI.mp mp
  have e2:=cI.mp mq
  rw[<-e2]at e1
  cases e1;rfl
 |_::_::_,h=>rw[hl]at a;simp at a
theorem Jy{G:List Nat}{ch:Nat->List Nat}{c:List (Nat×Nat)}{g:Nat}{a':List Nat}(hg:g∈G)(cv:∀x∈c,x.2∈G)(nd:(c.map (·.1)).Nodup)(h1:∀g,cK c g<=1)(h0:cK c g=0)(na:a'.Nodup)(hg2:∀p∈ch g,p∈a')(hall:∀p∈a',∃g,aL c p=some g/\∀q∈ch g,q∈a'):¬jY G ch:=by
 rintro⟨f,f1,f2⟩
 have sub:∀x∈g::a'.map (λp=>(aL c p).getD 0),x∈G/\∀p∈ch x,p∈a':=λx hx=>by
  rcases aV.mp hx with z|z
  ·subst z;exact⟨hg,hg2⟩
  ·obtain⟨p,hp,rfl⟩:=bV.mp z
   obtain⟨g0,e0,h⟩:=hall p hp
   rw[e0]
   exact⟨cv _ (oC e0),h⟩
 have ndG:(g::a'.map (λp=>(aL c p).getD 0)).Nodup:=by
  rw[dD]
  constructor
  ·intro z
   obtain⟨p,hp,e⟩:=bV.mp z
   obtain⟨g0,e0,_⟩:=hall p hp
   rw[e0]at e
   have e:g0=g:=e
   subst e
   unfold cK at h0
   have:(p,g0)∈c.filter λx=>x.2==g0:=eN.mpr ⟨oC e0,by simp⟩
   rw[List.length_eq_zero_iff.mp h0]at this
   cases this
  ·clear sub hg2
   induction a' with
   |nil=>exact gW
   |cons p r ih=>
    rw[dD]at na
    rw[aK,dD]
    refine⟨λz=>?_,?_⟩
    ·obtain⟨q,hq,e⟩:=bV.mp z
     obtain⟨g1,e1,_⟩:=hall p bC
     obtain⟨g2,e2,_⟩:=hall q (aR _ hq)
     rw[e1,e2]at e
     have e:g2=g1:=e
     subst e
     exact na.1 (EM nd h1 e1 e2▸hq)
    ·have:∀{l:List Nat},l.Nodup->(∀p∈l,∃g,aL c p=some g)->(l.map λp=>(aL c p).getD 0).Nodup:=by
      intro l
      induction l with
      |nil=>intro _ _;exact gW
      |cons x t iht=>
       intro n1 n2
       rw[dD]at n1
       rw[aK,dD]
       refine⟨λz=>?_,iht n1.2 λp hp=>n2 p (aR _ hp)⟩
       obtain⟨q,hq,e⟩:=bV.mp z
       obtain⟨g1,e1⟩:=n2 x bC
       obtain⟨g2,e2⟩:=n2 q (aR _ hq)
       rw[e1,e2]at e
       have e:g2=g1:=e
       subst e
       exact n1.1 (EM nd h1 e1 e2▸hq)
     exact this na.2 λp hp=>let ⟨g,h,_⟩:=hall p (aR _ hp);⟨g,h⟩
 have ndf:((g::a'.map (λp=>(aL c p).getD 0)).map f).Nodup:=by
  have:∀{l:List Nat},l.Nodup->(∀x∈l,x∈G)->(l.map f).Nodup:=by
   intro l
   induction l with
   |nil=>intro _ _;exact gW
   |cons x t iht=>
    intro n1 n2
    rw[dD]at n1
    rw[aK,dD]
    refine⟨λz=>?_,iht n1.2 λp hp=>n2 p (aR _ hp)⟩
    obtain⟨q,hq,e⟩:=bV.mp z
    exact n1.1 (f2 x (n2 x bC) q (n2 q (aR _ hq)) e.symm▸hq)
  exact this ndG λx hx=>(sub x hx).1
 have:=gA ndf (U:=a') λy hy=>by
  obtain⟨x,hx,rfl⟩:=bV.mp hy
  exact(sub x hx).2 _ (f1 x (sub x hx).1)
 rw[aE,aW,aE]at this
 lia
section
variable{C BK CS A K4:D}{x3:Sl}{U G:List Nat}{ch:Nat->List Nat}
noncomputable abbrev stE(BK CS A:D)(x3:Sl)(K4 C:D)(c:List (Nat×Nat))(x7 x8 x9:Sl):Nv:=[.v BK,.v CS,.v A,x3,.v K4,.v C,.o (.dct (bK c)),x7,x8,x9]
theorem EN(m:Nat)(hU:U.length<=6)(hch:∀g∈G,D.ix C (.int (g:Int))=.ok (.lst ((ch g).map aG))/\∀p∈ch g,p∈U)(hall:∀g,∀p∈ch g,p∈U) :
 ∀(r:List Nat)(c:List (Nat×Nat))(x7 x8 x9:Sl),(∀g∈r,g∈G)->OkA ch c->Sm U G c []->r.Nodup->(∀g,cK c g<=1)->(∀g∈r,cK c g=0) ->
  (∃x,aP (aM T (aB T dfs (m+7)) (.one 7) kM) (aA r) (stE BK CS A x3 K4 C c x7 x8 x9)=.ok (.rt (.tup (.str "lacks" :: x)) false)/\¬jY G ch) \/
  ∃c' y7 y8,aP (aM T (aB T dfs (m+7)) (.one 7) kM) (aA r) (stE BK CS A x3 K4 C c x7 x8 x9)=.ok (.nx (stE BK CS A x3 K4 C c' y7 y8 x9))/\OkA ch c'/\Sm U G c' []/\(∀g,cK c g<=cK c' g)/\∀g∈r,0<cK c' g
 |[],c,x7,x8,x9,_,ok,sm,_,_,_=>.inr ⟨c,x7,x8,rfl,ok,sm,λg=>aS _,λg hg=>by cases hg⟩
 |g::r,c,x7,x8,x9,hr,ok,sm,rn,h1',h0'=>by
  have hg:=hr g bC
  obtain⟨⟨b,c',a'⟩,e⟩:=D8 (U:=U) hall 7 g c [] ok gW (λp hp=>by cases hp) (by rw[oW];lia)
  have ok2:=wV ch 7 g c [] b c' a' ok e
  obtain⟨sm2,run⟩:=Dz (U:=U) (G:=G) (by lia) hch m 7 g c [] b c' a' hg sm e
  have rf:fO (aB T dfs (m+7)) 34 C (bK c) (bL []) (.int (g:Int))=.ok (.bl b,bK c',bL a'):=Au λt1 t2 _=>run t1 t2
  have st:=DA (T:=T) (cf:=aB T dfs (m+7)) (e:=stE BK CS A x3 K4 C c (.v (.int (g:Int))) (.o (.dct [])) x9) (neg:=true) (c:=.omit) (z:=.non) (x:=.var 5) (i:=6) (j:=8) (y:=.var 7) (a:=.cons (.sealed 8) (.cons (.sealed 6) (.cons (.ret (.call 12 (.acons (.var 6) (.acons (.var 8) (.acons (.var 7) .anil))))) .nil))) (b:=.nil) (f:=34) (k:=b) rfl (by decide) (.inl rfl) (d1:=C) (by simp[stE]) (g:=bK c) (by simp[stE]) (h:=bL []) (by simp[stE];rfl) (d2:=.int (g:Int)) (by simp[stE]) rf rfl
  generalize hw:(S.ifR true .omit 34 (.var 5) 6 8 (.var 7) (.cons (.sealed 8) (.cons (.sealed 6) (.cons (.ret (.call 12 (.acons (.var 6) (.acons (.var 8) (.acons (.var 7) .anil))))) .nil))) .nil)=W at st
  cases b with
  |true=>
   rw[if_pos rfl]at ok2
   rw[if_neg (by decide)]at st
   simp[stE]at st
   have sm3:Sm U G c' []:=⟨sm2.cn,sm2.cu,gW,(λp hp=>by cases hp),sm2.cv⟩
   have body:aM T (aB T dfs (m+7)) (.one 7) kM (.int (g:Int)) (stE BK CS A x3 K4 C c x7 x8 x9)=.ok (.nx (stE BK CS A x3 K4 C c' (.v (.int (g:Int))) (.o (.dct (bL a'))) x9)):=by
    simp[aM,kM,stE,hw,st]
   rcases EN m hU hch hall r c' (.v (.int (g:Int))) (.o (.dct (bL a'))) x9 (λq hq=>hr q (aR _ hq)) ok2.ok sm3 (dD.mp rn).2 (λq=>by
    have:=ok2.cnt q;have:=h1' q
    by_cases z:g=q
    ·rw[if_pos z]at *;have:=h0' g bC;subst z;lia
    ·rw[if_neg z]at *;lia) (λq hq=>by
    have:=ok2.cnt q;have:=h0' q (aR _ hq)
    rw[if_neg (λz:g=q=>(dD.mp rn).1 (z▸hq))]at *;lia)with⟨x,h,hz⟩|⟨c2,y7,y8,h,h1,h2,h3,h4⟩
   ·exact .inl ⟨x,by show aP _ (.int (g:Int)::aA r) _=_;rw[dJ body,h],hz⟩
   ·refine .inr ⟨c2,y7,y8,by show aP _ (.int (g:Int)::aA r) _=_;rw[dJ body,h],h1,h2,λq=>?_,λq hq=>?_⟩
    ·have:=ok2.cnt q;have:=h3 q;lia
    ·rcases aV.mp hq with z|z
     ·subst z
      have:=ok2.cnt q
      rw[if_pos rfl]at this
      have:=h3 q
      lia
     ·exact h4 q z
  |false=>
   rw[if_neg aO]at ok2
   rw[if_pos (by decide)]at st
   have la:a'.length<=20:=bX (gA sm2.an sm2.au) (by lia)
   obtain⟨x,ex⟩:=Jw (m+6) c' a' g la (λp hp=>by
    obtain⟨⟨g0,e0,_⟩,_⟩:=ok2.new p hp (by simp)
    exact⟨g0,by rw[ok2.same];exact e0⟩)
   have nf:¬jY G ch:=by
    refine Jy (c:=c) (g:=g) (a':=a') hg sm.cv ok.1 h1' (h0' g bC) sm2.an ok2.all λp hp=>?_
    exact(ok2.new p hp (by simp)).1
   refine .inl ⟨x,?_,nf⟩
   simp[stE,ex]at st
   have body:aM T (aB T dfs (m+7)) (.one 7) kM (.int (g:Int)) (stE BK CS A x3 K4 C c x7 x8 x9)=.ok (.rt (.tup (.str "lacks" :: x)) false):=by
    simp[aM,kM,stE,hw,st]
   show aP _ (.int (g:Int)::aA r) _=_
   rw[wH body]
end
theorem zF{α:Type}(k v:α->D)(key:α->Sum Int Str)(h:∀a,dA (k a)=some (key a)):∀l:List α,hJ (l.map λa=>.tup [k a,v a])=.ok (l.map λa=>(key a,v a))
 |[]=>rfl
 |a::r=>by
  show(do let q0<-Res.of (dA (k a));let q<-hJ (r.map λa=>.tup [k a,v a]);Res.ok ((q0,v a)::q))=_
  rw[h a,zF k v key h r];rfl
open Classical in
noncomputable def jZ (G:List Nat) (ch:Nat->List Nat):Str:=if jY G ch then "covered" else "lacks"
theorem zG {G:List Nat} {ch:Nat->List Nat} (h:jY G ch):jZ G ch = "covered" := by unfold jZ;rw[if_pos h]
theorem EO {G:List Nat} {ch:Nat->List Nat} (h:¬jY G ch):jZ G ch = "lacks" := by unfold jZ;rw[if_neg h]
theorem Jz(m:Nat)(B0 B1 L:D)(S:List Scene)(cv:List (Nat×Nat))(hcv:cv.length<=49)(q:Nat)(hq:q<=6)(hcq:∀x∈cv,x.2<q)(cs aw:List Nat)(A:D)(hA:iH A aw)(hs:∀s∈S,GoodScene cs.length s)(h8:cs.length<=8)(k:Nat)(hk:k<S.length) :
 ∃x,aB T dfs (m+8) 13 [.tup [B0,B1,.tup (S.map Scene.enc),L,.tup (cv.map prD)],.lst (aA cs),A,.int (k:Int)]=.ok (.tup (.str (jZ (jX cs aw S[k]) (kQ cv cs aw S[k]))::x)):=by
 have hb:=bN
 have gs:=hs S[k] (kC hk)
 have e1:=Jq (m+6) B0 B1 L (.tup (cv.map prD)) S cs aw A hA hs h8 k hk
 have e2:=λg=>Js (m+6) B0 B1 L S cv hcv cs aw A hA hs h8 k hk g
 have hall:∀g,∀p∈kQ cv cs aw S[k] g,p∈aD q:=λg p hp=>by
  have h1:=sortN_mem.mp (eN.mp hp).1
  obtain⟨x,hx,rfl⟩:=bV.mp h1
  exact cV.mpr (hcq x (eN.mp hx).1)
 have gl:(jX cs aw S[k]).length<=8:=by
  refine bX (iL ..) (bX (gA gs.nd (U:=aD cs.length) λx hx=>cV.mpr (gs.lt x hx)) ?_)
  rw[cC];exact h8
 have gn:(jX cs aw S[k]).Nodup:=E_.filter _ gs.nd
 generalize hG:jX cs aw S[k]=G at *
 generalize hC:kQ cv cs aw S[k]=ch at *
 generalize hB:D.tup [B0,B1,.tup (S.map Scene.enc),L,.tup (cv.map prD)]=BK at *
 have c1:∀x4 x5 x6 x7 x8 x9,aY (aI T (aB T dfs (m+7)) 1 [0,1,2,3] (.one 0) xJ (.con (.bl true)) [.v BK,.v (.lst (aA cs)),.v A,.v (.int (k:Int)),x4,x5,x6,x7,x8,x9]) (aA G)=.ok (G.map λ(g:Nat)=>D.tup [.int (g:Int),.lst (aA (ch g))]):=λx4 x5 x6 x7 x8 x9=>by
  show aY _ (G.map λ(i:Nat)=>D.int (i:Int))=_
  rw[cJ (λ(i:Nat)=>D.int (i:Int)) (λ(g:Nat)=>some (D.tup [.int (g:Int),.lst (aA (ch g))])) (λg _=>by
   have e:=e2 g
   generalize D.lst (aA (ch g))=z at *
   generalize D.lst (aA cs)=z2 at *
   simp[aI,Tr.aX,xJ,e]),fN]
 have p1:mX (.lst (G.map λ(g:Nat)=>D.tup [.int (g:Int),.lst (aA (ch g))]))=.ok (.dct (eJ (G.map λ(g:Nat)=>(.inl (g:Int),.lst (aA (ch g)))) [])):=by
  show(do let qs<-hJ _;Res.ok (D.dct (eJ qs [])))=_
  rw[zF (λ(g:Nat)=>D.int (g:Int)) (λg=>.lst (aA (ch g))) (λ(g:Nat)=>.inl (g:Int)) (λ_=>rfl)]<;>rfl
 have hix:∀g∈G,D.ix (.dct (eJ (G.map λ(g:Nat)=>(.inl (g:Int),.lst (aA (ch g)))) [])) (.int (g:Int))=.ok (.lst ((ch g).map aG)):=λg hg=>by
  rw[rA,qZ,Res.ok_bind,EI (f:=λg=>.lst (aA (ch g))) G [] g,if_pos hg];rfl
 generalize hCH:D.dct (eJ (G.map λ(g:Nat)=>(.inl (g:Int),.lst (aA (ch g)))) [])=CH at *
 have lg:(aA G).length<=big:=by rw[fW];lia
 have lo:=EN (BK:=BK) (CS:=.lst (aA cs)) (A:=A) (x3:=.v (.int (k:Int))) (K4:=.lst (aA G)) (C:=CH) (U:=aD q) (G:=G) (ch:=ch) m (by rw[cC];exact hq) (λg hg=>⟨hix g hg,hall g⟩) hall G [] .no .no .no (λg hg=>hg) ⟨gW,λp g h=>by cases h⟩ ⟨gW,(λp hp=>by cases hp),gW,(λp hp=>by cases hp),λx hx=>by cases hx⟩ gn (λg=>eW _) (λg _=>rfl)
 rw[show stE BK (.lst (aA cs)) A (.v (.int (k:Int))) (.lst (aA G)) CH [] .no .no .no=[.v BK,.v (.lst (aA cs)),.v A,.v (.int (k:Int)),.v (.lst (aA G)),.v CH,.o (.dct []),.no,.no,.no]from rfl]at lo
 rcases lo with⟨x,lo,nf⟩|⟨c,y7,y8,lo,ok,sm,_,cnt⟩
 ·rw[EO nf]
  refine⟨x,bP (k:=false) rfl rfl rfl ?_⟩
  generalize D.lst (aA cs)=z2 at *
  generalize aA G=g2 at *
  generalize (G.map λ(g:Nat)=>D.tup [.int (g:Int),.lst (aA (ch g))])=g3 at *
  simp[sA,e1,lg,c1,p1,lo]
 ·have c2:∀x0 x1 x2 x3 x4 x5 x7 x8 x9,aY (aI T (aB T dfs (m+7)) 1 [6] (.one 0) xK (.con (.bl true)) [x0,x1,x2,x3,x4,x5,.v (.dct (bK c)),x7,x8,x9]) (aA (c.map (·.1)))=.ok ((c.map (·.1)).map λ(p:Nat)=>D.tup [.int (((aL c p).getD 0:Nat):Int),.int (p:Int)]):=λx0 x1 x2 x3 x4 x5 x7 x8 x9=>by
   show aY _ ((c.map (·.1)).map λ(i:Nat)=>D.int (i:Int))=_
   rw[cJ (λ(i:Nat)=>D.int (i:Int)) (λ(p:Nat)=>some (D.tup [.int (((aL c p).getD 0:Nat):Int),.int (p:Int)])) (λp hp=>by
    obtain⟨y,hy,rfl⟩:=bV.mp hp
    have e0:=sU ok.1 (show(y.1,y.2)∈c from hy)
    have e:=EL e0
    rw[e0]
    simp[aI,Tr.aX,xK,e]),fN]
  have p2:mX (.lst ((c.map (·.1)).map λ(p:Nat)=>D.tup [.int (((aL c p).getD 0:Nat):Int),.int (p:Int)]))=.ok (.dct (eJ ((c.map (·.1)).map λ(p:Nat)=>(.inl (((aL c p).getD 0:Nat):Int),.int (p:Int))) [])):=by
   show(do let qs<-hJ _;Res.ok (D.dct (eJ qs [])))=_
   rw[zF (λ(p:Nat)=>D.int (((aL c p).getD 0:Nat):Int)) (λ(p:Nat)=>.int (p:Int)) (λ(p:Nat)=>.inl (((aL c p).getD 0:Nat):Int)) (λ_=>rfl)]<;>rfl
  have has:∀g∈G,∃v,D.ix (.dct (eJ ((c.map (·.1)).map λ(p:Nat)=>(.inl (((aL c p).getD 0:Nat):Int),.int (p:Int))) [])) (.int (g:Int))=.ok v:=λg hg=>by
   have h0:=cnt g hg
   unfold cK at h0
   obtain⟨x,hx⟩:=L4 h0
   obtain⟨hx1,hx2⟩:=eN.mp hx
   have e0:=sU ok.1 (show(x.1,x.2)∈c from hx1)
   have hx2:x.2=g:=by simpa using hx2
   have:=EJ ((c.map (·.1)).map λ(p:Nat)=>(.inl (((aL c p).getD 0:Nat):Int),.int (p:Int))) [] (.inl (g:Int)) (.inl (bV.mpr ⟨(.inl (g:Int),.int (x.1:Int)),bV.mpr ⟨x.1,bV.mpr ⟨x,hx1,rfl⟩,by rw[e0,hx2];rfl⟩,rfl⟩))
   obtain⟨v,hv⟩:=Kz.mp this
   exact⟨v,by rw[rA,qZ,Res.ok_bind,hv];rfl⟩
  generalize D.dct (eJ ((c.map (·.1)).map λ(p:Nat)=>(.inl (((aL c p).getD 0:Nat):Int),.int (p:Int))) [])=PL at *
  have c3:∀x0 x1 x2 x3 x4 x5 x6 x7 x8,∃l,aY (aI T (aB T dfs (m+7)) 1 [9] (.one 0) rZ (.con (.bl true)) [x0,x1,x2,x3,x4,x5,x6,x7,x8,.v PL]) (aA G)=.ok l:=λx0 x1 x2 x3 x4 x5 x6 x7 x8=>by
   have:=cJ (f:=aI T (aB T dfs (m+7)) 1 [9] (.one 0) rZ (.con (.bl true)) [x0,x1,x2,x3,x4,x5,x6,x7,x8,.v PL]) (xs:=G) (λ(i:Nat)=>D.int (i:Int)) (λ(g:Nat)=>some (D.tup [.int (g:Int),match D.ix PL (.int (g:Int))with | .ok v=>v|_=>.non])) (λg hg=>by
    obtain⟨v,e⟩:=has g hg
    rw[e]
    simp[aI,Tr.aX,rZ,e])
   exact⟨_,this⟩
  have ks:=Jv c
  have lc:(aA (c.map (·.1))).length<=big:=by
   have:=gA sm.cn sm.cu
   rw[cC]at this
   rw[fW];lia
  obtain⟨l,hl⟩:=c3 (.v BK) (.v (.lst (aA cs))) (.v A) (.v (.int (k:Int))) (.v (.lst (aA G))) (.v CH) (.v (.dct (bK c))) y7 y8
  rw[zG (Jx ok cnt)]
  refine⟨[.lst l],bP (k:=false) rfl rfl rfl ?_⟩
  simp only[stE]at lo
  generalize D.lst (aA cs)=z2 at *
  generalize aA G=g2 at *
  generalize (G.map λ(g:Nat)=>D.tup [.int (g:Int),.lst (aA (ch g))])=g3 at *
  generalize aA (c.map (·.1))=g4 at *
  generalize ((c.map (·.1)).map λ(p:Nat)=>D.tup [.int (((aL c p).getD 0:Nat):Int),.int (p:Int)])=g5 at *
  simp[sA,e1,lg,c1,p1,lo,ks,lc,c2,p2,hl]
noncomputable abbrev psV(P:List Part)(S:List Scene):List (Nat×Nat):=(wL P.length).filter λp=>(dS P S p.1 p.2).isSome
theorem KA(n:Nat)(P:List Part)(Q:List Player)(S:List Scene)(Y Z:D)(hp:P.length<=8)(hs:S.length<=24)(hv:∀p∈P,(dM p.voice).length=1)(cs:List (Option Nat))(hl:cs.length=P.length)(hc:∀j,some j∈cs->j<Q.length) :
 aB T dfs (n+6) 8 [.tup [.tup (P.map Part.enc),.tup (Q.map Player.enc),.tup (S.map Scene.enc),Y,Z],.lst (cs.map aQ)]=.ok (.lst ((lO P Q (psV P S) cs).map Flt.enc)):=by
 refine Jh n P Q S Y Z hp hs hv cs hl hc (psV P S) (λp hx=>?_) ?_ (Je n _ _ _ P S hs hp)
 ·have:=wM (eN.mp hx).1
  exact⟨by lia,this.2⟩
 ·have h1:=wN P.length P.length
  have h2:=tO hp hp
  exact bX (iL ..) (bX h1 (by lia))
theorem KB(cs:List Nat):aA cs=(cs.map some).map aQ:=by unfold aA;rw[cB];rfl
theorem zH{cs:List Nat}{i:Nat}(h:i<cs.length):(cs.map some).getD i none=some (cA cs i):=by
 unfold cA
 rw[jH,bT,jH,bD h];rfl
theorem cA_mem{cs:List Nat}{i:Nat}(h:i<cs.length):cA cs i∈cs:=by
 unfold cA
 rw[jH,bD h]
 exact kC h
structure Stage(P:List Part)(Q:List Player)(S:List Scene)(cs:List Nat):Prop where
 hp:P.length<=8
 hq:Q.length<=6
 hs:S.length<=5
 voice:∀p∈P,p.voice = "a" /\ p.off=0/\p.on=0
 voices:∀q∈Q,q.voices = "ba"
 good:∀s∈S,GoodScene P.length s
 len:cs.length=P.length
 lt:∀j∈cs,j<Q.length
 own:∀s∈S,(s.who.map (cA cs)).Nodup
theorem Stage.one{P:List Part}{Q:List Player}{S:List Scene}{cs:List Nat}(h:Stage P Q S cs):∀p∈P,(dM p.voice).length=1:=λp hp=>by rw[(h.voice p hp).1];rfl
theorem has_ba {p:Part} {q:Player} (h1:p.voice = "a") (h2:q.voices = "ba"):lN p q=true:=by
 unfold lN;rw[h1,h2];rfl
theorem ER{f:Nat->Nat}:∀{l:List Nat},(l.map f).Nodup->∀{x y:Nat},x∈l->y∈l->f x=f y->x=y
 |a::r,nd,x,y,hx,hy,e=>by
  rw[aK,dD]at nd
  rcases aV.mp hx with h1|h1<;>rcases aV.mp hy with h2|h2
  ·rw[h1,h2]
  ·exact absurd (bV.mpr ⟨y,h2,by rw[<-e,h1]⟩) nd.1
  ·exact absurd (bV.mpr ⟨x,h1,by rw[e,h2]⟩) nd.1
  ·exact ER nd.2 h1 h2 e
theorem KC{P:List Part}{Q:List Player}{S:List Scene}{cs:List Nat}(h:Stage P Q S cs):lO P Q (psV P S) (cs.map some)=[]:=by
 unfold lO
 rw[List.append_eq_nil_iff]
 constructor
 ·rw[List.filterMap_eq_nil_iff]
  intro k hk
  rw[aE]at hk
  have hk:=cV.mp hk
  unfold eK
  rw[zH hk]
  have hj:=h.lt _ (cA_mem hk)
  have:oB P Q k (cA cs k)=true:=by
   rw[D2 (by rw[<-h.len];exact hk) hj]
   exact has_ba (h.voice _ (kC _)).1 (h.voices _ (kC _))
  simp[this]
 ·rw[List.map_eq_nil_iff,List.filter_eq_nil_iff]
  intro p hp
  obtain⟨h1,h2⟩:=eN.mp hp
  have hlt:=wM h1
  rw[JH (λs hs=>⟨(h.good s hs).len,(h.good s hs).pause⟩) (λq hq=>(h.voice q hq).2)]at h2
  obtain⟨s,hs,hw⟩:=tL.mp h2
  rw[aF,decide_eq_true_eq,decide_eq_true_eq]at hw
  unfold fZ
  rw[zH (by rw[h.len];lia),zH (by rw[h.len];lia)]
  intro hz
  simp at hz
  have:=ER (h.own s hs) hw.1 hw.2 hz
  lia
theorem ask_ok(n:Nat)(b c:D)(h:aB T dfs (n+6) 8 [b,c]=.ok (.lst [])):aB T dfs (n+7) 9 [b,c]=.ok .non:=by
 refine Iu (e:=[.v b,.v c]) rfl rfl rfl ?_
 have q:D.cmp .NotEq (.lst []) (.lst [])=.ok (.bl false):=rfl
 simp[xD,h,q]
theorem zI{S:List Scene}:Bt.run .len [.tup (S.map Scene.enc)]=.ok (.int (S.length:Nat)):=by
 show Res.ok (D.int ((S.map Scene.enc).length:Nat))=_
 rw[aE]
theorem zJ{Q:List Player}:Bt.run .len [.tup (Q.map Player.enc)]=.ok (.int (Q.length:Nat)):=by
 show Res.ok (D.int ((Q.map Player.enc).length:Nat))=_
 rw[aE]
noncomputable abbrev bkS(P:List Part)(Q:List Player)(S:List Scene)(L:D)(cv:List (Nat×Nat)):D:=.tup [.tup (P.map Part.enc),.tup (Q.map Player.enc),.tup (S.map Scene.enc),L,.tup (cv.map prD)]
noncomputable def aT (S:List Scene) (cv:List (Nat×Nat)) (cs aw:List Nat) (k:Nat):Str:=((S[k]?).map λs=>jZ (jX cs aw s) (kQ cv cs aw s)).getD ""
noncomputable def gS(cv:List (Nat×Nat))(Q:List Player):Prop:=cv.length<=49/\∀x∈cv,x.2<Q.length
section
variable{P:List Part}{Q:List Player}{S:List Scene}{cs:List Nat}{L:D}{cv:List (Nat×Nat)}
theorem zK(st:Stage P Q S cs)(n:Nat):aB T dfs (n+7) 9 [bkS P Q S L cv,.lst (aA cs)]=.ok .non:=by
 have hs5:=st.hs
 refine ask_ok n _ _ ?_
 have f:=KA n P Q S L (.tup (cv.map prD)) st.hp (by lia) st.one (cs.map some) (by rw[aE];exact st.len) (λj hj=>by
  obtain⟨y,hy,e⟩:=bV.mp hj
  cases e
  exact st.lt _ hy)
 rw[KC st,<-KB]at f
 exact f
theorem zL(st:Stage P Q S cs)(hc:gS cv Q){A:D}{aw:List Nat}(hA:iH A aw)(m:Nat){k:Nat}(hk:k<S.length):∃x,aB T dfs (m+8) 13 [bkS P Q S L cv,.lst (aA cs),A,.int (k:Int)]=.ok (.tup (.str (aT S cv cs aw k)::x)):=by
 have:=Jz m (.tup (P.map Part.enc)) (.tup (Q.map Player.enc)) L S cv hc.1 Q.length st.hq hc.2 cs aw A hA (λs hs=>by rw[st.len];exact st.good s hs) (by rw[st.len];exact st.hp) k hk
 unfold aT
 rw[bD hk]
 exact this
theorem ES(st:Stage P Q S cs)(hc:gS cv Q){A:D}{aw:List Nat}(hA:iH A aw)(m:Nat):∃X:Nat->List D,aB T dfs (m+9) 15 [bkS P Q S L cv,.lst (aA cs),A]=.ok (.lst ((aD S.length).map λk=>.tup (.str (aT S cv cs aw k)::X k))):=by
 have hb:=bN
 have hs5:=st.hs
 have ha:=zK (L:=L) (cv:=cv) st (m+1)
 have ex:∀k,∃x,k<S.length->aB T dfs (m+8) 13 [bkS P Q S L cv,.lst (aA cs),A,.int (k:Int)]=.ok (.tup (.str (aT S cv cs aw k)::x)):=λk=>by
  by_cases hk:k<S.length
  ·obtain⟨x,e⟩:=zL (L:=L) st hc hA m hk
   exact⟨x,λ_=>e⟩
  ·exact⟨[],λz=>absurd z hk⟩
 refine⟨λk=>(ex k).choose,bP (k:=true) rfl rfl rfl ?_⟩
 have hX:∀k,k<S.length->aB T dfs (m+8) 13 [bkS P Q S L cv,.lst (aA cs),A,.int (k:Int)]=.ok (.tup (.str (aT S cv cs aw k)::(ex k).choose)):=λk hk=>(ex k).choose_spec hk
 have c1:aY (aI T (aB T dfs (m+8)) 1 [0,1,2] (.one 0) xN (.con (.bl true)) [.v (bkS P Q S L cv),.v (.lst (aA cs)),.v A]) ((aD S.length).map aG)=.ok ((aD S.length).map λk=>.tup (.str (aT S cv cs aw k)::(ex k).choose)):=by
  rw[cJ aG (λ(k:Nat)=>some (D.tup (.str (aT S cv cs aw k)::(ex k).choose))) (λk hk=>by
   have e:=hX k (cV.mp hk)
   generalize D.tup (.str (aT S cv cs aw k)::(ex k).choose)=out at e⊢
   generalize bkS P Q S L cv=BK at e⊢
   generalize D.lst (aA cs)=nc at e⊢
   simp[aI,Tr.aX,xN,aG,e]),fN]
 have rg:=iD (n:=S.length) (by lia)
 have ln:=zI (S:=S)
 have l1:((aD S.length).map aG).length<=big:=by rw[aE,cC];lia
 clear hX
 generalize (aD S.length).map (λk=>D.tup (.str (aT S cv cs aw k)::(ex k).choose))=out at *
 simp only[bkS]at c1 ha⊢
 generalize S.map Scene.enc=se at *
 generalize (aD S.length).map aG=rr at *
 generalize aA cs=nc at *
 simp[xO,ha,ln,rg,l1,c1]
end
theorem KD (G:List Nat) (ch:Nat->List Nat):jZ G ch = "covered" \/ jZ G ch = "lacks" := by
 by_cases h:jY G ch
 ·exact .inl (zG h)
 ·exact .inr (EO h)
theorem ET {S:List Scene} {cv:List (Nat×Nat)} {cs aw:List Nat} {k:Nat} (hk:k<S.length):aT S cv cs aw k = "covered" \/ aT S cv cs aw k = "lacks" := by
 unfold aT
 rw[bD hk]
 exact KD _ _
theorem KE {S:List Scene} {cv:List (Nat×Nat)} {cs:List Nat} {k:Nat} (hk:k<S.length):aT S cv cs [] k = "covered" := by
 unfold aT
 rw[bD hk]
 refine zG ⟨λ_=>0,λg hg=>?_,λg hg=>?_⟩ <;>
  exact absurd (of_decide_eq_true (eN.mp hg).2) (mH)
open Classical in
noncomputable def bF (S:List Scene) (cv:List (Nat×Nat)) (cs aw:List Nat):Option Nat:=(aD S.length).find? λk=>decide (aT S cv cs aw k = "lacks")
section
variable{P:List Part}{Q:List Player}{S:List Scene}{cs:List Nat}{L:D}{cv:List (Nat×Nat)}
open Classical in
theorem EU(st:Stage P Q S cs)(hc:gS cv Q){A:D}{aw:List Nat}(hA:iH A aw)(m:Nat):∀(ks:List Nat)(x:Sl),(∀k∈ks,k<S.length) ->
 ∃y,aP (aM T (aB T dfs (m+8)) (.one 3) lS) (ks.map aG) [.v (bkS P Q S L cv),.v (.lst (aA cs)),.v A,x]=.ok (match ks.find? λk=>decide (aT S cv cs aw k = "lacks")with
  |some k=>.rt (.int (k:Int)) false
  |none=>.nx [.v (bkS P Q S L cv),.v (.lst (aA cs)),.v A,y])
 |[],x,_=>⟨x,rfl⟩
 |k::r,x,h=>by
  have hk:=h k bC
  obtain⟨z,e⟩:=zL (L:=L) st hc hA m hk
  obtain⟨y,ih⟩:=EU st hc hA m r (.v (.int (k:Int))) λq hq=>h q (aR _ hq)
  refine⟨y,?_⟩
  rw[cH]
  rcases ET (cv:=cv) (cs:=cs) (aw:=aw) hk with w|w
  ·rw[w]at e
   have body:aM T (aB T dfs (m+8)) (.one 3) lS (aG k) [.v (bkS P Q S L cv),.v (.lst (aA cs)),.v A,x]=.ok (.nx [.v (bkS P Q S L cv),.v (.lst (aA cs)),.v A,.v (.int (k:Int))]):=by
    generalize bkS P Q S L cv=BK at e⊢
    generalize D.lst (aA cs)=nc at e⊢
    have q1:D.cmp .Eq (.str "covered") (.str "lacks")=.ok (.bl false):=rfl
    simp[aM,lS,aG,e,q1]
   rw[aK,dJ body,ih,decide_eq_false (by rw[w];decide)]
  ·rw[w]at e
   have body:aM T (aB T dfs (m+8)) (.one 3) lS (aG k) [.v (bkS P Q S L cv),.v (.lst (aA cs)),.v A,x]=.ok (.rt (.int (k:Int)) false):=by
    generalize bkS P Q S L cv=BK at e⊢
    generalize D.lst (aA cs)=nc at e⊢
    have q1:D.cmp .Eq (.str "lacks") (.str "lacks")=.ok (.bl true):=rfl
    simp[aM,lS,aG,e,q1]
   rw[aK,wH body,decide_eq_true w]
theorem KF(st:Stage P Q S cs)(hc:gS cv Q){A:D}{aw:List Nat}(hA:iH A aw)(m:Nat):aB T dfs (m+9) 16 [bkS P Q S L cv,.lst (aA cs),A]=.ok (aQ (bF S cv cs aw)):=by
 have hs5:=st.hs
 obtain⟨y,h1⟩:=EU (L:=L) st hc hA m (aD S.length) .no λk hk=>cV.mp hk
 have rg:=iD (n:=S.length) (by lia)
 have ln:=zI (S:=S)
 unfold bF
 refine bP (k:=false) rfl rfl rfl ?_
 generalize List.find? _ (aD S.length)=fo at *
 simp only[bkS]at h1⊢
 generalize S.map Scene.enc=se at *
 generalize (aD S.length).map aG=rr at *
 generalize aA cs=nc at *
 cases fo<;>simp[xP,ln,rg,h1,aQ]
end
noncomputable def stV(a:List Nat):Nat:=match a.getLast? with
 |none=>0
 |some p=>p+1
noncomputable def fH(many:Nat)(a:List Nat):List (List Nat):=(cW (stV a) (many-stV a)).map λq=>a++[q]
noncomputable def tN(t:List Nat):D:=.tup (aA t)
noncomputable def lev(many:Nat):Nat->List (List Nat)
 |0=>[[]]
 |n+1=>(lev many n).flatMap (fH many)
noncomputable def fnd(many:Nat):Nat->List (List Nat)
 |0=>[[]]
 |n+1=>fnd many n++lev many (n+1)
theorem sV:∀many,many<7->∀t,t<5->(lev many t).length<=20/\(fnd many t).length<=57/\((lev many t).all λa=>decide (a.length<=5)&&a.all λp=>decide (p<6))=true:=by decide +kernel
theorem EV{a:List Nat}(q:Nat)(h:a.length<=5):D.bin .Add (tN a) (.tup [.int (q:Int)])=.ok (tN (a++[q])):=by
 have hb:=bN
 show aC (decide ((aA a).length+1<=big)) (.ok (D.tup (aA a++[.int (q:Int)])))=_
 rw[bR (decide_eq_true (by rw[fW];lia))]
 unfold tN aA
 rw[fM];rfl
theorem KG(b:List Nat)(p:Nat):D.ix (tN (b++[p])) (.int (-1))=.ok (.int (p:Int)):=by
 show Res.of (atI (aA (b++[p])) (-1))=_
 have hl:(aA (b++[p])).length=b.length+1:=by rw[fW,cD];rfl
 unfold atI Tr.ixN
 rw[hl,if_neg (by lia),if_pos (by lia)]
 show Res.of ((aA (b++[p]))[((-1:Int)+((b.length+1:Nat):Int)).toNat]?)=_
 rw[show((-1:Int)+((b.length+1:Nat):Int)).toNat=b.length by lia]
 unfold aA
 rw[bT,gD (aS _),Nat.sub_self];rfl
theorem EW(many:Nat)(a:List Nat):(fH many a).length<=many:=by
 unfold fH
 rw[aE,zU];lia
theorem KH(n many:Nat)(hm:many<=6){a:List Nat}(h1:a.length<=5)(hs:∀p∈a,p<6)(L:D)(acc:List D)(ha:acc.length<=900)(x y:Sl) :
 aM T (aB T dfs n) (.one 3) oF (tN a) [.v L,.v (.int (many:Int)),.o (.lst acc),x,y]=.ok (.nx [.v L,.v (.int (many:Int)),.o (.lst (acc++(fH many a).map tN)),.v (tN a),.v (.int (stV a:Int))]):=by
 have hb:=bN
 have two:a=[]\/∃b p,a=b++[p]:=by
  rcases List.eq_nil_or_concat a with z|⟨b,p,z⟩
  ·exact .inl z
  ·exact .inr ⟨b,p,by rw[z];simp⟩
 have hst:stV a<1000:=by
  rcases two with rfl|⟨b,p,rfl⟩
  ·exact(by decide:0<1000)
  ·unfold stV
   rw[L5]
   have:=hs p (cR _ bC)
   show p+1<1000
   lia
 have rg:nZ (.int (stV a:Int)) (.int (many:Int))=.ok ((cW (stV a) (many-stV a)).map aG):=by
  rw[Cy (by lia) (by lia),DI]
 have c1:∀a0 a1 a2 a4,aY (aI T (aB T dfs n) 1 [3] (.one 0) xQ (.con (.bl true)) [a0,a1,a2,.v (tN a),a4]) ((cW (stV a) (many-stV a)).map aG)=.ok ((fH many a).map tN):=λa0 a1 a2 a4=>by
  unfold fH
  rw[cJ aG (λ(p:Nat)=>some (tN (a++[p]))) (λp _=>by
   have ad:=EV p h1
   generalize tN a=t at *
   simp[aI,Tr.aX,xQ,aG,ad]),fN,cB]
  rfl
 have l1:((cW (stV a) (many-stV a)).map aG).length<=big:=by rw[aE,zU];lia
 have l2:acc.length+((fH many a).map tN).length<=big:=by have:=EW many a;rw[aE];lia
 generalize (fH many a).map tN=z at c1 l2⊢
 generalize (cW (stV a) (many-stV a)).map aG=rr at rg c1 l1
 rcases two with rfl|⟨b,p,rfl⟩
 ·have tr:(tN []).truth=.ok false:=rfl
  rw[show((stV []:Nat):Int)=0 from rfl]at rg⊢
  generalize tN []=t at *
  simp[aM,oF,tr,rg,c1,l1,l2]
 ·have tr:(tN (b++[p])).truth=.ok true:=by
   show Res.ok (!(aA (b++[p])).isEmpty)=_
   cases b<;>rfl
  have ix:=KG b p
  have sv:stV (b++[p])=p+1:=by unfold stV;rw[L5];rfl
  rw[sv,show((p+1:Nat):Int)=(p:Int)+1 by lia]at rg⊢
  have ad:D.bin .Add (.int (p:Int)) (.int 1)=.ok (.int ((p:Int)+1)):=rfl
  generalize tN (b++[p])=t at *
  simp[aM,oF,tr,ix,ad,rg,c1,l1,l2]
theorem EX(n many:Nat)(hm:many<=6)(L:D):∀(zs:List (List Nat))(acc:List D)(x y:Sl),(∀a∈zs,a.length<=5/\∀p∈a,p<6)->acc.length+zs.length*6<=900 ->
 ∃x' y',aP (aM T (aB T dfs n) (.one 3) oF) (zs.map tN) [.v L,.v (.int (many:Int)),.o (.lst acc),x,y]=.ok (.nx [.v L,.v (.int (many:Int)),.o (.lst (acc++(zs.flatMap (fH many)).map tN)),x',y'])
 |[],acc,x,y,_,_=>⟨x,y,by rw[List.flatMap_nil,lZ,oS];rfl⟩
 |a::r,acc,x,y,h,hl=>by
  have h0:=h a bC
  have ll:=EW many a
  rw[aW]at hl
  obtain⟨x',y',ih⟩:=EX n many hm L r (acc++(fH many a).map tN) (.v (tN a)) (.v (.int (stV a:Int))) (λb hb=>h b (aR _ hb)) (by rw[cD,aE];lia)
  refine⟨x',y',?_⟩
  rw[aK,dJ (KH n many hm h0.1 h0.2 L acc (by lia) x y),ih,List.flatMap_cons,fM,oU]
theorem KI(n many:Nat)(hm:many<=6)(zs:List (List Nat))(h:∀a∈zs,a.length<=5/\∀p∈a,p<6)(hl:zs.length<=100):aB T dfs (n+1) 17 [.lst (zs.map tN),.int (many:Int)]=.ok (.lst ((zs.flatMap (fH many)).map tN)):=by
 have hb:=bN
 obtain⟨x',y',lo⟩:=EX n many hm (.lst (zs.map tN)) zs [] .no .no h (by rw[oW];lia)
 rw[zO]at lo
 have l1:(zs.map tN).length<=big:=by rw[aE];lia
 refine bP (k:=true) rfl rfl rfl ?_
 generalize (zs.flatMap (fH many)).map tN=z at *
 generalize zs.map tN=z2 at *
 simp[xR,lo,l1]
theorem KJ:∀zs:List (List Nat),D.flatL (.lst (zs.map tN))=true:=λzs=>by
 show D.flats _=true
 induction zs with
 |nil=>rfl
 |cons a r ih=>
  rw[aK,D.flats,ih,Bool.and_true]
  show D.flats (aA a)=true
  induction a with
  |nil=>rfl
  |cons x s ih2=>
   show D.flats (.int (x:Int)::aA s)=true
   rw[D.flats,ih2];rfl
theorem EY{cf:Nat->List D->Res D}{e:Nv}{i:Nat}{x:E}:exS T cf (.asgN i x) e=(do let d<-evE T cf x e;aC (nA T x e&&(d.isNon||d.flatL)) (.ok (.nx (e.set i (.n d))))):=id rfl
theorem EZ(n many:Nat)(hm:many<7)(M:D):∀(r t:Nat)(x:Sl),t+r<5 ->
 ∃y,aP (aM T (aB T dfs (n+1)) (.one 4) xS) ((cW t r).map aG) [.v (.int (many:Int)),.v M,.n (.lst ((lev many t).map tN)),.o (.lst ((fnd many t).map tN)),x]=.ok (.nx [.v (.int (many:Int)),.v M,.n (.lst ((lev many (t+r)).map tN)),.o (.lst ((fnd many (t+r)).map tN)),y])
 |0,t,x,_=>⟨x,rfl⟩
 |r+1,t,x,h=>by
  have hb:=bN
  obtain⟨l1,l2,l3⟩:=sV many hm t (by lia)
  obtain⟨m1,m2,m3⟩:=sV many hm (t+1) (by lia)
  have e:=KI n many (by lia) (lev many t) (λa ha=>by
   have:=gE.mp l3 a ha
   rw[aF,decide_eq_true_eq]at this
   exact⟨this.1,λp hp=>of_decide_eq_true (gE.mp this.2 p hp)⟩) (by lia)
  rw[show(lev many t).flatMap (fH many)=lev many (t+1)from rfl]at e
  have fl:=KJ (lev many (t+1))
  obtain⟨y,ih⟩:=EZ n many hm M r (t+1) (.v (.int (t:Int))) (by lia)
  refine⟨y,?_⟩
  rw[Eg,aK]
  rw[show t+(r+1)=t+1+r by lia,<-ih]
  refine dJ ?_
  have fe:(fnd many (t+1)).map tN=(fnd many t).map tN++(lev many (t+1)).map tN:=by rw[fnd,fM]
  rw[fe]
  have lf:((fnd many t).map tN).length+((lev many (t+1)).map tN).length<=big:=by rw[aE,aE];lia
  generalize (fnd many t).map tN=f at *
  generalize (lev many (t+1)).map tN=b at *
  generalize (lev many t).map tN=a at *
  have s2:∀i:Sl,exS T (aB T dfs (n+1)) (.asgN 2 (.call 17 (.acons (.var 2) (.acons (.var 0) .anil)))) [.v (.int (many:Int)),.v M,.n (.lst a),.o (.lst f),i]=.ok (.nx [.v (.int (many:Int)),.v M,.n (.lst b),.o (.lst f),i]):=λi=>by
   rw[EY]
   have nv:(Sl.n (.lst a)).val=.ok (.lst a):=rfl
   simp[nv,e]
   rw[bR (by rw[fl,Ej,Bool.and_true];rfl)]
  have s3:∀i:Sl,exS T (aB T dfs (n+1)) (.extN 3 2) [.v (.int (many:Int)),.v M,.n (.lst b),.o (.lst f),i]=.ok (.nx [.v (.int (many:Int)),.v M,.n (.lst b),.o (.lst (f++b)),i]):=λi=>by
   rw[Av]
   show(do let a<-Sl.own (.o (.lst f));aC (decide (a.length+b.length<=big)) (Res.ok (Out.nx _)))=_
   show aC (decide (f.length+b.length<=big)) _=_
   rw[bR (decide_eq_true lf)];rfl
  simp[aM,xS,aG,s2,s3]
theorem KL(n many most:Nat)(hm:many<7)(ho:most<5):aB T dfs (n+2) 18 [.int (many:Int),.int (most:Int)]=.ok (.lst ((fnd many most).map tN)):=by
 have hb:=bN
 obtain⟨y,lo⟩:=EZ n many hm (.int (most:Int)) most 0 .no (by lia)
 rw[kB,show(lev many 0).map tN=[.tup []]from rfl,show(fnd many 0).map tN=[.tup []]from rfl,show cW 0 most=aD most from(Ef ..).symm]at lo
 have s1:exS T (aB T dfs (n+1)) (.asgN 2 (.lst (.acons (.tup .anil) .anil))) [.v (.int (many:Int)),.v (.int (most:Int)),.no,.no,.no]=.ok (.nx [.v (.int (many:Int)),.v (.int (most:Int)),.n (.lst [.tup []]),.no,.no]):=by
  rw[EY]
  simp
  rfl
 have rg:=iD (n:=most) (by lia)
 have l1:((aD most).map aG).length<=big:=by rw[aE,cC];lia
 refine bP (k:=true) rfl rfl rfl ?_
 generalize (fnd many most).map tN=f at *
 generalize (aD most).map aG=rr at *
 simp[xT,s1,rg,l1,lo]
section
variable{P:List Part}{Q:List Player}{S:List Scene}{cs:List Nat}{L:D}{cv:List (Nat×Nat)}
theorem KM(st:Stage P Q S cs)(hc:gS cv Q)(m:Nat){most:Nat}(ho:most<5):aB T dfs (m+10) 19 [bkS P Q S L cv,.lst (aA cs),.int (most:Int)]=.ok (.lst ((fnd Q.length most).map λa=>.tup [tN a,aQ (bF S cv cs a)])):=by
 have hb:=bN
 have hq:=st.hq
 have ha:=zK (L:=L) (cv:=cv) st (m+2)
 have e1:=KL (m+7) Q.length most (by lia) ho
 have ll:=(sV Q.length (by lia) most ho).2.1
 have c1:aY (aI T (aB T dfs (m+9)) 1 [0,1] (.one 0) xU (.con (.bl true)) [.v (bkS P Q S L cv),.v (.lst (aA cs)),.v (.int (most:Int))]) ((fnd Q.length most).map tN)=.ok ((fnd Q.length most).map λa=>.tup [tN a,aQ (bF S cv cs a)]):=by
  rw[cJ tN (λa=>some (D.tup [tN a,aQ (bF S cv cs a)])) (λa _=>by
   have e:aB T dfs (m+9) 16 [bkS P Q S L cv,.lst (aA cs),tN a]=.ok (aQ (bF S cv cs a)):=KF (L:=L) st hc (Jp a) m
   generalize aQ (bF S cv cs a)=o at *
   generalize bkS P Q S L cv=BK at e⊢
   generalize D.lst (aA cs)=nc at e⊢
   generalize tN a=t at *
   simp[aI,Tr.aX,xU,e]),fN]
 have lq:=zJ (Q:=Q)
 have l1:((fnd Q.length most).map tN).length<=big:=by rw[aE];lia
 refine bP (k:=true) rfl rfl rfl ?_
 generalize (fnd Q.length most).map (λa=>D.tup [tN a,aQ (bF S cv cs a)])=out at *
 generalize (fnd Q.length most).map tN=zs at *
 simp only[bkS]at c1 ha⊢
 generalize Q.map Player.enc=qe at *
 generalize aA cs=nc at *
 simp[xV,ha,lq,e1,l1,c1]
theorem KN(st:Stage P Q S cs)(hc:gS cv Q){A:D}{aw:List Nat}(hA:iH A aw)(m:Nat){k:Nat}(hk:k<S.length):∃x,aB T dfs (m+9) 14 [bkS P Q S L cv,.lst (aA cs),A,.int (k:Int)]=.ok (.tup (.str (aT S cv cs aw k)::x)):=by
 obtain⟨x,e⟩:=zL (L:=L) st hc hA m hk
 have ha:=zK (L:=L) (cv:=cv) st (m+1)
 refine⟨x,bP (k:=false) rfl rfl rfl ?_⟩
 generalize bkS P Q S L cv=BK at *
 generalize aA cs=nc at *
 simp[xM,ha,e]
end
noncomputable def stepS(most:Nat)(zs:List (List Nat))(n:Nat):List (List Nat):=zs++(zs.filter λa=>decide (a.length<most)).map λa=>a++[n]
noncomputable def eM(most:Nat)(ns:List Nat)(zs:List (List Nat)):List (List Nat):=ns.foldl (stepS most) zs
noncomputable def oQ(l:List Nat):List Int:=l.map λ(n:Nat)=>(n:Int)
noncomputable def srtL(zs:List (List Nat)):List (List Nat):=(bS (zs.map oQ)).map λi=>zs.getD i []
theorem E1:∀many,many<7->∀most,most<5->((aD (many+1)).all λj=>decide ((eM most (aD j) [[]]).length<=57)&&(eM most (aD j) [[]]).all λa=>decide (a.length<=4))=true:=by decide +kernel
theorem E2:∀many,many<7->∀most,most<5->srtL (eM most (aD many) [[]])=fnd many most/\((bS ((eM most (aD many) [[]]).map oQ)).all λi=>decide (i<(eM most (aD many) [[]]).length))=true:=by decide +kernel
theorem E3:∀zs:List (List Nat),jK (zs.map tN)=.ok (zs.map oQ)
 |[]=>rfl
 |a::r=>by
  show(do let x<-cN (aA a);let q<-jK (r.map tN);Res.ok (x::q))=_
  rw[zE,E3 r];rfl
theorem KO{zs:List (List Nat)}(h3:zs.length<64)(hi:((bS (zs.map oQ)).all λi=>decide (i<zs.length))=true):uI (.lst (zs.map tN))=.ok (.lst ((srtL zs).map tN)):=by
 show(do let kss<-jK (zs.map tN);aC (decide ((zs.map tN).length<64)) (Res.ok (D.lst ((bS kss).map λi=>(zs.map tN).getD i .non))))=_
 rw[E3]
 show aC (decide ((zs.map tN).length<64)) (Res.ok (D.lst ((bS (zs.map oQ)).map λi=>(zs.map tN).getD i .non)))=_
 rw[bR (decide_eq_true (by rw[aE];exact h3))]
 unfold srtL
 rw[cB]
 refine congrArg (λz=>Res.ok (D.lst z)) (iK λi hi'=>?_)
 have:=of_decide_eq_true (gE.mp hi i hi')
 show _=tN (zs.getD i [])
 rw[jH,jH,bT,bD this];rfl
theorem E4(n:Nat){many most:Nat}(hm:many<7)(ho:most<5):∀(r j:Nat)(x:Sl),j+r=many ->
 ∃y,aP (aM T (aB T dfs n) (.one 3) yO) ((cW j r).map aG) [.v (.int (many:Int)),.v (.int (most:Int)),.v (.lst ((eM most (aD j) [[]]).map tN)),x]=.ok (.nx [.v (.int (many:Int)),.v (.int (most:Int)),.v (.lst ((eM most (aD (j+r)) [[]]).map tN)),y])
 |0,j,x,_=>⟨x,rfl⟩
 |r+1,j,x,h=>by
  have hb:=bN
  have g1:=gE.mp (E1 many hm most ho) j (cV.mpr (by lia))
  rw[aF,decide_eq_true_eq]at g1
  obtain⟨y,ih⟩:=E4 n hm ho r (j+1) (.v (.int (j:Int))) (by lia)
  refine⟨y,?_⟩
  rw[Eg,aK,show j+(r+1)=j+1+r by lia,<-ih]
  refine dJ ?_
  have gs:eM most (aD (j+1)) [[]]=eM most (aD j) [[]]++((eM most (aD j) [[]]).filter λa=>decide (a.length<most)).map λa=>a++[j]:=by
   unfold eM
   rw[List.range_succ,List.foldl_append];rfl
  rw[gs]
  generalize eM most (aD j) [[]]=zs at *
  have c1:∀a0 a2,aY (aI T (aB T dfs n) 1 [3,1] (.one 0) yN yM [a0,.v (.int (most:Int)),a2,.v (.int (j:Int))]) (zs.map tN)=.ok (((zs.filter λa=>decide (a.length<most)).map λa=>a++[j]).map tN):=λa0 a2=>by
   rw[cJ tN (λa=>if decide (a.length<most)=true then some (tN (a++[j]))else none) (λa ha=>by
    have h4:=of_decide_eq_true (gE.mp g1.2 a ha)
    have ln:Bt.run .len [tN a]=.ok (.int (a.length:Nat)):=by
     show Res.ok (D.int ((aA a).length:Nat))=_
     rw[fW]
    have lt:D.cmp .Lt (.int (a.length:Nat)) (.int (most:Int))=.ok (.bl (decide (a.length<most))):=by
     show Res.ok (D.bl (decide ((a.length:Int)<(most:Int))))=_
     by_cases z:a.length<most<;>simp[z]
    have ad:=EV j (show a.length<=5 by lia)
    generalize decide (a.length<most)=b at *
    generalize tN (a++[j])=t2 at *
    generalize tN a=t at *
    cases b<;>simp[aI,Tr.aX,yN,yM,ln,lt,ad])]
   refine congrArg Res.ok ?_
   clear gs g1 ih
   induction zs with
   |nil=>rfl
   |cons a r ih=>
    rw[gT,gX]
    by_cases z:decide (a.length<most)=true
    ·rw[if_pos z,if_pos z];show _::_=_;rw[ih];rfl
    ·rw[if_neg z,if_neg z];exact ih
  have lc:((zs.filter λa=>decide (a.length<most)).map λa=>a++[j]).length<=57:=by
   rw[aE]
   exact bX (iL ..) g1.1
  have ad:D.bin .Add (.lst (zs.map tN)) (.lst (((zs.filter λa=>decide (a.length<most)).map λa=>a++[j]).map tN))=.ok (.lst ((zs++(zs.filter λa=>decide (a.length<most)).map λa=>a++[j]).map tN)):=by
   show aC (decide ((zs.map tN).length+(((zs.filter λa=>decide (a.length<most)).map λa=>a++[j]).map tN).length<=big)) (.ok (D.lst (zs.map tN++((zs.filter λa=>decide (a.length<most)).map λa=>a++[j]).map tN)))=_
   have l1:=g1.1
   rw[bR (decide_eq_true (by rw[aE,aE];lia)),fM]
  have l2:(zs.map tN).length<=big:=by have:=g1.1;rw[aE];lia
  generalize (zs++(zs.filter λa=>decide (a.length<most)).map λa=>a++[j]).map tN=z3 at *
  generalize ((zs.filter λa=>decide (a.length<most)).map λa=>a++[j]).map tN=z2 at *
  generalize zs.map tN=z1 at *
  simp[aM,yO,aG,c1,ad,l2]
theorem KP(n:Nat){many most:Nat}(hm:many<7)(ho:most<5):aB T dfs (n+1) 31 [.int (many:Int),.int (most:Int)]=.ok (.lst ((fnd many most).map tN)):=by
 have hb:=bN
 obtain⟨y,lo⟩:=E4 n hm ho many 0 .no (kB _)
 rw[kB,show cW 0 many=aD many from(Ef ..).symm,show(eM most (aD 0) [[]]).map tN=[.tup []]from rfl]at lo
 have g1:=gE.mp (E1 many hm most ho) many (cV.mpr (by lia))
 rw[aF,decide_eq_true_eq]at g1
 have sk:=KO (zs:=eM most (aD many) [[]]) (by lia) (E2 many hm most ho).2
 rw[(E2 many hm most ho).1]at sk
 have rg:=iD (n:=many) (by lia)
 have l1:((aD many).map aG).length<=big:=by rw[aE,cC];lia
 refine bP (k:=true) rfl rfl rfl ?_
 clear g1
 generalize (fnd many most).map tN=out at *
 generalize (eM most (aD many) [[]]).map tN=zs at *
 generalize (aD many).map aG=rr at *
 simp[yP,rg,l1,lo,Tr.Az,sk]
theorem KQ{P:List Part}{Q:List Player}{S:List Scene}(dr:Drawn P Q S)(hq:0<Q.length)(cell:Int):Stage (P.map iF) (Q.map fF) ((S.take 5).map (iG (fG cell Q.length P.length))) (fG cell Q.length P.length):=by
 have hcl:(fG cell Q.length P.length).length=P.length:=by unfold fG;rw[aE,cC]
 refine⟨by rw[aE];exact dr.hp,by rw[aE];exact dr.hq,by rw[aE,jG];lia,λp hp=>?_,λq hq=>?_,λs hs=>?_,by rw[aE];exact hcl,λj hj=>by rw[aE];exact Jo hq hj,λs hs=>?_⟩
 ·obtain⟨x,_,rfl⟩:=bV.mp hp
  exact⟨rfl,rfl,rfl⟩
 ·obtain⟨x,_,rfl⟩:=bV.mp hq
  rfl
 ·obtain⟨x,hx,rfl⟩:=bV.mp hs
  rw[aE]
  exact Jm (dr.good x (zV hx))
 ·obtain⟨x,hx,rfl⟩:=bV.mp hs
  exact(sS _ x.who [] gW).1
theorem KR(n:Nat)(B0 B2 L C:D)(Q:List Player)(hq:Q.length<=6)(cell:Int):∃aw:List Nat,aw.length<=6/\aB T dfs (n+1) 30 [.tup [B0,.tup (Q.map Player.enc),B2,L,C],.int cell]=.ok (.lst (aA aw)):=by
 have hb:=bN
 refine⟨(aD Q.length).filter (inV cell),bX (iL ..) (by rw[cC];exact hq),bP (k:=true) rfl rfl rfl ?_⟩
 have c1:∀a0,aY (aI T (aB T dfs n) 1 [1] (.one 0) sF sE [a0,.v (.int cell)]) ((aD Q.length).map aG)=.ok (aA ((aD Q.length).filter (inV cell))):=λa0=>by
  refine DR aG (inV cell) λj hj=>?_
  have hj:=cV.mp hj
  have e1:D.ix (.lst [.int 1,.int 3,.int 9,.int 27,.int 81,.int 243]) (.int (j:Int))=.ok (.int (cQ j)):=by
   show Res.of (atI _ _)=_
   rw[Dd _ _ _ _ _ _ j (by lia)]
   unfold cQ
   have:j=0\/j=1\/j=2\/j=3\/j=4\/j=5:=by lia
   rcases this with rfl|rfl|rfl|rfl|rfl|rfl<;>rfl
  have hp:=De j
  have e2:D.bin .FloorDiv (.int cell) (.int (cQ j))=.ok (.int (cell/cQ j)):=by
   show aC (decide (0<cQ j)&&decide (cQ j<1073741824)) _=_
   rw[show decide (0<cQ j)=true by simpa using hp.1,show decide (cQ j<1073741824)=true by simpa using hp.2]
   rfl
  unfold inV
  by_cases q:cell/cQ j%3=0
  ·rw[if_pos (decide_eq_true q)]
   simp[aI,Tr.aX,sF,sE,aG,e1,e2,q]
  ·rw[if_neg (by rw[decide_eq_false q];exact aO)]
   simp[aI,Tr.aX,sF,sE,aG,e1,e2,q]
 have rg:=iD (n:=Q.length) (by lia)
 have ln:=zJ (Q:=Q)
 have l1:((aD Q.length).map aG).length<=big:=by rw[aE,cC];lia
 generalize aA ((aD Q.length).filter (inV cell))=out at *
 generalize Q.map Player.enc=qe at *
 generalize (aD Q.length).map aG=rr at *
 simp[yL,ln,rg,l1,c1]
theorem E5(p:Nat->Bool):∀l:List Nat,((l.filter p).map aG++[D.non])[0]?=some (aQ (l.find? p))
 |[]=>rfl
 |a::r=>by
  rw[gX,cH]
  cases p a with
  |true=>rfl
  |false=>exact E5 p r
section
variable{P:List Part}{Q:List Player}{S:List Scene}{cs:List Nat}{L:D}{cv:List (Nat×Nat)}
theorem KS(st:Stage P Q S cs)(hc:gS cv Q)(a:List Nat)(m:Nat):aB T dfs (m+10) 32 [bkS P Q S L cv,.lst (aA cs),tN a]=.ok (aQ (bF S cv cs a)):=by
 have hb:=bN
 have hs5:=st.hs
 obtain⟨X,e⟩:=ES (L:=L) st hc (zD a) m
 have tl:Bt.run .list [tN a]=.ok (.lst (aA a)):=rfl
 have c1:∀env,aY (aI T (aB T dfs (m+9)) 1 [] (.one 0) yQ (.con (.bl true)) env) ((aD S.length).map λk=>.tup (.str (aT S cv cs a k)::X k))=.ok ((aD S.length).map λk=>D.str (aT S cv cs a k)):=λenv=>by
  rw[cJ (λk=>D.tup (.str (aT S cv cs a k)::X k)) (λk=>some (D.str (aT S cv cs a k))) (λk _=>by simp[aI,Tr.aX,yQ]),fN]
 have c2:∀a0 a1 a2 a4,aY (aI T (aB T dfs (m+9)) 1 [3] (.one 0) sH sG [a0,a1,a2,.v (.lst ((aD S.length).map λk=>D.str (aT S cv cs a k))),a4]) ((aD S.length).map aG)=.ok (((aD S.length).filter λk=>decide (aT S cv cs a k = "lacks")).map aG):=λa0 a1 a2 a4=>by
  refine DR aG _ λj hj=>?_
  have hj:=cV.mp hj
  have k1:D.ix (.lst ((aD S.length).map λk=>D.str (aT S cv cs a k))) (.int (j:Int))=.ok (.str (aT S cv cs a j)):=iY (by rw[bT,L6 hj];rfl)
  have q1:D.cmp .Eq (.str "lacks") (.str "lacks")=.ok (.bl true):=rfl
  have q2:D.cmp .Eq (.str "covered") (.str "lacks")=.ok (.bl false):=rfl
  rcases ET (cv:=cv) (cs:=cs) (aw:=a) hj with w|w
  ·have d0:decide (aT S cv cs a j = "lacks")=false:=decide_eq_false (by rw[w];decide)
   rw[w]at k1
   generalize (aD S.length).map (λk=>D.str (aT S cv cs a k))=kk at *
   simp[aI,Tr.aX,sH,sG,aG,k1,q2,d0]
  ·have d0:decide (aT S cv cs a j = "lacks")=true:=decide_eq_true w
   rw[w]at k1
   generalize (aD S.length).map (λk=>D.str (aT S cv cs a k))=kk at *
   simp[aI,Tr.aX,sH,sG,aG,k1,q1,d0]
 have hf:=E5 (λk=>decide (aT S cv cs a k = "lacks")) (aD S.length)
 have lf:(((aD S.length).filter λk=>decide (aT S cv cs a k = "lacks")).map aG).length<=9:=by
  rw[aE]
  exact bX (iL ..) (by rw[cC];lia)
 have lv:aQ (bF S cv cs a)=aQ ((aD S.length).find? λk=>decide (aT S cv cs a k = "lacks")):=rfl
 have ln:Bt.run .len [.lst ((aD S.length).map λk=>D.str (aT S cv cs a k))]=.ok (.int (S.length:Nat)):=by
  show Res.ok (D.int (((aD S.length).map λk=>D.str (aT S cv cs a k)).length:Nat))=_
  rw[aE,cC]
 have rg:=iD (n:=S.length) (by lia)
 have l1:((aD S.length).map aG).length<=big:=by rw[aE,cC];lia
 have l2:((aD S.length).map λk=>D.tup (.str (aT S cv cs a k)::X k)).length<=big:=by rw[aE,cC];lia
 rw[lv]
 refine bP (k:=false) rfl rfl rfl ?_
 generalize hfi:((aD S.length).filter λk=>decide (aT S cv cs a k = "lacks")).map aG=fi at *
 have ad:D.bin .Add (.lst fi) (.lst [.non])=.ok (.lst (fi++[.non])):=by
  show aC (decide (fi.length+1<=big)) _=_
  rw[bR (decide_eq_true (by lia))]
 have i2:D.ix (.lst (fi++[.non])) (.int 0)=.ok (aQ ((aD S.length).find? λk=>decide (aT S cv cs a k = "lacks"))):=iY (i:=0) hf
 clear hf hfi lv
 generalize (aD S.length).find? (λk=>decide (aT S cv cs a k = "lacks"))=fo at *
 generalize fi++[.non]=f2 at *
 generalize (aD S.length).map (λk=>D.tup (.str (aT S cv cs a k)::X k))=xs at *
 generalize (aD S.length).map (λk=>D.str (aT S cv cs a k))=kk at *
 generalize (aD S.length).map aG=rr at *
 generalize bkS P Q S L cv=BK at *
 generalize aA cs=nc at *
 generalize aA a=na at *
 generalize tN a=ta at *
 cases fo<;>(simp[yR,tl,e,l2,c1,ln,rg,l1,c2,ad,i2,aQ];rfl)
theorem E6(st:Stage P Q S cs)(hc:gS cv Q)(aw:List Nat){X:Nat->List D}(m:Nat)(x0 x7 x8 x9 x10:Sl):∀(ks:List Nat)(x5 x6:Sl),(∀k∈ks,k<S.length) ->
 ∃y5 y6,aP (aM T (aB T dfs (m+9)) (.one 5) yS) (ks.map aG) [x0,.v (bkS P Q S L cv),.v (.lst (aA cs)),.v (.lst (aA aw)),.v (.lst ((aD S.length).map λk=>.tup (.str (aT S cv cs aw k)::X k))),x5,x6,x7,x8,x9,x10]=.ok (.nx [x0,.v (bkS P Q S L cv),.v (.lst (aA cs)),.v (.lst (aA aw)),.v (.lst ((aD S.length).map λk=>.tup (.str (aT S cv cs aw k)::X k))),y5,y6,x7,x8,x9,x10])
 |[],x5,x6,_=>⟨x5,x6,rfl⟩
 |k::r,x5,x6,h=>by
  have hk:=h k bC
  obtain⟨x,e⟩:=KN (L:=L) st hc (zD aw) m hk
  obtain⟨y5,y6,ih⟩:=E6 st hc aw (X:=X) m x0 x7 x8 x9 x10 r (.v (.int (k:Int))) (.v (.str (aT S cv cs aw k))) λq hq=>h q (aR _ hq)
  refine⟨y5,y6,?_⟩
  have i1:D.ix (.lst ((aD S.length).map λk=>D.tup (.str (aT S cv cs aw k)::X k))) (.int (k:Int))=.ok (.tup (.str (aT S cv cs aw k)::X k)):=iY (by rw[bT,L6 hk];rfl)
  have i2:∀r,D.ix (.tup (.str (aT S cv cs aw k)::r)) (.int 0)=.ok (.str (aT S cv cs aw k)):=λr=>iC (i:=0) rfl
  have t1:∀l,D.isTy (.tup l) .tuple=true:=λ_=>rfl
  have t2:∀l,D.isDct (.tup l)=false:=λ_=>rfl
  have ne:D.cmp .NotEq (.str (aT S cv cs aw k)) (.str (aT S cv cs aw k))=.ok (.bl false):=rF rfl
  rw[aK,<-ih]
  refine dJ ?_
  clear ih
  generalize (aD S.length).map (λk=>D.tup (.str (aT S cv cs aw k)::X k))=xs at *
  generalize aT S cv cs aw k=kk at *
  generalize bkS P Q S L cv=BK at *
  generalize aA cs=nc at *
  generalize aA aw=na at *
  simp[aM,yS,aG,e,i1,i2,t1,t2,ne]
theorem E7(st:Stage P Q S cs)(hc:gS cv Q)(m:Nat)(FD:List D)(x0 x3 x4 x6 x7 x9:Sl):∀(r:List (List Nat))(x5 x10:Sl),
 ∃y5 y10,aP (aM T (aB T dfs (m+10)) (.many [10,5]) yU) (r.map λa=>.tup [tN a,aQ (bF S cv cs a)]) [x0,.v (bkS P Q S L cv),.v (.lst (aA cs)),x3,x4,x5,x6,x7,.o (.lst FD),x9,x10]=.ok (.nx [x0,.v (bkS P Q S L cv),.v (.lst (aA cs)),x3,x4,y5,x6,x7,.o (.lst FD),x9,y10])
 |[],x5,x10=>⟨x5,x10,rfl⟩
 |a::r,x5,x10=>by
  have e:=KS (L:=L) st hc a m
  obtain⟨y5,y10,ih⟩:=E7 st hc m FD x0 x3 x4 x6 x7 x9 r (.v (aQ (bF S cv cs a))) (.v (tN a))
  refine⟨y5,y10,?_⟩
  have t1:D.isTy (tN a) .tuple=true:=rfl
  have t2:D.isDct (tN a)=false:=rfl
  have t3:D.isTy (aQ (bF S cv cs a)) .bool=false:=by cases bF S cv cs a<;>rfl
  have t4:D.isDct (aQ (bF S cv cs a))=false:=by cases bF S cv cs a<;>rfl
  have ne:D.cmp .NotEq (aQ (bF S cv cs a)) (aQ (bF S cv cs a))=.ok (.bl false):=rF (by cases bF S cv cs a<;>rfl)
  rw[aK,<-ih]
  refine dJ ?_
  clear ih
  generalize aQ (bF S cv cs a)=lk at *
  generalize tN a=ta at *
  generalize bkS P Q S L cv=BK at *
  generalize aA cs=nc at *
  simp[aM,yU,e,t1,t2,t3,t4,ne]
end
noncomputable def hdB:S->S
 |.cons a _=>a
 |s=>s
noncomputable def tlB:S->S
 |.cons _ r=>r
 |s=>s
noncomputable def sW:S:=tlB (tlB (tlB (tlB (tlB (tlB (tlB fD))))))
theorem E8(many:Nat):∀most,(fnd many most).head?=some []
 |0=>rfl
 |n+1=>by rw[fnd,List.head?_append,E8 many n];rfl
theorem KU{S:List Scene}{cv:List (Nat×Nat)}{cs:List Nat}:bF S cv cs []=none:=by
 unfold bF
 rw[LV]
 intro k hk h
 have:=KE (cv:=cv) (cs:=cs) (cV.mp hk)
 rw[this]at h
 exact absurd (of_decide_eq_true h) (by decide)
section
variable{P:List Part}{Q:List Player}{S:List Scene}{cs:List Nat}{L:D}{cv:List (Nat×Nat)}
theorem KW(st:Stage P Q S cs)(hc:gS cv Q)(ns:List Int)(m:Nat)(x3 x4 x5 x6:Sl) :
 exS T (aB T dfs (m+10)) sW [.v (.lst (ns.map D.int)),.v (bkS P Q S L cv),.v (.lst (aA cs)),x3,x4,x5,x6,.no,.no,.no,.no]=.ok (.rt (.bl true) false):=by
 have hb:=bN
 have hq:=st.hq
 have c2:=sI (m+9) ns 2
 rw[show((2:Nat):Int)=2 from rfl]at c2
 generalize dR ns 2=c at c2
 have m5:=pB c (show(5:Int)≠0 by decide)
 have m5':=zW c (show(0:Int)<5 by decide)
 have md:D.bin .Mod (.int c) (.int 5)=.ok (.int (c%5)):=rfl
 obtain⟨most,hmo⟩:=Int.eq_ofNat_of_zero_le m5
 rw[hmo]at md
 have ho:most<5:=by lia
 have nt:=KM (L:=L) st hc m ho
 have sl:=KP (m+9) (many:=Q.length) (by lia) ho
 have ll:=(sV Q.length (by lia) most ho).2.1
 have c1:∀env,aY (aI T (aB T dfs (m+10)) 1 [] (.one 0) yT (.con (.bl true)) env) ((fnd Q.length most).map λa=>.tup [tN a,aQ (bF S cv cs a)])=.ok ((fnd Q.length most).map tN):=λenv=>by
  rw[cJ (λa=>D.tup [tN a,aQ (bF S cv cs a)]) (λa=>some (tN a)) (λa _=>by
   generalize tN a=t at *
   simp[aI,Tr.aX,yT]),fN]
 have ne1:D.cmp .NotEq (.lst ((fnd Q.length most).map tN)) (.lst ((fnd Q.length most).map tN))=.ok (.bl false):=rF (by rw[DH];exact rD tN 29 (λa=>by unfold tN;rw[rE];exact kK 28 a) _)
 have hp:∀a:List Nat,D.pl 29 (.tup [tN a,aQ (bF S cv cs a)])=true:=λa=>by
  rw[rE]
  show(D.pl 28 (tN a)&&(D.pl 28 (aQ (bF S cv cs a))&&true))=true
  rw[show D.pl 28 (tN a)=true by unfold tN;rw[rE];exact kK 27 a]
  cases bF S cv cs a<;>rfl
 have eq1:D.cmp .Eq (.lst ((fnd Q.length most).map λa=>D.tup [tN a,aQ (bF S cv cs a)])) (.lst ((fnd Q.length most).map λa=>D.tup [tN a,aQ (bF S cv cs a)]))=.ok (.bl true):=by
  have pl:D.pl 30 (.lst ((fnd Q.length most).map λa=>D.tup [tN a,aQ (bF S cv cs a)]))=true:=by rw[DH];exact rD (λa=>D.tup [tN a,aQ (bF S cv cs a)]) 29 hp _
  show aC (D.eqOk _ _) (.ok (D.bl (D.eqb _ _)))=_
  rw[bR (by unfold D.eqOk;rw[pl];rfl),D.eqb_refl 30 _ pl]
 have i0:D.ix (.lst ((fnd Q.length most).map λa=>D.tup [tN a,aQ (bF S cv cs a)])) (.int 0)=.ok (.tup [.tup [],.non]):=by
  refine iY (i:=0) ?_
  have h0:=E8 Q.length most
  cases hf:fnd Q.length most with
  |nil=>rw[hf]at h0;cases h0
  |cons a r=>
   rw[hf]at h0
   cases h0
   show some (D.tup [tN [],aQ (bF S cv cs [])])=_
   rw[KU];rfl
 have ne2:D.cmp .NotEq (.tup [.tup [],.non]) (.tup [.tup [],.non])=.ok (.bl false):=rfl
 obtain⟨y5,y10,lo⟩:=E7 (L:=L) st hc m ((fnd Q.length most).map λa=>.tup [tN a,aQ (bF S cv cs a)]) (.v (.lst (ns.map D.int))) x3 x4 x6 (.v (.int (most:Int))) (.v (.lst ((fnd Q.length most).map tN))) (fnd Q.length most) x5 .no
 have ty:∀l:List D,D.isTy (.lst l) .list=true:=λ_=>rfl
 have ty2:∀l:List D,D.isDct (.lst l)=false:=λ_=>rfl
 have l3:((fnd Q.length most).map λa=>D.tup [tN a,aQ (bF S cv cs a)]).length<=big:=by rw[aE];lia
 have l4:((fnd Q.length most).map λa=>D.tup [tN a,aQ (bF S cv cs a)]).length<big:=by rw[aE];lia
 have lq:=zJ (Q:=Q)
 have s1:D.sl (.lst (((fnd Q.length most).map λa=>D.tup [tN a,aQ (bF S cv cs a)])++[.non])) none (some (-1))=.ok (.lst ((fnd Q.length most).map λa=>D.tup [tN a,aQ (bF S cv cs a)])):=by
  generalize (fnd Q.length most).map (λa=>D.tup [tN a,aQ (bF S cv cs a)])=l
  show Res.ok (D.lst (cut (l++[.non]) none (some (-1))))=_
  refine congrArg (λz=>Res.ok (D.lst z)) ?_
  show((l++[D.non]).drop 0).take ((if(-1:Int)<0 then((-1:Int)+((l++[D.non]).length:Int)).toNat else min (-1:Int).toNat (l++[D.non]).length)-0)=l
  rw[if_pos (by decide),oX,cD,show((-1:Int)+((l.length+[D.non].length:Nat):Int)).toNat-0=l.length by show((-1:Int)+((l.length+1:Nat):Int)).toNat-0=l.length;lia,List.take_left]
 have ng:D.part (.int (-1))=.ok (some (-1)):=rfl
 have p0:D.part .non=.ok none:=rfl
 generalize (fnd Q.length most).map (λa=>D.tup [tN a,aQ (bF S cv cs a)])=nn at *
 generalize (fnd Q.length most).map tN=kl at *
 simp only[bkS]at nt lo⊢
 generalize Q.map Player.enc=qe at *
 generalize aA cs=nc at *
 simp[sW,tlB,fD,c2,md,nt,sl,lq,ty,ty2,l3,l4,c1,ne1,i0,ne2,lo,s1,ng,p0,eq1]
end
theorem KY(ns:List Int)(hn:ns.length<=63):aB T dfs 30 33 [.lst (ns.map D.int)]=.ok (.bl true):=by
 have hb:=bN
 obtain⟨P,Q,S,L,cv,dr,hcx,hcv,e1⟩:=book62 26 ns 3 hn (by lia)
 rw[show((3:Nat):Int)=3 from rfl]at e1
 have c0:=sI 28 ns 0
 rw[show((0:Nat):Int)=0 from rfl]at c0
 have c1:=sI 28 ns 1
 rw[show((1:Nat):Int)=1 from rfl]at c1
 have q1:=JM (xs:=Q.map Player.enc) (rD Player.enc 29 (λq=>by rfl) Q)
 refine bP (k:=false) rfl rfl rfl ?_
 by_cases hq:Q=[]
 ·rw[show(Q.map Player.enc).isEmpty=true by rw[hq];rfl]at q1
  generalize P.map Part.enc=pp at *
  generalize Q.map Player.enc=qq at *
  generalize S.map Scene.enc=ss at *
  generalize cv.map prD=cc at *
  simp[fD,e1,q1]
 rw[show(Q.map Player.enc).isEmpty=false by cases Q with|nil=>exact absurd rfl hq|cons _ _=>rfl]at q1
 have hq0:0<Q.length:=List.length_pos_iff.mpr hq
 have e2:=staged 27 P Q S L (.tup (cv.map prD)) dr hq0 (dR ns 0)
 have st:=KQ dr hq0 (dR ns 0)
 have hcq:∀x∈cv,x.2<(Q.map fF).length:=λx hx=>by rw[aE];exact(hcx x hx).2
 generalize fG (dR ns 0) Q.length P.length=cs at *
 generalize hP2:P.map iF=P2 at *
 generalize hQ2:Q.map fF=Q2 at *
 generalize hS2:(S.take 5).map (iG cs)=S2 at *
 have hs5:=st.hs
 have hc:gS cv Q2:=⟨by lia,hcq⟩
 obtain⟨aw,ha,e3⟩:=KR 28 (.tup (P2.map Part.enc)) (.tup (S2.map Scene.enc)) L (.tup (cv.map prD)) Q2 st.hq (dR ns 1)
 obtain⟨X,e4⟩:=ES (L:=L) st hc (zD aw) 20
 obtain⟨y5,y6,lo⟩:=E6 (L:=L) st hc aw (X:=X) 20 (.v (.lst (ns.map D.int))) .no .no .no .no (aD S2.length) .no .no λk hk=>cV.mp hk
 have lt:=KW (L:=L) st hc ns 19 (.v (.lst (aA aw))) (.v (.lst ((aD S2.length).map λk=>.tup (.str (aT S2 cv cs aw k)::X k)))) y5 y6
 rw[show(20+9:Nat)=29 from rfl]at e4 lo
 rw[show(19+10:Nat)=29 from rfl]at lt
 have ln:Bt.run .len [.lst ((aD S2.length).map λk=>D.tup (.str (aT S2 cv cs aw k)::X k))]=.ok (.int (S2.length:Nat)):=by
  show Res.ok (D.int (((aD S2.length).map λk=>D.tup (.str (aT S2 cv cs aw k)::X k)).length:Nat))=_
  rw[aE,cC]
 have ls:=zI (S:=S2)
 have rg:=iD (n:=S2.length) (by lia)
 have l1:((aD S2.length).map aG).length<=big:=by rw[aE,cC];lia
 have ne:D.cmp .NotEq (.int (S2.length:Nat)) (.int (S2.length:Nat))=.ok (.bl false):=rF rfl
 have ty:∀l:List D,D.isTy (.lst l) .list=true:=λ_=>rfl
 have ty2:∀l:List D,D.isDct (.lst l)=false:=λ_=>rfl
 show exS T (aB T dfs 29) (.cons (hdB fD) (.cons (hdB (tlB fD)) (.cons (hdB (tlB (tlB fD))) (.cons (hdB (tlB (tlB (tlB fD)))) (.cons (hdB (tlB (tlB (tlB (tlB fD))))) (.cons (hdB (tlB (tlB (tlB (tlB (tlB fD)))))) (.cons (hdB (tlB (tlB (tlB (tlB (tlB (tlB fD))))))) sW))))))) _=_
 generalize (aD S2.length).map (λk=>D.tup (.str (aT S2 cv cs aw k)::X k))=xs at *
 generalize (aD S2.length).map aG=rr at *
 simp only[bkS]at e4 lo lt
 generalize sW=LT at *
 generalize P2.map Part.enc=pp2 at *
 generalize Q2.map Player.enc=qq2 at *
 generalize S2.map Scene.enc=ss2 at *
 generalize P.map Part.enc=pp at *
 generalize Q.map Player.enc=qq at *
 generalize S.map Scene.enc=ss at *
 generalize cv.map prD=cc at *
 generalize aA cs=nc at *
 generalize aA aw=na at *
 simp[hdB,tlB,fD,e1,q1,c0,c1,e2,e3,e4,ty,ty2,ln,ls,ne,rg,l1,lo,lt]
end K61
namespace K61
open PySem L2 Tr
noncomputable def top(i:Nat):Stmt:=PySem.Challenge.pw_troupe_k61_nights.main.body.getD i (.Pass ⟨0,0,0,0⟩)
noncomputable abbrev KZ:DefT:=⟨"time_between", top 8,["book", "s", "t", "scenes"],["book", "s", "t"],wX,none⟩
noncomputable abbrev K0:DefT:=⟨"change_time", top 9,["book", "one", "other"],["book", "one", "other"],wY,none⟩
noncomputable abbrev K1:DefT:=⟨"short_change_from", top 10,["book", "s", "one", "other", "need", "t", "have"],["book", "s", "one", "other"],rK,none⟩
noncomputable abbrev K2:DefT:=⟨"reason_from", top 11,["book", "s", "i", "j", "numbers"],["book", "s", "i", "j"],lP,none⟩
noncomputable abbrev K3:DefT:=⟨"reason_of", top 12,["book", "i", "j", "s", "reason"],["book", "i", "j"],rM,none⟩
noncomputable abbrev K5:DefT:=⟨"clashes_of", top 13,["book", "pairs", "many", "i"],["book"],xA,none⟩
noncomputable abbrev K6:DefT:=⟨"fault_of_part", top 15,["book", "i", "player"],["book", "i", "player"],oE,none⟩
noncomputable abbrev K7:DefT:=⟨"have_one_player", top 16,["casting", "i", "j"],["casting", "i", "j"],rP,none⟩
noncomputable abbrev K8:DefT:=⟨"faults_of", top 17,["book", "casting", "faults"],["book", "casting"],xC,none⟩
noncomputable abbrev K9:DefT:=⟨"ask_that_it_plays", top 18,["book", "casting"],["book", "casting"],xD,none⟩
noncomputable abbrev K_:DefT:=⟨"gaps_of", top 20,["book", "casting", "away", "scene"],["book", "casting", "away", "scene"],xE,none⟩
noncomputable abbrev Ka:DefT:=⟨"covers_of", top 21,["book", "casting", "away", "scene", "part", "busy", "told"],["book", "casting", "away", "scene", "part"],xG,none⟩
noncomputable abbrev Kb:DefT:=⟨"lack_told", top 23,["covered", "asked", "gap", "gaps"],["covered", "asked", "gap"],xI,none⟩
noncomputable abbrev Kc:DefT:=⟨"scene_told", top 24,["book", "casting", "away", "scene", "gaps", "choices", "covered", "gap", "asked", "players"],["book", "casting", "away", "scene"],sA,none⟩
noncomputable abbrev Kd:DefT:=⟨"scene_of_night", top 25,["book", "casting", "away", "scene"],["book", "casting", "away", "scene"],xM,none⟩
noncomputable abbrev Ke:DefT:=⟨"night_of", top 26,["book", "casting", "away"],["book", "casting", "away"],xO,none⟩
noncomputable abbrev Kf:DefT:=⟨"first_lacking", top 27,["book", "casting", "away", "scene"],["book", "casting", "away"],xP,none⟩
noncomputable abbrev Kg:DefT:=⟨"one_longer", top 28,["sets", "many", "longer", "players", "start"],["sets", "many"],xR,none⟩
noncomputable abbrev Kh:DefT:=⟨"sets_up_to", top 29,["many", "most", "sets", "found", "size"],["many", "most"],xT,none⟩
noncomputable abbrev Ki:DefT:=⟨"nights_of", top 30,["book", "casting", "most"],["book", "casting", "most"],xV,none⟩
noncomputable abbrev Kj:DefT:=⟨"_law_cell_at", top 32,["_law_script", "_law_k"],["_law_script", "_law_k"],sC,none⟩
noncomputable abbrev Kk:DefT:=⟨"_law_mix", top 33,["_law_cell", "_law_k"],["_law_cell", "_law_k"],xW,none⟩
noncomputable abbrev Kl:DefT:=⟨"_law_name", top 34,["_law_cell", "_law_k", "_law_letter", "_law_tail", "_law_at"],["_law_cell", "_law_k"],xX,none⟩
noncomputable abbrev Km:DefT:=⟨"_law_minutes", top 35,["_law_number"],["_law_number"],xY,none⟩
noncomputable abbrev Kn:DefT:=⟨"_law_part", top 36,["_law_cell", "_law_k", "_law_base", "_law_number", "_law_voice"],["_law_cell", "_law_k", "_law_base"],xZ,none⟩
noncomputable abbrev Ko:DefT:=⟨"_law_player", top 37,["_law_cell", "_law_k", "_law_base", "_law_number", "_law_voices"],["_law_cell", "_law_k", "_law_base"],yA,none⟩
noncomputable abbrev Kp:DefT:=⟨"_law_scene", top 38,["_law_cell", "_law_k", "_law_base", "_law_many", "_law_number", "_law_some", "_law_middle", "_law_pause"],["_law_cell", "_law_k", "_law_base", "_law_many"],yB,none⟩
noncomputable abbrev Kq:DefT:=⟨"_law_pairs", top 39,["_law_cell", "_law_one", "_law_other", "_law_share", "_law_found", "_law_k", "_law_number", "_law_pair", "_law_middle"],["_law_cell", "_law_one", "_law_other", "_law_share"],yC,none⟩
noncomputable abbrev Kr:DefT:=⟨"_law_drawn", top 40,["_law_script", "_law_at", "_law_cells", "_law_many", "_law_parts", "_law_players", "_law_scenes", "_law_k", "_law_cell", "_law_likes", "_law_player_here", "_law_part_here", "_law_covers"],["_law_script", "_law_at"],yF,none⟩
noncomputable abbrev Ks:DefT:=⟨"_law_staged", top 41,["_law_book", "_law_cell", "_law_parts", "_law_players", "_law_casting", "_law_scenes", "_law_name_here", "_law_length", "_law_pause", "_law_numbers", "_law_kept", "_law_part_here"],["_law_book", "_law_cell"],yK,none⟩
noncomputable abbrev Kt:DefT:=⟨"_law_away", top 42,["_law_book", "_law_cell"],["_law_book", "_law_cell"],yL,none⟩
noncomputable abbrev Ku:DefT:=⟨"_law_sets", top 43,["_law_many", "_law_most", "_law_found", "_law_number"],["_law_many", "_law_most"],yP,none⟩
noncomputable abbrev Kv:DefT:=⟨"_law_first", top 44,["_law_book", "_law_casting", "_law_away_here", "_law_kinds", "_law_lacking"],["_law_book", "_law_casting", "_law_away_here"],yR,none⟩
noncomputable abbrev d_law:DefT:=⟨"law", top 45,["_law_script", "_law_book", "_law_casting", "_law_away_here", "_law_told", "_law_scene_here", "_law_kind", "_law_most", "_law_found", "_law_sets_here", "_law_some"],["_law_script"],fD,none⟩
noncomputable abbrev Kw:DefT:=⟨"finds_cover", top 22,["choices", "covered", "asked", "gap", "player"],["choices", "covered", "asked", "gap"],oK,none⟩
noncomputable def defs:List DefT:=[KZ,K0,K1,K2,K3,K5,K6,K7,K8,K9,K_,Ka,Kb,Kc,Kd,Ke,Kf,Kg,Kh,Ki,Kj,Kk,Kl,Km,Kn,Ko,Kp,Kq,Kr,Ks,Kt,Ku,Kv,d_law,Kw]
noncomputable def Tx:Txt:=⟨["PARTS", "PLAYERS", "SCENES", "COVERS"],[("time_between":Str),("change_time":Str),("short_change_from":Str),("reason_from":Str),("reason_of":Str),("clashes_of":Str),("fault_of_part":Str),("have_one_player":Str),("faults_of":Str),("ask_that_it_plays":Str),("gaps_of":Str),("covers_of":Str),("lack_told":Str),("scene_told":Str),("scene_of_night":Str),("night_of":Str),("first_lacking":Str),("one_longer":Str),("sets_up_to":Str),("nights_of":Str),("_law_cell_at":Str),("_law_mix":Str),("_law_name":Str),("_law_minutes":Str),("_law_part":Str),("_law_player":Str),("_law_scene":Str),("_law_pairs":Str),("_law_drawn":Str),("_law_staged":Str),("_law_away":Str),("_law_sets":Str),("_law_first":Str),("law":Str)],[],[],[],[],[(34, "finds_cover")],none⟩
theorem okB:defs.all (·.okB Tx)=true:=by decide +kernel
end K61
open PySem PySem.W PyProof.Rows
set_option maxRecDepth 100000 in
set_option maxHeartbeats 0 in
theorem PySem.Challenge.cw_troupe_k61_nights_holds : PySem.Challenge.rw_troupe_k61_nights.Holds := by
 refine K61.hd ?_
 k_fill
 refine Tr.walkK (l:=PySem.Challenge.rw_troupe_k61_nights) (T:=K61.T) (Tx:=K61.Tx) (defs:=K61.defs) (i:=33) (n:=30) (c0:=239) (P:=237) (bm:=4) (pos:=⟨186,34,186,79⟩) (ql := "_law_sets.<locals>.<lambda>") rfl rfl rfl rfl rfl ⟨rfl,by decide,by decide⟩ K61.KY (λw h Y=>⟨PySem.W.km_in_of Y,PySem.W.km_tabs_of Y 237 (by simp)⟩) ?X (λp=>by kernel_rfl) (λp=>by kernel_rfl) (λp=>by kernel_rfl) (λp=>by kernel_rfl) (λp=>by kernel_rfl) (λ_ _ _ _ _ _ _=>rfl)
 case X=>
  intro w mg h KX G
  refine' Tr.IU ⟨Tr.dn_of rfl rfl,K61.okB,(Tr.all_cons (Tr.bO KX G ?a0 ?l0 ?c0 ?k0 ?b0) (Tr.all_cons (Tr.bO KX G ?a1 ?l1 ?c1 ?k1 ?b1) (Tr.all_cons (Tr.bO KX G ?a2 ?l2 ?c2 ?k2 ?b2) (Tr.all_cons (Tr.bO KX G ?a3 ?l3 ?c3 ?k3 ?b3) (Tr.all_cons (Tr.bO KX G ?a4 ?l4 ?c4 ?k4 ?b4) (Tr.all_cons (Tr.bO KX G ?a5 ?l5 ?c5 ?k5 ?b5) (Tr.all_cons (Tr.bO KX G ?a6 ?l6 ?c6 ?k6 ?b6) (Tr.all_cons (Tr.bO KX G ?a7 ?l7 ?c7 ?k7 ?b7) (Tr.all_cons (Tr.bO KX G ?a8 ?l8 ?c8 ?k8 ?b8) (Tr.all_cons (Tr.bO KX G ?a9 ?l9 ?c9 ?k9 ?b9) (Tr.all_cons (Tr.bO KX G ?a10 ?l10 ?c10 ?k10 ?b10) (Tr.all_cons (Tr.bO KX G ?a11 ?l11 ?c11 ?k11 ?b11) (Tr.all_cons (Tr.bO KX G ?a12 ?l12 ?c12 ?k12 ?b12) (Tr.all_cons (Tr.bO KX G ?a13 ?l13 ?c13 ?k13 ?b13) (Tr.all_cons (Tr.bO KX G ?a14 ?l14 ?c14 ?k14 ?b14) (Tr.all_cons (Tr.bO KX G ?a15 ?l15 ?c15 ?k15 ?b15) (Tr.all_cons (Tr.bO KX G ?a16 ?l16 ?c16 ?k16 ?b16) (Tr.all_cons (Tr.bO KX G ?a17 ?l17 ?c17 ?k17 ?b17) (Tr.all_cons (Tr.bO KX G ?a18 ?l18 ?c18 ?k18 ?b18) (Tr.all_cons (Tr.bO KX G ?a19 ?l19 ?c19 ?k19 ?b19) (Tr.all_cons (Tr.bO KX G ?a20 ?l20 ?c20 ?k20 ?b20) (Tr.all_cons (Tr.bO KX G ?a21 ?l21 ?c21 ?k21 ?b21) (Tr.all_cons (Tr.bO KX G ?a22 ?l22 ?c22 ?k22 ?b22) (Tr.all_cons (Tr.bO KX G ?a23 ?l23 ?c23 ?k23 ?b23) (Tr.all_cons (Tr.bO KX G ?a24 ?l24 ?c24 ?k24 ?b24) (Tr.all_cons (Tr.bO KX G ?a25 ?l25 ?c25 ?k25 ?b25) (Tr.all_cons (Tr.bO KX G ?a26 ?l26 ?c26 ?k26 ?b26) (Tr.all_cons (Tr.bO KX G ?a27 ?l27 ?c27 ?k27 ?b27) (Tr.all_cons (Tr.bO KX G ?a28 ?l28 ?c28 ?k28 ?b28) (Tr.all_cons (Tr.bO KX G ?a29 ?l29 ?c29 ?k29 ?b29) (Tr.all_cons (Tr.bO KX G ?a30 ?l30 ?c30 ?k30 ?b30) (Tr.all_cons (Tr.bO KX G ?a31 ?l31 ?c31 ?k31 ?b31) (Tr.all_cons (Tr.bO KX G ?a32 ?l32 ?c32 ?k32 ?b32) (Tr.all_cons (Tr.bO KX G ?a33 ?l33 ?c33 ?k33 ?b33) (Tr.all_cons (Tr.bO KX G ?a34 ?l34 ?c34 ?k34 ?b34) Tr.jR))))))))))))))))))))))))))))))))))),(Tr.qX (Tr.qW KX G ?gg0) (Tr.qX (Tr.qW KX G ?gg1) (Tr.qX (Tr.qW KX G ?gg2) (Tr.qX (Tr.qW KX G ?gg3) Tr.gl_nil)))),(Tr.all_cons (Tr.dC KX G ?z0) (Tr.all_cons (Tr.dC KX G ?z1) (Tr.all_cons (Tr.dC KX G ?z2) (Tr.all_cons (Tr.dC KX G ?z3) (Tr.all_cons (Tr.dC KX G ?z4) (Tr.all_cons (Tr.dC KX G ?z5) (Tr.all_cons (Tr.dC KX G ?z6) (Tr.all_cons (Tr.dC KX G ?z7) (Tr.all_cons (Tr.dC KX G ?z8) (Tr.all_cons (Tr.dC KX G ?z9) (Tr.all_cons (Tr.dC KX G ?z10) (Tr.all_cons (Tr.dC KX G ?z11) (Tr.all_cons (Tr.dC KX G ?z12) (Tr.all_cons (Tr.dC KX G ?z13) (Tr.all_cons (Tr.dC KX G ?z14) (Tr.all_cons (Tr.dC KX G ?z15) (Tr.all_cons (Tr.dC KX G ?z16) (Tr.all_cons (Tr.dC KX G ?z17) (Tr.all_cons (Tr.dC KX G ?z18) Tr.jR))))))))))))))))))),Tr.jR,Tr.jR,Tr.jR,Tr.jR,(Tr.all_cons ⟨_,rfl,rfl⟩ Tr.jR),Tr.jR,?lam,rfl⟩ rfl
  (case lam=>kernel_rfl)
  (case a0=>k_is);(case l0=>k_is);(case c0=>k_is);(case k0=>k_is)
  (case b0=>exact λ_ _ _ _ _ _=>Tr.fU (λ_ _ _=>rfl))
  (case a1=>k_is);(case l1=>k_is);(case c1=>k_is);(case k1=>k_is)
  (case b1=>exact λ_ _ _ _ _ _=>Tr.fU (λ_ _ _=>rfl))
  (case a2=>k_is);(case l2=>k_is);(case c2=>k_is);(case k2=>k_is)
  (case b2=>exact λ_ _ _ _ _ _=>Tr.len4 (λ_ _ _ _=>rfl))
  (case a3=>k_is);(case l3=>k_is);(case c3=>k_is);(case k3=>k_is)
  (case b3=>exact λ_ _ _ _ _ _=>Tr.len4 (λ_ _ _ _=>rfl))
  (case a4=>k_is);(case l4=>k_is);(case c4=>k_is);(case k4=>k_is)
  (case b4=>exact λ_ _ _ _ _ _=>Tr.fU (λ_ _ _=>rfl))
  (case a5=>k_is);(case l5=>k_is);(case c5=>k_is);(case k5=>k_is)
  (case b5=>exact λ_ _ _ _ _ _=>Tr.len1 (λ_=>rfl))
  (case a6=>k_is);(case l6=>k_is);(case c6=>k_is);(case k6=>k_is)
  (case b6=>exact λ_ _ _ _ _ _=>Tr.fU (λ_ _ _=>rfl))
  (case a7=>k_is);(case l7=>k_is);(case c7=>k_is);(case k7=>k_is)
  (case b7=>exact λ_ _ _ _ _ _=>Tr.fU (λ_ _ _=>rfl))
  (case a8=>k_is);(case l8=>k_is);(case c8=>k_is);(case k8=>k_is)
  (case b8=>exact λ_ _ _ _ _ _=>Tr.gN (λ_ _=>rfl))
  (case a9=>k_is);(case l9=>k_is);(case c9=>k_is);(case k9=>k_is)
  (case b9=>exact λ_ _ _ _ _ _=>Tr.gN (λ_ _=>rfl))
  (case a10=>k_is);(case l10=>k_is);(case c10=>k_is);(case k10=>k_is)
  (case b10=>exact λ_ _ _ _ _ _=>Tr.len4 (λ_ _ _ _=>rfl))
  (case a11=>k_is);(case l11=>k_is);(case c11=>k_is);(case k11=>k_is)
  (case b11=>exact λ_ _ _ _ _ _=>Tr.len5 (λ_ _ _ _ _=>rfl))
  (case a12=>k_is);(case l12=>k_is);(case c12=>k_is);(case k12=>k_is)
  (case b12=>exact λ_ _ _ _ _ _=>Tr.fU (λ_ _ _=>rfl))
  (case a13=>k_is);(case l13=>k_is);(case c13=>k_is);(case k13=>k_is)
  (case b13=>exact λ_ _ _ _ _ _=>Tr.len4 (λ_ _ _ _=>rfl))
  (case a14=>k_is);(case l14=>k_is);(case c14=>k_is);(case k14=>k_is)
  (case b14=>exact λ_ _ _ _ _ _=>Tr.len4 (λ_ _ _ _=>rfl))
  (case a15=>k_is);(case l15=>k_is);(case c15=>k_is);(case k15=>k_is)
  (case b15=>exact λ_ _ _ _ _ _=>Tr.fU (λ_ _ _=>rfl))
  (case a16=>k_is);(case l16=>k_is);(case c16=>k_is);(case k16=>k_is)
  (case b16=>exact λ_ _ _ _ _ _=>Tr.fU (λ_ _ _=>rfl))
  (case a17=>k_is);(case l17=>k_is);(case c17=>k_is);(case k17=>k_is)
  (case b17=>exact λ_ _ _ _ _ _=>Tr.gN (λ_ _=>rfl))
  (case a18=>k_is);(case l18=>k_is);(case c18=>k_is);(case k18=>k_is)
  (case b18=>exact λ_ _ _ _ _ _=>Tr.gN (λ_ _=>rfl))
  (case a19=>k_is);(case l19=>k_is);(case c19=>k_is);(case k19=>k_is)
  (case b19=>exact λ_ _ _ _ _ _=>Tr.fU (λ_ _ _=>rfl))
  (case a20=>k_is);(case l20=>k_is);(case c20=>k_is);(case k20=>k_is)
  (case b20=>exact λ_ _ _ _ _ _=>Tr.gN (λ_ _=>rfl))
  (case a21=>k_is);(case l21=>k_is);(case c21=>k_is);(case k21=>k_is)
  (case b21=>exact λ_ _ _ _ _ _=>Tr.gN (λ_ _=>rfl))
  (case a22=>k_is);(case l22=>k_is);(case c22=>k_is);(case k22=>k_is)
  (case b22=>exact λ_ _ _ _ _ _=>Tr.gN (λ_ _=>rfl))
  (case a23=>k_is);(case l23=>k_is);(case c23=>k_is);(case k23=>k_is)
  (case b23=>exact λ_ _ _ _ _ _=>Tr.len1 (λ_=>rfl))
  (case a24=>k_is);(case l24=>k_is);(case c24=>k_is);(case k24=>k_is)
  (case b24=>exact λ_ _ _ _ _ _=>Tr.fU (λ_ _ _=>rfl))
  (case a25=>k_is);(case l25=>k_is);(case c25=>k_is);(case k25=>k_is)
  (case b25=>exact λ_ _ _ _ _ _=>Tr.fU (λ_ _ _=>rfl))
  (case a26=>k_is);(case l26=>k_is);(case c26=>k_is);(case k26=>k_is)
  (case b26=>exact λ_ _ _ _ _ _=>Tr.len4 (λ_ _ _ _=>rfl))
  (case a27=>k_is);(case l27=>k_is);(case c27=>k_is);(case k27=>k_is)
  (case b27=>exact λ_ _ _ _ _ _=>Tr.len4 (λ_ _ _ _=>rfl))
  (case a28=>k_is);(case l28=>k_is);(case c28=>k_is);(case k28=>k_is)
  (case b28=>exact λ_ _ _ _ _ _=>Tr.gN (λ_ _=>rfl))
  (case a29=>k_is);(case l29=>k_is);(case c29=>k_is);(case k29=>k_is)
  (case b29=>exact λ_ _ _ _ _ _=>Tr.gN (λ_ _=>rfl))
  (case a30=>k_is);(case l30=>k_is);(case c30=>k_is);(case k30=>k_is)
  (case b30=>exact λ_ _ _ _ _ _=>Tr.gN (λ_ _=>rfl))
  (case a31=>k_is);(case l31=>k_is);(case c31=>k_is);(case k31=>k_is)
  (case b31=>exact λ_ _ _ _ _ _=>Tr.gN (λ_ _=>rfl))
  (case a32=>k_is);(case l32=>k_is);(case c32=>k_is);(case k32=>k_is)
  (case b32=>exact λ_ _ _ _ _ _=>Tr.fU (λ_ _ _=>rfl))
  (case a33=>k_is);(case l33=>k_is);(case c33=>k_is);(case k33=>k_is)
  (case b33=>exact λ_ _ _ _ _ _=>Tr.len1 (λ_=>rfl))
  (case a34=>k_is);(case l34=>k_is);(case c34=>k_is);(case k34=>k_is)
  (case b34=>exact λ_ _ _ _ _ _=>Tr.len4 (λ_ _ _ _=>rfl))
  (case gg0=>k_is)
  (case gg1=>k_is)
  (case gg2=>k_is)
  (case gg3=>k_is)
  (case z0=>k_is)
  (case z1=>k_is)
  (case z2=>k_is)
  (case z3=>k_is)
  (case z4=>k_is)
  (case z5=>k_is)
  (case z6=>k_is)
  (case z7=>k_is)
  (case z8=>k_is)
  (case z9=>k_is)
  (case z10=>k_is)
  (case z11=>k_is)
  (case z12=>k_is)
  (case z13=>k_is)
  (case z14=>k_is)
  (case z15=>k_is)
  (case z16=>k_is)
  (case z17=>k_is)
  (case z18=>k_is)
