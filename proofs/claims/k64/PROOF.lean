import PyProof.Rows.All
import Wide.All
import OpenK.AllK
import Wide.FinOn
import Lean
import PyProof.EqAt
import PyProof.EqKinds
import PyProof.TupleCall
import PySem.Challenge.RW_troupe_k64_whole_every_night
set_option Elab.async false
set_option genSizeOf false
set_option bootstrap.genMatcherCode false
set_option compiler.extract_closed false
set_option genSizeOfSpec false
set_option linter.all false
set_option maxRecDepth 100000
open Array renaming length_toList->jP,getElem?_toList->jR,getElem?_eq_getElem->kS,toList_inj->sJ,getElem?_eq_none->sP,range->yZ,toList_map->El,getElem?_eq_some_iff->Lm,size_map->Lu
open Bool renaming and_eq_true->aH,false_ne_true->aU,not_eq_true'->cD,or_eq_true->fV,false_eq_true->iO,false_or->sI,and_false->Eg,not_false->Em,and_eq_true_iff->L8,eq_false_iff->Ls
open Int renaming toNat_natCast->gZ,toNat->lU,toNat_of_nonneg->sR,emod_nonneg->zL,emod_lt_of_pos->zM,natCast_nonneg->Et,le_antisymm->Ll
open List renaming range->aD,length_map->aF,map_cons->aK,mem_cons->aO,length_cons->aP,replicate->aW,getElem?_eq_getElem->aX,mem_cons_of_mem->bB,mem_cons_self->bF,mem_map->bJ,getElem?_map->bK,mem_range->bO,size_toArray->bP,length_range->bQ,length_append->bR,mem_singleton->bX,map_map->cG,find?_cons->cJ,mem_filter->cP,map_append->dF,range'->dG,all_eq_true->dN,getElem_mem->eF,nodup_cons->eK,length_replicate->eL,length_set->eN,getD_eq_getElem?_getD->eU,mem_append->eY,filterMap_eq_map'->eZ,length_singleton->fG,not_mem_nil->fH,length_filter_le->fJ,mem_append_right->fT,map_congr_left->fU,filterMap_cons->gK,getElem?_eq_some_iff->gL,getElem?_append_right->gM,filter_cons->gN,mem_of_getElem?->gW,length_nil->gX,Pairwise->iL,any_cons->iM,nodup_nil->iN,contains_iff_mem->jQ,getElem?_eq_none->jS,pairwise_cons->jT,length_take->kN,getElem?_append_left->kO,map_nil->kP,append_assoc->kQ,lookup_cons->kT,nodup_append->kU,append_nil->lR,getElem?_replicate->lS,replicate_succ->lT,toArray->lV,flatten_cons->nY,foldl_cons->nZ,all_cons->oB,getElem?_set_self->sF,getElem?_set_ne->sG,length_drop->sH,take_of_length_le->sL,map_take->sM,map_drop->sN,Perm->sO,any_eq_true->sQ,nil_append->sS,mem_range'_1->sT,length->yV,reverse_cons->yW,range_succ_eq_map->yX,drop_eq_getElem_cons->yY,mem_map_of_mem->zA,mem_of_mem_take->zB,mem_of_mem_drop->zC,pairwise_map->zF,map->zH,findSome?_cons->zJ,length_range'->zK,mem_append_left->Ed,of_mem_zip->Ee,foldl->Ef,eq_nil_of_length_eq_zero->Ei,drop_zero->Ej,filter_congr->En,all_map->Eo,range_eq_range'->Er,range'_succ->Es,Nodup->Eu,getElem?_range->Ew,getElem_inj->L9,mem_filterMap->L_,getElem?_take_of_lt->Lb,filterMap_map->Lc,any_append->Lf,length_eq_zero_iff->Li,ext_getElem?->Lj,pairwise_lt_range->Lk,getElem?_cons_succ->Lo,drop_length->Lp,mapM_toArray->Lq,all_toArray->Lr,pairwise_singleton->Lv,pairwise_reverse->Lw,cons_append->Lx,filter_append->Ly,map_reverse->MB,getElem?_of_mem->MC,flatMap_nil->MD,flatMap_cons->ME,getLast?_append->MF
open Nat renaming le_refl->aN,ne_of_lt->aT,le_trans->bV,lt_of_lt_of_le->dM,zero_le->eM,lt_succ_of_lt->gY,le_of_lt->iJ,ne_of_gt->iK,le_succ->jG,lt_irrefl->kM,lt_trans->kR,zero_add->lW,lt_succ_self->oA,lt_or_ge->zD,succ_ne_self->zE,not_lt_zero->zG,min_eq_left->zI,sub_zero->Ek,le_add_right->Ep,testBit_or->Lg,testBit_two_pow->Lh,lt_of_succ_lt_succ->Ln,mul_le_mul->Lz
open Option renaming some->fS,isSome_map->Eh,isSome_iff_exists->La,getD_none->Ld,map_eq_some_iff->Le,map_map->MA
namespace K64
theorem both1{a b:Bool}(h:(a&&b)=true):a=true:=(L8.mp h).1
theorem both2{a b:Bool}(h:(a&&b)=true):b=true:=(L8.mp h).2
noncomputable def vw:PySem.Program:=PySem.W.view PySem.Challenge.pw_troupe_k64_whole_every_night [1,2,3,4,5,6,8,9,10,11,12,13,15,16,17,18,20,21,22,23,24,25,26,27,28,29,31,32,33,34,35,36,37,38,39,40]
end K64
section
open PySem PySem.W PyProof.Rows
set_option maxHeartbeats 0
local macro_rules
  | `(tactic| o_head $H)=>`(tactic| (
    apply holds_open (N:=4100) (q:=K64.vw) (loose:=[])
      (Yf:=($H).obs) (Ya:=($H).val) (YP:=($H).says)
      (XP:=XL K64.vw []) (Xt:=fun s=>xlAt K64.vw [] s&&recOk (PySem.Challenge.rw_troupe_k64_whole_every_night.row.toRowW).records s)
      (by intro w;kernel_rfl) ($H).of ($H).keeps
      (fun s e=>xl_of s (K64.both1 e)) XL.keeps
      rfl rfl rfl
      (fun s e=>recFacts_of (K64.both2 e))
      rfl (by assumption) (by decide +kernel)
      (by refine⟨rfl,rfl,rfl,rfl,rfl,?_⟩;decide +kernel)))
open_top K64.hd for PySem.Challenge.rw_troupe_k64_whole_every_night
end
set_option Elab.async false
set_option linter.all false
set_option maxRecDepth 100000
namespace L2
open PySem PySem.Spec PyProof.Rows
noncomputable abbrev Key:=Sum Int Str
noncomputable def hJ:Key->Value->Bool
 |.inl k,v=>Value.isInt k v
 |.inr x,v=>Value.isStrOf x v
noncomputable def keyH(w:World):Key->Int
 |.inl k=>hashInt k
 |.inr x=>hashStr w x
theorem hV:∀{k:Key} {v:Value},hJ k v=true->(∃i t,k=Sum.inl i/\v=Value.int i t)\/(∃x t,k=Sum.inr x/\v=Value.str x t)
 |.inl i,v,h=>by
  obtain⟨t,e⟩:=Value.isInt_shape (k:=i) (v:=v) h
  exact .inl ⟨i,t,rfl,e⟩
 |.inr x,v,h=>by
  obtain⟨t,e⟩:=Value.isStrOf_shape (x:=x) (v:=v) h
  exact .inr ⟨x,t,rfl,e⟩
theorem zN(i:Int)(t:Tok):hJ (.inl i) (.int i t)=true:=by simp[hJ,Value.isInt]
theorem zO(x:Str)(t:Tok):hJ (.inr x) (.str x t)=true:=by simp[hJ,Value.isStrOf]
theorem key_ll(a b:Int):decide ((Sum.inl a:Key)=Sum.inl b)=(a==b):=by
 by_cases e:a=b
 ·subst e;simp
 ·have h:¬(Sum.inl a:Key)=Sum.inl b:=λq=>e (Sum.inl.inj q)
  rw[decide_eq_false h]
  exact(beq_eq_false_iff_ne.mpr e).symm
theorem key_rr(a b:Str):decide ((Sum.inr a:Key)=Sum.inr b)=decide (a=b):=by
 by_cases e:a=b
 ·subst e;simp
 ·have h:¬(Sum.inr a:Key)=Sum.inr b:=λq=>e (Sum.inr.inj q)
  rw[decide_eq_false h,decide_eq_false e]
theorem key_lr(a:Int)(b:Str):decide ((Sum.inl a:Key)=Sum.inr b)=false:=decide_eq_false (λq=>nomatch q)
theorem key_rl(a:Str)(b:Int):decide ((Sum.inr a:Key)=Sum.inl b)=false:=decide_eq_false (λq=>nomatch q)
noncomputable def aY(prog:Program)(w:World):PySem.KeyKind prog w Key where
 is:=hJ
 hash:=keyH w
 inj:=λv a b ha hb=>by
  rcases hV ha with⟨i,t,rfl,rfl⟩|⟨x,t,rfl,rfl⟩
  ·rcases hV hb with⟨j,u,rfl,e⟩|⟨y,u,rfl,e⟩
   ·injection e with e1 _;rw[e1]
   ·exact nomatch e
  ·rcases hV hb with⟨j,u,rfl,e⟩|⟨y,u,rfl,e⟩
   ·exact nomatch e
   ·injection e with e1 _;rw[e1]
 byValue:=λk v h=>by
  rcases hV h with⟨i,t,rfl,rfl⟩|⟨x,t,rfl,rfl⟩<;>rfl
 pyHash:=λhv h=>by
  rcases hV hv with⟨i,t,rfl,rfl⟩|⟨x,t,rfl,rfl⟩
  ·exact wpAny_pyHash_int h
  ·exact wpAny_pyHash_str h
 eqBool:=λhu hv h=>by
  rcases hV hu with⟨i,t,rfl,rfl⟩|⟨x,t,rfl,rfl⟩
  ·rcases hV hv with⟨j,u,rfl,rfl⟩|⟨y,u,rfl,rfl⟩
   ·rw[key_ll]at h;exact wpAny_eqBool_int h
   ·rw[key_lr]at h;exact SeqAt.EqAt.int_str i t y u _ _ _ _ h
  ·rcases hV hv with⟨j,u,rfl,rfl⟩|⟨y,u,rfl,rfl⟩
   ·rw[key_rl]at h;exact SeqAt.EqAt.str_int x t j u _ _ _ _ h
   ·rw[key_rr]at h;exact wpAny_eqBool_str h
 «strs»:=λk x t v h=>by
  rcases hV h with⟨i,u,rfl,e⟩|⟨y,u,rfl,e⟩
  ·exact nomatch e
  ·injection e with e1 _
   subst e1
   cases v<;>rfl
theorem zP(prog:Program)(w:World)(i:Int)(t:Tok):(aY prog w).is (.inl i) (.int i t)=true:=zN i t
theorem sU(prog:Program)(w:World)(x:Str)(t:Tok):(aY prog w).is (.inr x) (.str x t)=true:=zO x t
inductive V where
 |non|bl (b:Bool)|int (i:Int)|str (x:Str)|byt (b:Array UInt8)|flt (b:UInt64)|ref (a:Addr)|ty (n:String)
 deriving DecidableEq
noncomputable def RelV:V->Value->Prop
 |.non,u=>u=Value.none
 |.bl b,u=>u=Value.bool b
 |.int i,u=>∃t,u=Value.int i t
 |.str x,u=>∃t,u=Value.str x t
 |.byt b,u=>∃t,u=Value.bytes b t
 |.flt b,u=>∃t,u=Value.float b t
 |.ref a,u=>u=Value.ref a
 |.ty n,u=>u=Value.type n
noncomputable abbrev Vals:List V->List Value->Prop:=Paired RelV
theorem Vals.length{xs:List V}{us:List Value}(r:Vals xs us):xs.length=us.length:=Paired.length r
theorem Vals.get:∀{xs:List V} {us:List Value} {i:Nat} {x:V},Vals xs us->xs[i]?=some x->∃u,us[i]?=some u/\RelV x u
 |_,_,_,_,.nil,e=>by simp at e
 |_,_,0,_,.cons r _,e=>by simp at e;subst e;exact⟨_,rfl,r⟩
 |_,_,i+1,x,.cons _ t,e=>by
  obtain⟨u,h1,h2⟩:=Vals.get (i:=i) (x:=x) t (by simpa using e)
  exact⟨u,by simpa using h1,h2⟩
theorem Vals.append:∀{xs ys:List V} {us ws:List Value},Vals xs us->Vals ys ws->Vals (xs++ys) (us++ws)
 |_,_,_,_,.nil,s=>s
 |_,_,_,_,.cons r t,s=>.cons r (Vals.append t s)
theorem Vals.take:∀{xs:List V} {us:List Value} (n:Nat),Vals xs us->Vals (xs.take n) (us.take n)
 |_,_,0,_=>.nil
 |_,_,_+1,.nil=>.nil
 |_,_,n+1,.cons r t=>.cons r (Vals.take n t)
theorem Vals.drop:∀{xs:List V} {us:List Value} (n:Nat),Vals xs us->Vals (xs.drop n) (us.drop n)
 |_,_,0,r=>r
 |_,_,_+1,.nil=>.nil
 |_,_,n+1,.cons _ t=>Vals.drop n t
noncomputable def RelO:Option V->Option Value->Prop
 |some v,some u=>RelV v u
 |none,none=>True
 |_,_=>False
noncomputable def KV{κ:Type}:List (κ×V)->List (κ×Value)->Prop:=Paired λ(p:κ×V) (q:κ×Value)=>p.1=q.1/\RelV p.2 q.2
noncomputable def kV:Key->V
 |.inl i=>.int i
 |.inr x=>.str x
inductive HO where
 |lst (xs:List V)
 |tup (xs:List V)
 |dK (kvs:List (Key×V))|dT (kvs:List (List Key×V))
 |set (S:Int->Bool) (n:Nat)
 |ins (C dx:Addr) (fs:List (Str×V))
 |own (x:Addr)
 |xd (fs:List (Str×V))
 |met (f x:Addr)
 |rng (lo hi:Int)
 |frz (o:Obj) (u:HO)
 |tbl (ps:Array Value)
 |ext (φ:Heap->Prop)
noncomputable abbrev Hp:=Addr->Option HO
noncomputable def upd(H:Hp)(a:Addr)(o:HO):Hp:=λb=>if b=a then some o else H b
theorem bS{H:Hp}{a:Addr}{o:HO}:upd H a o a=some o:=by unfold upd;rw[if_pos rfl]
theorem aL{H:Hp}{a b:Addr}{o:HO}(h:b≠a):upd H a o b=H b:=by unfold upd;rw[if_neg h]
theorem Ex{H:Hp}{a:Addr}{o u:HO}:upd (upd H a o) a u=upd H a u:=by
 funext b;unfold upd;split<;>rfl
theorem oC{H:Hp}{a b:Addr}{o u:HO}(h:H a=some o)(h':H b=some u)(d:o≠u):a≠b:=by
 intro e;subst e;rw[h]at h';exact d (fS.inj h')
theorem hZ{H:Hp}{a b:Addr}{o:HO}(h:H a=some o)(h':H b=none):a≠b:=by
 intro e;subst e;rw[h]at h';cases h'
section
variable(P:Program)(w:World)
noncomputable def ObjOk(H:Hp)(h:Heap)(a:Addr):HO->Prop
 |.lst xs=>xs.length<=sizeLine/\∃(its:List Value) (n:Nat),Vals xs its/\h.get? a=some {cls:=.type "list", data:=.seq its.toArray n}
 |.tup xs=>xs.length<=sizeLine/\∃its:List Value,Vals xs its/\IsTup h a its.toArray
 |.dK kvs=>kvs.length<=sizeLine/\(a==sysModules)=false/\∃vs,KV kvs vs/\h.DictOf (aY P w) a vs
 |.dT kvs=>kvs.length<=sizeLine/\(a==sysModules)=false/\∃xs:List (List Key×Addr×Value),
  Paired (λ(p:List Key×V) (q:List Key×Addr×Value)=>p.1=q.1/\H q.2.1=some (.tup (p.1.map kV))/\RelV p.2 q.2.2) kvs xs /\
  ∃o es ep,h.get? a=some o/\o.ExactDict/\o.data=.dict es ep/\es.toList=xs.map (entryOfKey (tupleKind (aY P w)))/\(xs.map (·.1)).Nodup
 |.set S n=>h.SetOf (intKind P w) a S n
 |.ins C dx fs=>H dx=some (.own a)/\fs.length<=1000/\dx≠a/\h.get? a=some (PySem.W.instObj C dx) /\
  ∃mA,h.Ns1 dx mA/\(∀f,RelO (fs.lookup f) (mA f))/\PySem.Within mA (fs.map (·.1))
 |.own _=>∃o,h.get? a=some o
 |.xd fs=>∃mA,h.Ns1 a mA/\∀f,RelO (fs.lookup f) (mA f)
 |.rng lo hi=>∃t u v,h.get? a=some {cls:=.type "range", data:=.fields #[.int lo t,.int hi u,.int 1 v] }
 |.frz o u=>h.get? a=some o/\ObjOk H h a u
 |.tbl ps=>h.get? a=some {cls:=.none,data:=.fields ps}
 |.met f x=>h.get? a=some (PySem.W.methodObj (.ref f) (.ref x))
 |.ext φ=>φ h/\(∃o,h.get? a=some o)/\∀h1 h2:Heap,φ h1->(∀o,h1.get? a=some o->h2.get? a=some o)->φ h2
noncomputable def HOk(H:Hp)(h:Heap):Prop:=∀a o,H a=some o->ObjOk P w H h a o
end
section
variable{P:Program}{w:World}{H H':Hp}{h h':Heap}{a:Addr}{o:HO}
theorem ObjOk.lt(x:ObjOk P w H h a o):a<h.objs.size:=by
 cases o with
 |lst xs=>obtain⟨_,_,_,_,e⟩:=x;exact Heap.lt_size e
 |tup xs=>obtain⟨_,_,_,p⟩:=x;exact p.lt
 |dK kvs=>obtain⟨_,_,_,_,o,_,_,e,_⟩:=x;exact Heap.lt_size e
 |dT kvs=>obtain⟨_,_,_,_,o,_,_,e,_⟩:=x;exact Heap.lt_size e
 |set S n=>obtain⟨o,_,_,_,e,_⟩:=x;exact Heap.lt_size e
 |ins C dx fs=>obtain⟨_,_,_,e,_⟩:=x;exact Heap.lt_size e
 |own y=>obtain⟨_,e⟩:=x;exact Heap.lt_size e
 |xd fs=>obtain⟨_,⟨_,_,_,e,_⟩,_⟩:=x;exact Heap.lt_size e
 |rng lo hi=>obtain⟨_,_,_,e⟩:=x;exact Heap.lt_size e
 |frz ob u=>obtain⟨e,_⟩:=x;exact Heap.lt_size e
 |tbl ps=>exact Heap.lt_size (show h.get? a=some _ from x)
 |met f y=>exact Heap.lt_size (show h.get? a=some _ from x)
 |ext φ=>obtain⟨_,⟨_,e⟩,_⟩:=x;exact Heap.lt_size e
theorem Paired.mapP{α β:Type}{F G:α->β->Prop}:∀{l₁:List α} {l₂:List β},Paired F l₁ l₂->(∀a b,F a b->G a b)->Paired G l₁ l₂
 |_,_,.nil,_=>.nil
 |_,_,.cons r t,f=>.cons (f _ _ r) (Paired.mapP t f)
theorem ObjOk.stay(x:ObjOk P w H h a o)(k:∀b u,(b=a\/H b=some (.own a))->h.get? b=some u->h'.get? b=some u)
 (ho:∀b,H b=some (.own a)->H' b=some (.own a)) (ht:∀b xs,H b=some (.tup xs)->H' b=some (.tup xs)):ObjOk P w H' h' a o:=by
 induction o with
 |lst xs=>obtain⟨z,its,n,r,e⟩:=x;exact⟨z,its,n,r,k _ _ (.inl rfl) e⟩
 |tup xs=>obtain⟨z,its,r,ob,e,c⟩:=x;exact⟨z,its,r,ob,k _ _ (.inl rfl) e,c⟩
 |dK kvs=>obtain⟨z,y,vs,r,ob,es,ep,e,c⟩:=x;exact⟨z,y,vs,r,ob,es,ep,k _ _ (.inl rfl) e,c⟩
 |dT kvs=>
  obtain⟨z,y,xs,r,ob,es,ep,e,c⟩:=x
  exact⟨z,y,xs,Paired.mapP r λp q z=>⟨z.1,ht _ _ z.2.1,z.2.2⟩,ob,es,ep,k _ _ (.inl rfl) e,c⟩
 |set S n=>obtain⟨ob,es,ep,t,e,c⟩:=x;exact⟨ob,es,ep,t,k _ _ (.inl rfl) e,c⟩
 |ins C dx fs=>
  obtain⟨d,z,ne,e,mA,⟨od,es,ep,e2,c⟩,r⟩:=x
  exact⟨ho _ d,z,ne,k _ _ (.inl rfl) e,mA,⟨od,es,ep,k _ _ (.inr d) e2,c⟩,r⟩
 |own y=>obtain⟨ob,e⟩:=x;exact⟨ob,k _ _ (.inl rfl) e⟩
 |xd fs=>obtain⟨mA,⟨od,es,ep,e,c⟩,r⟩:=x;exact⟨mA,⟨od,es,ep,k _ _ (.inl rfl) e,c⟩,r⟩
 |rng lo hi=>obtain⟨t,u,v,e⟩:=x;exact⟨t,u,v,k _ _ (.inl rfl) e⟩
 |frz ob u ih=>obtain⟨e,q⟩:=x;exact⟨k _ _ (.inl rfl) e,ih q⟩
 |tbl ps=>
  have e:h.get? a=some {cls:=.none,data:=.fields ps}:=x
  show h'.get? a=some {cls:=.none,data:=.fields ps}
  exact k a _ (.inl rfl) e
 |met f y=>
  have e:h.get? a=some (PySem.W.methodObj (.ref f) (.ref y)):=x
  show h'.get? a=some (PySem.W.methodObj (.ref f) (.ref y))
  exact k a _ (.inl rfl) e
 |ext φ=>obtain⟨p,⟨o,e⟩,st⟩:=x;exact⟨st _ _ p λo q=>k _ _ (.inl rfl) q,⟨o,k _ _ (.inl rfl) e⟩,st⟩
theorem HOk.lt(x:HOk P w H h)(e:H a=some o):a<h.objs.size:=(x a o e).lt
theorem HOk.fresh(x:HOk P w H h)(e:h.objs.size<=a):H a=none:=by
 cases q:H a with
 |none=>rfl
 |some u=>exact absurd (dM (x.lt q) e) (kM _)
theorem HOk.kept(x:HOk P w H h)(k:∀b u,h.get? b=some u->h'.get? b=some u):HOk P w H h':=λa o e=>
 (x a o e).stay (λb u _ q=>k b u q) (λ_ q=>q) λ_ _ q=>q
theorem HOk.laid(x:HOk P w H h)(k:∀b u,h.get? b=some u->h'.get? b=some u)(hp:h.objs.size<=a)(new:ObjOk P w (upd H a o) h' a o):HOk P w (upd H a o) h':=λb u e=>by
 have hn:=x.fresh hp
 by_cases hb:b=a
 ·subst hb;rw[bS]at e;cases e;exact new
 ·rw[aL hb]at e
  exact(x b u e).stay (λc v _ q=>k c v q) (λc q=>by rw[aL (hZ q hn)];exact q) λc xs q=>by rw[aL (hZ q hn)];exact q
end
noncomputable def Rd(H:Hp)(a:Addr)(u:HO):Prop:=H a=some u\/∃o,H a=some (.frz o u)
theorem Rd.ok{P:Program}{w:World}{H:Hp}{h:Heap}{a:Addr}{u:HO}(r:Rd H a u)(x:HOk P w H h):ObjOk P w H h a u:=by
 rcases r with r|⟨o,r⟩
 ·exact x a u r
 ·obtain⟨_,q⟩:=x a _ r
  exact q
noncomputable def Mut:Option HO->Prop
 |some (.lst _)=>True
 |some (.dK _)=>True
 |some (.dT _)=>True
 |some (.set _ _)=>True
 |some (.ins _ _ _)=>True
 |some (.ext _)=>True
 |_=>False
section
variable{P:Program}{w:World}{H:Hp}{h h':Heap}{x e:Addr}{o':HO}
theorem HOk.write(ok:HOk P w H h)(mu:Mut (H x))(he:e=x\/H e=some (.own x))(k:∀b u,b≠e->h.get? b=some u->h'.get? b=some u)(heo:∃u,h'.get? e=some u)
 (new:ObjOk P w (upd H x o') h' x o'):HOk P w (upd H x o') h':=λb u q=>by
 have nown:∀c y,H c=some (.own y)->c≠x:=λc y r z=>by subst z;rw[r]at mu;exact mu
 have ntup:∀c xs,H c=some (.tup xs)->c≠x:=λc xs r z=>by subst z;rw[r]at mu;exact mu
 by_cases hb:b=x
 ·subst hb;rw[bS]at q;cases q;exact new
 ·rw[aL hb]at q
  by_cases hbe:b=e
  ·have q':H b=some (.own x):=by
    rcases he with z|z
    ·exact absurd (hbe.trans z) hb
    ·rw[hbe];exact z
   rw[q]at q';cases q'
   obtain⟨v,hv⟩:=heo
   exact⟨v,by rw[hbe];exact hv⟩
  ·refine(ok b u q).stay (λc v hc r=>k c v ?_ r) (λc r=>by rw[aL (nown c b r)];exact r) λc xs r=>by rw[aL (ntup c xs r)];exact r
   rcases hc with rfl|hc
   ·exact hbe
   ·rintro rfl
    rcases he with z|z
    ·exact nown c b hc z
    ·rw[hc]at z;cases z;exact hb rfl
end
set_option genInjectivity false in
structure Un(fs ex:List Addr)(H H':Hp)(h h':Heap):Prop where
 keep:∀b o,h.get? b=some o->H b=none->b∉fs->b∉ex->h'.get? b=some o
 slot:∀b o,h.get? b=some o->H b=none->b∈fs->b∉ex->∃sl,h'.get? b=some {o with slots:=sl}
 free:∀b o,h.get? b=some o->H b=none->b∉ex->H' b=none
 there:∀b o,h.get? b=some o->b∉ex->∃o',h'.get? b=some o'
 tups:∀b xs,H b=some (.tup xs)->H' b=some (.tup xs)
 frzs:∀b o u,H b=some (.frz o u)->H' b=some (.frz o u)
 tbls:∀b ps,H b=some (.tbl ps)->∃more,H' b=some (.tbl (ps++more))
section
variable{fs fs' ex ex':List Addr}{H H1 H2:Hp}{h h1 h2 h':Heap}{a x e:Addr}{o:HO}
theorem Un.any(u:Un fs ex H H1 h h1){b:Addr}{ob:Obj}(q:h.get? b=some ob)(n:H b=none)(hx:b∉ex):∃sl,h1.get? b=some {ob with slots:=sl}:=by
 by_cases hb:b∈fs
 ·exact u.slot b ob q n hb hx
 ·exact⟨ob.slots,u.keep b ob q n hb hx⟩
theorem Un.kept(k:∀b u,h.get? b=some u->h'.get? b=some u):Un fs ex H H h h':=
 ⟨λb ob q _ _ _=>k b ob q,λb ob q _ _ _=>⟨ob.slots,k b ob q⟩,λ_ _ _ n _=>n,λb ob q _=>⟨ob,k b ob q⟩,λ_ _ q=>q,λ_ _ _ q=>q,λ_ ps q=>⟨#[],by rw[q];simp⟩⟩
theorem Un.refl:Un fs ex H H h h:=Un.kept λ_ _ q=>q
theorem Un.laid(k:∀b u,h.get? b=some u->h'.get? b=some u)(hp:h.objs.size<=a)(hn:H a=none):Un fs ex H (upd H a o) h h' where
 keep:=λb u q _ _ _=>k b u q
 slot:=λb u q _ _ _=>⟨u.slots,k b u q⟩
 free:=λb u q n _=>by rw[aL (aT (dM (Heap.lt_size q) hp))];exact n
 there:=λb u q _=>⟨u,k b u q⟩
 tups:=λb xs q=>by rw[aL (hZ q hn)];exact q
 frzs:=λb u xs q=>by rw[aL (hZ q hn)];exact q
 tbls:=λb ps q=>⟨#[],by rw[aL (hZ q hn),q];simp⟩
theorem Un.write(mu:Mut (H x))(he:e=x\/H e=some (.own x))(k:∀b u,b≠e->h.get? b=some u->h'.get? b=some u)(heo:∃u,h'.get? e=some u):Un fs ex H (upd H x o) h h':=by
 have hx:∀b,H b=none->b≠x:=λb n z=>by subst z;rw[n]at mu;exact mu
 have hb:∀b,H b=none->b≠e:=λb n z=>by
  subst z
  rcases he with r|r
  ·exact hx b n r
  ·rw[n]at r;cases r
 have hm:∀b u,H b=some u->¬Mut (some u)->b≠x:=λb u q nm z=>by subst z;rw[q]at mu;exact nm mu
 refine⟨λb u q n _ _=>k b u (hb b n) q,λb u q n _ _=>⟨u.slots,k b u (hb b n) q⟩,λb u q n _=>by rw[aL (hx b n)];exact n,λb u q _=>?_,
  λb xs q=>by rw[aL (hm b _ q λz=>z)];exact q,λb u xs q=>by rw[aL (hm b _ q λz=>z)];exact q,λb ps q=>⟨#[],by rw[aL (hm b _ q λz=>z),q];simp⟩⟩
 by_cases hbe:b=e
 ·subst hbe;exact heo
 ·exact⟨u,k b u hbe q⟩
end
noncomputable def trk(h:Heap)(H:Hp):List Addr:=(aD h.objs.size).filter λa=>(H a).isSome
noncomputable def iP(h:Heap)(H:Hp):Heap:=PySem.W.hideAll h (trk h H)
theorem Ey(h:Heap)(H:Hp):(iP h H).objs.size=h.objs.size:=PySem.W.hideAll_size _ _
theorem Ez{h:Heap}{H:Hp}{b:Addr}{o:Obj}(e:h.get? b=some o)(n:H b=none):(iP h H).get? b=some o:=
 PySem.W.hideAll_get _ e λhm=>by
  have q:(H b).isSome=true:=(cP.mp hm).2
  rw[n]at q;simp at q
theorem FA{h:Heap}{H:Hp}{b:Addr}{o:Obj}(e:(iP h H).get? b=some o):h.get? b=some o/\H b=none:=by
 have e':h.get? b=some o:=PySem.W.of_hideAll (trk h H) e
 refine⟨e',?_⟩
 cases q:H b with
 |none=>rfl
 |some x=>
  have hm:b∈trk h H:=cP.mpr ⟨bO.mpr (Heap.lt_size e'),by simp[q]⟩
  have z:(iP h H).get? b=none:=PySem.W.hideAll_none (trk h H) hm
  rw[z]at e;cases e
set_option genInjectivity false in
structure Mod(K:PySem.W.Frag)(mg:Str->Option Value)(base:Heap):Prop where
 kin:K.In base
 glob:base.Ns mainGlobals mg
 blt:∃mb,base.Ns builtinsNs mb/\∀x:Str,x ≠ "__name__" -> mb x=bootBuiltins x
 nolimit:base.NoLimit
set_option genInjectivity false in
structure Cx where
 prog:Program
 w:World
 K:PySem.W.Frag
 mg:Str->Option Value
 base:Heap
 A:Around
 N:List Str
 s₀:Shared
 H₀:Hp
 env:Env
 outer:List Env
 stack:List Env
 ex:List Addr
 fn:Str->Bool
 calm:Bool
 pn:List (Addr×Obj)
 xe:Value->Shared->Prop
noncomputable def frs(l:List Env):List Addr:=l.filterMap (·.frame)
noncomputable abbrev Cx.fs(X:Cx):List Addr:=frs X.outer
noncomputable def Vis(sc:Scope)(x:Str):Prop:=sc.names.lookup x=some .local\/sc.names.lookup x=some .cell\/sc.names.lookup x=some .free
noncomputable def Loc(sc:Scope)(x:Str):Prop:=sc.names.lookup x=some .local\/sc.names.lookup x=some .cell
noncomputable def Look(env:Env)(h:Heap)(m:Str->Option Value)(x:Str)(u:Value):Prop:=
 (env.kindOf x=some .local/\m x=some u)\/((env.kindOf x=some .cell\/env.kindOf x=some .free)/\∃c,env.cells.lookup x=some c/\h.IsCell c (some u))
set_option genInjectivity false in
structure Cx.Ok(X:Cx):Prop where
 mod:Mod X.K X.mg X.base
 kind:X.env.scope.kind=.function
 glob:X.env.globals=mainGlobals
 blt:X.env.builtins=builtinsNs
 above:X.s₀.heap.objs.size<=X.env.locals
 inj:∀x y c,X.env.cells.lookup x=some c->X.env.cells.lookup y=some c->x=y
 has:∀x,(X.env.kindOf x=some .cell\/X.env.kindOf x=some .free)->∃c,X.env.cells.lookup x=some c
 cab:∀x c,X.fn x=true->X.env.cells.lookup x=some c->X.s₀.heap.objs.size<=c
 hd:X.calm=true->X.A.handled=none
 frames:X.A.frames=some X.stack
 stk:X.stack=X.outer\/(X.stack=X.env::X.outer/\X.env.frame=some X.env.locals)
 exf:∀b∈X.ex,b≠X.env.locals/\∀x c,X.env.cells.lookup x=some c->c≠b
 bs:∀b o,X.base.get? b=some o->X.s₀.heap.get? b=some o/\X.H₀ b=none
 bsz:X.base.objs.size<=X.s₀.heap.objs.size
 noex:∀b o,X.base.get? b=some o->b∉X.ex
 exfs:∀b∈X.ex,b∉X.fs
 funs:X.s₀.heap.FunFrames X.base X.outer
 frf:∀b∈X.fs,X.H₀ b=none
set_option genInjectivity false in
structure Inv(X:Cx)(pins:List (Addr×Obj))(σ:List (Option V))(H:Hp)(s:Shared):Prop where
 ok:X.Ok
 os:s.os=X.s₀.os
 bare:AllBare s.gens
 base:Un X.fs X.ex X.H₀ H X.s₀.heap s.heap
 loc:∃m,s.heap.Ns X.env.locals m/\∀(i:Nat)(x:Str)(v:V),X.N[i]?=some x->σ[i]?=some (some v)->Vis X.env.scope x->∃u,RelV v u/\Look X.env s.heap m x u
 cell:∀x c,X.env.cells.lookup x=some c->∃v,s.heap.IsCell c v
 free:H X.env.locals=none
 freeC:∀x c,X.env.cells.lookup x=some c->H c=none
 pin:∀p∈X.pn++pins,s.heap.get? p.1=some p.2/\H p.1=none/\p.1≠X.env.locals/\p.1∉X.fs/\∀v,p.2.data≠.cell v
 hok:HOk X.prog X.w H s.heap
 len:σ.length=X.N.length
section
variable{X:Cx}{pins:List (Addr×Obj)}{σ:List (Option V)}{H H':Hp}{s:Shared}{h':Heap}
theorem Cx.Ok.nofr(ok:X.Ok){b:Addr}{o:Obj}(e:X.base.get? b=some o):b∉X.fs:=λhb=>by
 have:=(ok.funs.mem hb).1
 rw[e]at this;cases this
theorem Inv.bs(I:Inv X pins σ H s):∀b o,X.base.get? b=some o->s.heap.get? b=some o/\H b=none:=λb o e=>
 ⟨I.base.keep b o (I.ok.bs b o e).1 (I.ok.bs b o e).2 (I.ok.nofr e) (I.ok.noex b o e),I.base.free b o (I.ok.bs b o e).1 (I.ok.bs b o e).2 (I.ok.noex b o e)⟩
theorem Inv.bk(I:Inv X pins σ H s):∀b o,X.base.get? b=some o->s.heap.get? b=some o:=λb o e=>(I.bs b o e).1
theorem Inv.mod(I:Inv X pins σ H s):Mod X.K X.mg X.base:=I.ok.mod
theorem Inv.kIn(I:Inv X pins σ H s):X.K.In s.heap:=I.ok.mod.kin.keeps I.bk
theorem Inv.lt(I:Inv X pins σ H s):X.env.locals<s.heap.objs.size:=let ⟨_,hn,_⟩:=I.loc;hn.lt
theorem Inv.sz(I:Inv X pins σ H s):X.s₀.heap.objs.size<=s.heap.objs.size:=bV I.ok.above (iJ I.lt)
theorem Inv.nofs(I:Inv X pins σ H s){a:Addr}(h:s.heap.objs.size<=a):a∉X.fs:=λhb=>by
 obtain⟨_,o,ho,_⟩:=I.ok.funs.mem hb
 exact absurd (dM (Heap.lt_size ho) (bV I.sz h)) (kM _)
theorem Inv.cne(I:Inv X pins σ H s):∀x c,X.env.cells.lookup x=some c->c≠X.env.locals:=λx c e z=>by
 obtain⟨v,o,ho,hd⟩:=I.cell x c e
 obtain⟨m,⟨o',es,ep,ho',hd',_⟩,_⟩:=I.loc
 rw[z,ho']at ho;cases ho;rw[hd']at hd;cases hd
theorem Inv.funs(I:Inv X pins σ H s):s.heap.FunFrames X.base X.outer:=by
 have all:∀(l:List Env),(∀b∈frs l,b∈X.fs)->X.s₀.heap.FunFrames X.base l->s.heap.FunFrames X.base l:=by
  intro l
  induction l with
  |nil=>intro _ _;trivial
  |cons env r ih=>
   intro hs hl
   obtain⟨hk,⟨L,o,hf,hn,ho,hd⟩,hr⟩:=hl
   have hL:L∈X.fs:=hs L (by unfold frs;rw[gK,hf];exact bF)
   obtain⟨sl,e⟩:=I.base.slot L o ho (I.ok.frf L hL) hL λz=>I.ok.exfs L z hL
   exact⟨hk,⟨L,_,hf,hn,e,hd⟩,ih (λb hb=>hs b (by unfold frs;rw[gK,hf];exact bB _ hb)) hr⟩
 exact all X.outer (λ_ hb=>hb) I.ok.funs
theorem Inv.stack(I:Inv X pins σ H s):s.heap.FunFrames X.base X.stack:=by
 rcases I.ok.stk with e|⟨e,hf⟩
 ·rw[e];exact I.funs
 ·rw[e]
  obtain⟨m,hn,_⟩:=I.loc
  refine .cons (by rw[I.ok.kind];decide) hf hn ?_ I.funs
  exact Heap.get?_none_of_le (bV I.ok.bsz I.ok.above)
theorem Inv.stkSub(I:Inv X pins σ H s):∀b∈frs X.stack,b∈X.env.locals::X.fs:=λb hb=>by
 rcases I.ok.stk with e|⟨e,hf⟩
 ·rw[e]at hb;exact bB _ hb
 ·rw[e]at hb
  unfold frs at hb
  rw[gK,hf]at hb
  exact hb
theorem Inv.stkFree(I:Inv X pins σ H s):∀b∈frs X.stack,H b=none:=λb hb=>by
 rcases aO.mp (I.stkSub b hb)with e|hb
 ·rw[e];exact I.free
 ·obtain⟨_,o,ho,_⟩:=I.ok.funs.mem hb
  exact I.base.free b o ho (I.ok.frf b hb) λz=>I.ok.exfs b z hb
theorem Inv.step{g':Array GenState}{t':Nat}{d':Drawn}{ch:List Addr}(I:Inv X pins σ H s)
 (hch:∀b∈ch,(b∈X.ex\/X.s₀.heap.objs.size<=b)/\b≠X.env.locals/\(∀x c,X.env.cells.lookup x=some c->c≠b)/\∀p∈X.pn++pins,p.1≠b)
 (keep:∀b o,b≠X.env.locals->b∉X.fs->b∉ch->s.heap.get? b=some o->H b=none->h'.get? b=some o)
 (slot:∀b o,b≠X.env.locals->b∈X.fs->b∉ch->s.heap.get? b=some o->H b=none->∃sl,h'.get? b=some {o with slots:=sl}) (free:∀b o,b∉ch->s.heap.get? b=some o->H b=none->H' b=none)
 (there:∀b o,b∉ch->s.heap.get? b=some o->∃o',h'.get? b=some o')
 (tups:∀b xs,H b=some (.tup xs)->H' b=some (.tup xs)) (frzs:∀b o u,H b=some (.frz o u)->H' b=some (.frz o u)) (tbls:∀b ps,H b=some (.tbl ps)->∃more,H' b=some (.tbl (ps++more)))
 (ns:∀m,s.heap.Ns X.env.locals m->h'.Ns X.env.locals m) (hok:HOk X.prog X.w H' h') (hg:AllBare g') :
 Inv X pins σ H' {s with heap:=h',gens:=g',drawn:=d',toks:=t' }:=by
 have neL:∀b o,X.s₀.heap.get? b=some o->b≠X.env.locals:=λb o e=>aT (dM (Heap.lt_size e) I.ok.above)
 have neC:∀b o,X.s₀.heap.get? b=some o->b∉X.ex->b∉ch:=λb o e hx hb=>by
  rcases(hch b hb).1 with z|z
  ·exact hx z
  ·exact absurd (dM (Heap.lt_size e) z) (kM _)
 have cellK:∀x c,X.env.cells.lookup x=some c->∀v,s.heap.IsCell c v->h'.IsCell c v:=λx c e v ⟨o,ho,hd⟩=>by
  have nch:c∉ch:=λz=>(hch c z).2.2.1 x c e rfl
  by_cases hc:c∈X.fs
  ·obtain⟨sl,q⟩:=slot c o (I.cne x c e) hc nch ho (I.freeC x c e)
   exact⟨_,q,hd⟩
  ·exact⟨o,keep c o (I.cne x c e) hc nch ho (I.freeC x c e),hd⟩
 refine⟨I.ok,I.os,hg,⟨λb o e n hb hx=>?_,λb o e n hb hx=>?_,λb o e n hx=>?_,λb o e hx=>?_,λb xs e=>tups b xs (I.base.tups b xs e),λb o xs e=>frzs b o xs (I.base.frzs b o xs e),λb ps e=>?_⟩,?_,λx c e=>?_,?_,λx c e=>?_,λp hp=>?_,hok,I.len⟩
 ·exact keep b o (neL b o e) hb (neC b o e hx) (I.base.keep b o e n hb hx) (I.base.free b o e n hx)
 ·obtain⟨sl,e1⟩:=I.base.slot b o e n hb hx
  obtain⟨sl',e2⟩:=slot b _ (neL b o e) hb (neC b o e hx) e1 (I.base.free b o e n hx)
  exact⟨sl',e2⟩
 ·obtain⟨o',e1⟩:=I.base.there b o e hx
  exact free b o' (neC b o e hx) e1 (I.base.free b o e n hx)
 ·obtain⟨o',e1⟩:=I.base.there b o e hx
  exact there b o' (neC b o e hx) e1
 ·obtain⟨m1,e1⟩:=I.base.tbls b ps e
  obtain⟨m2,e2⟩:=tbls b _ e1
  exact⟨m1++m2,by rw[e2,Array.append_assoc]⟩
 ·obtain⟨m,hn,hl⟩:=I.loc
  refine⟨m,ns m hn,λi x v e1 e2 e3=>?_⟩
  obtain⟨u,r,l⟩:=hl i x v e1 e2 e3
  refine⟨u,r,?_⟩
  rcases l with l|⟨k,c,e,z⟩
  ·exact .inl l
  ·exact .inr ⟨k,c,e,cellK x c e _ z⟩
 ·obtain⟨v,z⟩:=I.cell x c e
  exact⟨v,cellK x c e v z⟩
 ·obtain⟨m,⟨o,_,_,ho,_⟩,_⟩:=I.loc
  exact free _ o (λz=>(hch _ z).2.1 rfl) ho I.free
 ·obtain⟨v,o,ho,hd⟩:=I.cell x c e
  exact free c o (λz=>(hch c z).2.2.1 x c e rfl) ho (I.freeC x c e)
 ·obtain⟨e,n,ne,nf,d⟩:=I.pin p hp
  have nch:p.1∉ch:=λz=>(hch p.1 z).2.2.2 p hp rfl
  exact⟨keep p.1 p.2 ne nf nch e n,free p.1 p.2 nch e n,ne,nf,d⟩
theorem Inv.un{t':Nat}(I:Inv X pins σ H s)(u:Un X.fs [] H H' s.heap h')(hok:HOk X.prog X.w H' h'):Inv X pins σ H' {s with heap:=h',toks:=t' }:=by
 obtain⟨m,⟨o,es,ep,ho,r⟩,_⟩:=id I.loc
 obtain⟨sl,hL⟩:=u.any ho I.free (by simp)
 exact I.step (g':=s.gens) (d':=s.drawn) (ch:=[]) (λ_ z=>nomatch z) (λb o _ hb _ e n=>u.keep b o e n hb (by simp)) (λb o _ hb _ e n=>u.slot b o e n hb (by simp)) (λb o _ e n=>u.free b o e n (by simp)) (λb o _ e=>u.there b o e (by simp)) u.tups u.frzs u.tbls (λm' hm=>by
  obtain⟨o',es',ep',ho',r'⟩:=hm
  rw[ho]at ho';cases ho'
  exact⟨_,es',ep',hL,r'⟩) hok I.bare
theorem Inv.call{g':Array GenState}{t':Nat}{d':Drawn}{ch:List Addr}(I:Inv X pins σ H s)(u:Un (frs X.stack) ch H H' s.heap h')(hok:HOk X.prog X.w H' h')(hg:AllBare g')
 (hch:∀b∈ch,(b∈X.ex\/X.s₀.heap.objs.size<=b)/\b≠X.env.locals/\(∀x c,X.env.cells.lookup x=some c->c≠b)/\∀p∈X.pn++pins,p.1≠b) :
 Inv X pins σ H' {s with heap:=h',gens:=g',drawn:=d',toks:=t' }:=by
 obtain⟨m,⟨o,es,ep,ho,r⟩,_⟩:=id I.loc
 obtain⟨sl,hL⟩:=u.any ho I.free λz=>(hch _ z).2.1 rfl
 exact I.step (ch:=ch) hch (λb o hL hb hc e n=>u.keep b o e n (λz=>(aO.mp (I.stkSub b z)).elim hL hb) hc) (λb o _ _ hc e n=>u.any e n hc) (λb o hc e n=>u.free b o e n hc) (λb o hc e=>u.there b o e hc) u.tups u.frzs u.tbls (λm' hm=>by
  obtain⟨o',es',ep',ho',r'⟩:=hm
  rw[ho]at ho';cases ho'
  exact⟨_,es',ep',hL,r'⟩) hok hg
theorem Inv.turned{t':Nat}{it:Addr}(I:Inv X pins σ H s)(k:∀b o,b≠it->s.heap.get? b=some o->h'.get? b=some o)(hn:H it=none)(hL:it≠X.env.locals)
 (h1:it∈X.ex\/X.s₀.heap.objs.size<=it) (h2:∀x c,X.env.cells.lookup x=some c->c≠it) (h3:∀p∈X.pn++pins,p.1≠it):Inv X pins σ H {s with heap:=h',toks:=t' }:=by
 have nit:∀b u,H b=some u->b≠it:=λb u e z=>by rw[z,hn]at e;cases e
 refine I.step (g':=s.gens) (d':=s.drawn) (ch:=[it]) (λb hb=>?_) (λb o _ _ hc e _=>k b o (λz=>hc (by simp[z])) e) (λb o _ _ hc e _=>⟨o.slots,k b o (λz=>hc (by simp[z])) e⟩) (λ_ _ _ _ n=>n)
  (λb o hc e=>⟨o,k b o (λz=>hc (by simp[z])) e⟩) (λ_ _ e=>e) (λ_ _ _ e=>e) (λb ps e=>⟨#[],by rw[e];simp⟩) (λm hm=>?_) (λb u e=>?_) I.bare
 ·have e:b=it:=by simpa using hb
  subst e
  exact⟨h1,hL,h2,h3⟩
 ·obtain⟨o,es,ep,ho,r⟩:=hm
  exact⟨o,es,ep,k _ o (Ne.symm hL) ho,r⟩
 ·refine(I.hok b u e).stay (λc v hc q=>k c v ?_ q) (λ_ q=>q) λ_ _ q=>q
  rcases hc with z|z
  ·rw[z];exact nit b u e
  ·exact nit c _ z
theorem Inv.tok(I:Inv X pins σ H s)(t:Nat):Inv X pins σ H {s with toks:=t}:=I.un (h':=s.heap) (t':=t) Un.refl I.hok
theorem Inv.kept{t':Nat}(I:Inv X pins σ H s)(k:∀b u,s.heap.get? b=some u->h'.get? b=some u):Inv X pins σ H {s with heap:=h',toks:=t' }:=I.un (Un.kept k) (I.hok.kept k)
theorem Inv.laid{a:Addr}{o:HO}{t':Nat}(I:Inv X pins σ H s)(k:∀b u,s.heap.get? b=some u->h'.get? b=some u)(hp:s.heap.objs.size<=a)(new:ObjOk X.prog X.w (upd H a o) h' a o) :
 Inv X pins σ (upd H a o) {s with heap:=h',toks:=t' }:=I.un (Un.laid k hp (I.hok.fresh hp)) (I.hok.laid k hp new)
theorem Inv.write{x e:Addr}{o:HO}{t':Nat}(I:Inv X pins σ H s)(mu:Mut (H x))(he:e=x\/H e=some (.own x))(k:∀b u,b≠e->s.heap.get? b=some u->h'.get? b=some u)(heo:∃u,h'.get? e=some u)
 (new:ObjOk X.prog X.w (upd H x o) h' x o):Inv X pins σ (upd H x o) {s with heap:=h',toks:=t' }:=I.un (Un.write mu he k heo) (I.hok.write mu he k heo new)
theorem Inv.pins_of{pins':List (Addr×Obj)}(I:Inv X pins σ H s)(h:∀p∈pins',s.heap.get? p.1=some p.2/\H p.1=none/\p.1≠X.env.locals/\p.1∉X.fs/\∀v,p.2.data≠.cell v):Inv X pins' σ H s:=
 ⟨I.ok,I.os,I.bare,I.base,I.loc,I.cell,I.free,I.freeC,λp hp=>(eY.mp hp).elim (λz=>I.pin p (Ed _ z)) (h p),I.hok,I.len⟩
theorem zQ{N:List Str}(hN:N.Nodup){i j:Nat}{x:Str}(a:N[i]?=some x)(b:N[j]?=some x):i=j:=by
 obtain⟨h1,e1⟩:=gL.mp a
 obtain⟨h2,e2⟩:=gL.mp b
 exact(L9 hN).mp (e1.trans e2.symm)
theorem zR{M:Model}{A:Around}{E:Value->Shared->Prop}{i:Nat}{x:Str}{v:V}{u:Value}{Q:Unit->Shared->Prop}(I:Inv X pins σ H s)(hN:X.N.Nodup)(hi:X.N[i]?=some x)(hx:Loc X.env.scope x)(r:RelV v u)
 (h:∀s',Inv X pins (σ.set i (some v)) H s'->(∃a,Heap.SameBut a s.heap s'.heap/\(a=X.env.locals\/X.env.cells.lookup x=some a))->Q () s') (hf:X.fn x=true\/X.env.scope.names.lookup x=some .local:=by first|exact .inl rfl|exact .inr rfl|assumption):wpAny M A (storeName X.env x u) Q E s:=by
 obtain⟨m,hn,hl⟩:=id I.loc
 have hcls:(X.env.scope.kind==.class||(X.env.scope.kind==.module&&X.env.locals != X.env.globals))=false:=by rw[I.ok.kind];rfl
 have hiσ:i<σ.length:=by rw[I.len];exact(gL.mp hi).1
 have cne:=I.cne
 have tracked:∀{a:Addr} {h':Heap},(∃o,s.heap.get? a=some o/\H a=none)->Heap.SameBut a s.heap h'->HOk X.prog X.w H h':=λ{a h'} ha hs b ob e=>by
  obtain⟨_,_,hfree⟩:=ha
  refine(I.hok b ob e).stay (λc w' hc q=>(hs.2 c ?_).trans q) (λ_ q=>q) λ_ _ q=>q
  rintro rfl
  rcases hc with rfl|hc
  ·rw[hfree]at e;cases e
  ·rw[hfree]at hc;cases hc
 rcases hx with hk|hk
 ·refine wpAny_storeName_local hk hn (λh' hn' hs=>?_) hcls
  obtain⟨oL,_,_,hoL,_⟩:=id hn
  refine h _ ⟨I.ok,I.os,I.bare,⟨λb o e n hb hx=>?_,λb o e n hb hx=>?_,I.base.free,λb o e hx=>?_,I.base.tups,I.base.frzs,I.base.tbls⟩,⟨_,hn',λj y v' e1 e2 e3=>?_⟩,λy c e=>?_,I.free,I.freeC,λp hp=>?_,tracked ⟨oL,hoL,I.free⟩ hs,by simpa using I.len⟩ ⟨_,hs,.inl rfl⟩
  ·exact(hs.2 b (aT (dM (Heap.lt_size e) I.ok.above))).trans (I.base.keep b o e n hb hx)
  ·obtain⟨sl,e1⟩:=I.base.slot b o e n hb hx
   exact⟨sl,(hs.2 b (aT (dM (Heap.lt_size e) I.ok.above))).trans e1⟩
  ·obtain⟨o',e1⟩:=I.base.there b o e hx
   exact⟨o',(hs.2 b (aT (dM (Heap.lt_size e) I.ok.above))).trans e1⟩
  ·by_cases hj:j=i
   ·subst hj
    rw[hi]at e1;cases e1
    rw[sF hiσ]at e2
    cases e2
    exact⟨u,r,.inl ⟨hk,by simp⟩⟩
   ·rw[sG (Ne.symm hj)]at e2
    obtain⟨u',r',q⟩:=hl j y v' e1 e2 e3
    refine⟨u',r',?_⟩
    rcases q with⟨k,e⟩|⟨k,c,e,z⟩
    ·refine .inl ⟨k,?_⟩
     have:y≠x:=λe=>hj (zQ hN e1 (e▸hi))
     simp[this,e]
    ·exact .inr ⟨k,c,e,z.sameBut hs (cne y c e)⟩
  ·obtain⟨w',z⟩:=I.cell y c e
   exact⟨w',z.sameBut hs (cne y c e)⟩
  ·obtain⟨e,n,ne,nf,d⟩:=I.pin p hp
   exact⟨(hs.2 p.1 ne).trans e,n,ne,nf,d⟩
 ·have hfn:X.fn x=true:=by
   rcases hf with z|z
   ·exact z
   ·rw[z]at hk;cases hk
  obtain⟨c,hc⟩:=I.ok.has x (.inl hk)
  obtain⟨w',z⟩:=I.cell x c hc
  refine wpAny_storeName_cell I.ok.kind hk hc z (λh' hc' hs=>?_)
  obtain⟨oc,hoc,hocd⟩:=id z
  refine h {s with heap:=h' } ⟨I.ok,I.os,I.bare,⟨λb o e n hb hx=>?_,λb o e n hb hx=>?_,I.base.free,λb o e hx=>?_,I.base.tups,I.base.frzs,I.base.tbls⟩,⟨m,hn.sameBut hs (Ne.symm (cne x c hc)),λj y v' e1 e2 e3=>?_⟩,λy c' e=>?_,I.free,I.freeC,λp hp=>?_,tracked ⟨oc,hoc,I.freeC x c hc⟩ hs,by simpa using I.len⟩ ⟨c,hs,.inr hc⟩
  ·exact(hs.2 b (aT (dM (Heap.lt_size e) (I.ok.cab x c hfn hc)))).trans (I.base.keep b o e n hb hx)
  ·obtain⟨sl,e1⟩:=I.base.slot b o e n hb hx
   exact⟨sl,(hs.2 b (aT (dM (Heap.lt_size e) (I.ok.cab x c hfn hc)))).trans e1⟩
  ·obtain⟨o',e1⟩:=I.base.there b o e hx
   exact⟨o',(hs.2 b (aT (dM (Heap.lt_size e) (I.ok.cab x c hfn hc)))).trans e1⟩
  ·by_cases hj:j=i
   ·subst hj
    rw[hi]at e1;cases e1
    rw[sF hiσ]at e2
    cases e2
    exact⟨u,r,.inr ⟨.inl hk,c,hc,hc'⟩⟩
   ·rw[sG (Ne.symm hj)]at e2
    obtain⟨u',r',q⟩:=hl j y v' e1 e2 e3
    refine⟨u',r',?_⟩
    rcases q with q|⟨k,c',e,z'⟩
    ·exact .inl q
    ·refine .inr ⟨k,c',e,z'.sameBut hs ?_⟩
     rintro rfl
     exact hj (zQ hN e1 (I.ok.inj _ _ _ e hc▸hi))
  ·by_cases hcc:c'=c
   ·subst hcc;exact⟨_,hc'⟩
   ·obtain⟨w2,z2⟩:=I.cell y c' e
    exact⟨w2,z2.sameBut hs hcc⟩
  ·obtain⟨e,n,ne,nf,d⟩:=I.pin p hp
   refine⟨(hs.2 p.1 ?_).trans e,n,ne,nf,d⟩
   intro q
   rw[q,hoc]at e
   have q':oc=p.2:=fS.inj e
   exact d w' (by rw[<-q'];exact hocd)
theorem zS{M:Model}{A:Around}{E:Value->Shared->Prop}{i:Nat}{x:Str}{v:V}{u:Value}{Q:Unit->Shared->Prop}(I:Inv X pins σ H s)(hN:X.N.Nodup)(hi:X.N[i]?=some x)(hx:Loc X.env.scope x)(r:RelV v u)
 (h:∀s',Inv X pins (σ.set i (some v)) H s'->Q () s') (hf:X.fn x=true\/X.env.scope.names.lookup x=some .local:=by first|exact .inl rfl|exact .inr rfl|assumption):wpAny M A (storeName X.env x u) Q E s:=
 zR I hN hi hx r (λs' I' _=>h s' I') hf
theorem Inv.call'{s':Shared}{ch:List Addr}(I:Inv X pins σ H s)(ho:s'.os=s.os)(u:Un (frs X.stack) ch H H' s.heap s'.heap)(hok:HOk X.prog X.w H' s'.heap)(hg:AllBare s'.gens)
 (hch:∀b∈ch,(b∈X.ex\/X.s₀.heap.objs.size<=b)/\b≠X.env.locals/\(∀x c,X.env.cells.lookup x=some c->c≠b)/\∀p∈X.pn++pins,p.1≠b):Inv X pins σ H' s':=by
 obtain⟨h',g',d',t',o'⟩:=s'
 have e:o'=s.os:=ho
 subst e
 exact I.call (g':=g') (t':=t') (d':=d') u hok hg hch
end
noncomputable abbrev XK:=Value->Option Addr->Hp->Prop
noncomputable abbrev St:=List (Option V)
noncomputable abbrev VK:=V->Hp->Prop
noncomputable abbrev TE:=St->Hp->VK->Prop
noncomputable abbrev TT:=St->Hp->(Bool->Hp->Prop)->Prop
noncomputable abbrev TA:=St->Hp->(List V->Hp->Prop)->Prop
set_option genInjectivity false in
structure Ends where
 nx:St->Hp->Prop
 rt:VK
 bk:St->Hp->Prop:=λ_ _=>False
 ct:St->Hp->Prop:=λ_ _=>False
noncomputable abbrev TS:=Ends->St->Hp->Prop
noncomputable def EP(X:Cx)(pins:List (Addr×Obj))(σ:St)(Q:VK)(u:Value)(s':Shared):Prop:=∃v H',Inv X pins σ H' s'/\RelV v u/\Q v H'
noncomputable def TP(X:Cx)(pins:List (Addr×Obj))(σ:St)(Q:Bool->Hp->Prop)(b:Bool)(s':Shared):Prop:=∃H',Inv X pins σ H' s'/\Q b H'
noncomputable def AP(X:Cx)(pins:List (Addr×Obj))(σ:St)(Q:List V->Hp->Prop)(us:List Value)(s':Shared):Prop:=∃vs H',Inv X pins σ H' s'/\Vals vs us/\Q vs H'
noncomputable def SP(X:Cx)(pins:List (Addr×Obj))(D:Ends)(f:Flow)(s':Shared):Prop:=
 match f with
 |.next=>∃σ' H',Inv X pins σ' H' s'/\D.nx σ' H'
 |.brk=>∃σ' H',Inv X pins σ' H' s'/\D.bk σ' H'
 |.cont=>∃σ' H',Inv X pins σ' H' s'/\D.ct σ' H'
 |.ret u=>∃v σ' H',Inv X pins σ' H' s'/\RelV v u/\D.rt v H'
noncomputable def PE(X:Cx)(e:Expr)(t:TE):Prop:=
 ∀(pins:List (Addr×Obj))(s:Shared)(σ:St)(H:Hp)(Q:VK),Inv X pins σ H s->t σ H Q->wpAny (model X.prog X.w) X.A (eval e X.env) (EP X pins σ Q) X.xe s
noncomputable def PT(X:Cx)(e:Expr)(t:TT):Prop:=
 ∀(pins:List (Addr×Obj))(s:Shared)(σ:St)(H:Hp)(Q:Bool->Hp->Prop),Inv X pins σ H s->t σ H Q->wpAny (model X.prog X.w) X.A (isTrue e X.env (eval e X.env)) (TP X pins σ Q) X.xe s
noncomputable def PW(X:Cx)(e:Expr)(t:TT):Prop:=
 ∀(whole:Sem Value)(pins:List (Addr×Obj))(s:Shared)(σ:St)(H:Hp)(Q:Bool->Hp->Prop),Inv X pins σ H s->t σ H Q->wpAny (model X.prog X.w) X.A (isTrue e X.env whole) (TP X pins σ Q) X.xe s
theorem PW.pt{X:Cx}{e:Expr}{t:TT}(h:PW X e t):PT X e t:=h _
noncomputable def PA(X:Cx)(es:List Expr)(t:TA):Prop:=
 ∀(pos:Pos)(pins:List (Addr×Obj))(s:Shared)(σ:St)(H:Hp)(Q:List V->Hp->Prop),Inv X pins σ H s->t σ H Q->wpAny (model X.prog X.w) X.A (spliced (backTo pos (starEach es X.env))) (AP X pins σ Q) X.xe s
noncomputable def PS(X:Cx)(st:Stmt)(t:TS):Prop:=
 ∀(pins:List (Addr×Obj))(s:Shared)(σ:St)(H:Hp)(D:Ends),Inv X pins σ H s->t D σ H->wpAny (model X.prog X.w) X.A (exec st X.env) (SP X pins D) X.xe s
noncomputable def PSs(X:Cx)(st:List Stmt)(t:TS):Prop:=
 ∀(pins:List (Addr×Obj))(s:Shared)(σ:St)(H:Hp)(D:Ends),Inv X pins σ H s->t D σ H->wpAny (model X.prog X.w) X.A (execs st X.env) (SP X pins D) X.xe s
theorem thn{α:Type}{t:Sem α}{Q Q':α->Shared->Prop}{M:Model}{A:Around}{E:Value->Shared->Prop}{s:Shared}(h:wpAny M A t Q E s)(hQ:∀a s,Q a s->Q' a s):wpAny M A t Q' E s:=wpAny_mono h hQ λ_ _ x=>x
section
variable{X:Cx}
theorem bin{a b:Expr}{ta tb:TE}(ha:PE X a ta)(hb:PE X b tb){pins:List (Addr×Obj)}{s:Shared}{σ:St}{H:Hp}{R:V->V->Hp->Prop}(I:Inv X pins σ H s)(h:ta σ H λx H1=>tb σ H1 λy H2=>R x y H2)
 {α:Type} {Q:α->Shared->Prop} {f:Value->Value->Sem α}
 (hf:∀v u s2 x y H2,Inv X pins σ H2 s2->RelV x v->RelV y u->R x y H2->wpAny (model X.prog X.w) X.A (f v u) Q X.xe s2) :
 wpAny (model X.prog X.w) X.A (eval a X.env) (λv s₁=>wpAny (model X.prog X.w) X.A (eval b X.env) (λu s₂=>wpAny (model X.prog X.w) X.A (f v u) Q X.xe s₂) X.xe s₁) X.xe s:=by
 refine thn (ha pins s σ H _ I h) λv s1 ⟨x,H1,I1,r1,q1⟩=>?_
 refine thn (hb pins s1 σ H1 _ I1 q1) λu s2 ⟨y,H2,I2,r2,q2⟩=>?_
 exact hf v u s2 x y H2 I2 r1 r2 q2
noncomputable def tVar(i:Nat):TE:=λσ H Q=>∃v,σ[i]?=some (some v)/\Q v H
noncomputable def tC(v:V):TE:=λ_ H Q=>Q v H
theorem fA {i:Nat} {x:Str} {pos:Pos} (hN:X.N[i]?=some x) (hv:Vis X.env.scope x) (hd:(x==("__debug__" : Str))=false:=by decide) (hcd:(x==("__classdict__" : Str))=false:=by decide):PE X (.Name x pos) (tVar i):=by
 intro pins s σ H Q I h
 obtain⟨v,e,h⟩:=h
 obtain⟨m,hn,hl⟩:=I.loc
 obtain⟨u,r,l⟩:=hl i x v hN e hv
 have fin:EP X pins σ Q u s:=⟨v,H,I,r,h⟩
 rcases l with⟨hk,hm⟩|⟨hk,c,hc,hcell⟩
 ·exact wpAny_Name (wpAny_loadName_local I.ok.kind hk hn hm fin) hd
 ·rcases hk with hk|hk
  ·exact wpAny_Name (wpAny_loadName_cell I.ok.kind hk hc hcell fin) hd
  ·exact wpAny_Name (wpAny_loadName_free I.ok.kind hk hc hcell fin hcd) hd
theorem pe_int{i j pos}:PE X (.Constant (.int i) j pos) (tC (.int i)):=λ_ _ _ H _ I h=>wpAny_Constant_int ⟨.int i,H,I.tok _,⟨_,rfl⟩,h⟩
theorem pe_bl{b j pos}:PE X (.Constant (.bool b) j pos) (tC (.bl b)):=λ_ _ _ H _ I h=>Constant_bool ⟨.bl b,H,I,rfl,h⟩
theorem pe_non{j pos}:PE X (.Constant .none j pos) (tC .non):=λ_ _ _ H _ I h=>Constant_none ⟨.non,H,I,rfl,h⟩
theorem pe_str{x j pos}:PE X (.Constant (.str x) j pos) (tC (.str x)):=λ_ _ _ H _ I h=>Calls.Constant_str ⟨.str x,H,I.tok _,⟨_,rfl⟩,h⟩
noncomputable def Gl(X:Cx)(x:Str):Prop:=X.env.kindOf x=some .globalImplicit
theorem sV{E:Value->Shared->Prop}{pins:List (Addr×Obj)}{s:Shared}{σ:St}{H:Hp}{x:Str}{u:Value}{pos:Pos}{Q:Value->Shared->Prop}(I:Inv X pins σ H s)(hg:Gl X x)(hm:X.mg x=some u)(h:Q u s)
 (hd:(x==("__debug__" : Str))=false:=by decide):wpAny (model X.prog X.w) X.A (eval (.Name x pos) X.env) Q E s:=
 Calls.Name_function_global I.ok.kind hg (Calls.loadGlobal_global (by rw[I.ok.glob];exact I.mod.glob.keeps I.bk) hm h) hd
theorem jU{E:Value->Shared->Prop}{pins:List (Addr×Obj)}{s:Shared}{σ:St}{H:Hp}{x:Str}{u:Value}{pos:Pos}{Q:Value->Shared->Prop}(I:Inv X pins σ H s)(hg:Gl X x)(hm:X.mg x=none)(hv:bootBuiltins x=some u)(h:Q u s)
 (hn:x ≠ "__name__" := by decide) (hd:(x==("__debug__" : Str))=false:=by decide):wpAny (model X.prog X.w) X.A (eval (.Name x pos) X.env) Q E s:=by
 obtain⟨mb,h1,h2⟩:=I.mod.blt
 exact Calls.Name_function_global I.ok.kind hg (Calls.loadGlobal_builtin (by rw[I.ok.glob];exact I.mod.glob.keeps I.bk) hm (by rw[I.ok.blt];exact h1.keeps I.bk) ((h2 x hn).trans hv) h) hd
theorem FB {x:Str} {v:V} {u:Value} {pos:Pos} (hg:Gl X x) (hm:X.mg x=some u) (r:RelV v u) (hd:(x==("__debug__" : Str))=false:=by decide):PE X (.Name x pos) (tC v):=
 λ_ _ _ H _ I h=>sV I hg hm ⟨v,H,I,r,h⟩ hd
theorem FC {x:Str} {v:V} {u:Value} {pos:Pos} (hg:Gl X x) (hm:X.mg x=none) (hv:bootBuiltins x=some u) (r:RelV v u) (hn:x ≠ "__name__" := by decide) (hd:(x==("__debug__" : Str))=false:=by decide):PE X (.Name x pos) (tC v):=
 λ_ _ _ H _ I h=>jU I hg hm hv ⟨v,H,I,r,h⟩ hn hd
variable{a b:Expr}{ta tb:TE}{pos:Pos}
variable{tA tB':TT}{rest:List Expr}
noncomputable def tAnd(t u:TT):TT:=λσ H Q=>t σ H λc H1=>if c=true then u σ H1 Q else Q false H1
noncomputable def tOr(t u:TT):TT:=λσ H Q=>t σ H λc H1=>if c=true then Q true H1 else u σ H1 Q
noncomputable def tNot(t:TT):TT:=λσ H Q=>t σ H λc H1=>Q (!c) H1
theorem FD(ha:PT X a tA):PW X (.BoolOp .And [a] pos) tA:=by
 intro wh pins s σ H Q I h
 refine isTrue_and (thn (ha pins s σ H Q I h) λc s1 e=>?_)
 cases c with
 |true=>exact isTrue_and_nil e
 |false=>exact e
theorem zT(ha:PT X a tA):PW X (.BoolOp .Or [a] pos) tA:=by
 intro wh pins s σ H Q I h
 refine isTrue_or (thn (ha pins s σ H Q I h) λc s1 e=>?_)
 cases c with
 |false=>exact isTrue_or_nil e
 |true=>exact e
theorem pw_and(ha:PT X a tA)(hb:PW X (.BoolOp .And (b::rest) pos) tB'):PW X (.BoolOp .And (a::b::rest) pos) (tAnd tA tB'):=by
 intro wh pins s σ H Q I h
 refine isTrue_and (thn (ha pins s σ H _ I h) λc s1 ⟨H1,I1,q1⟩=>?_)
 cases c with
 |true=>exact hb wh pins s1 σ H1 Q I1 q1
 |false=>exact⟨H1,I1,q1⟩
theorem zU(ha:PT X a tA)(hb:PW X (.BoolOp .Or (b::rest) pos) tB'):PW X (.BoolOp .Or (a::b::rest) pos) (tOr tA tB'):=by
 intro wh pins s σ H Q I h
 refine isTrue_or (thn (ha pins s σ H _ I h) λc s1 ⟨H1,I1,q1⟩=>?_)
 cases c with
 |true=>exact⟨H1,I1,q1⟩
 |false=>exact hb wh pins s1 σ H1 Q I1 q1
theorem zV(ha:PT X a tA):PT X (.UnaryOp .Not a pos) (tNot tA):=by
 intro pins s σ H Q I h
 exact isTrue_not (ha pins s σ H (λc H1=>Q (!c) H1) I h)
theorem pe_one{op}{t:TE}(h:PE X a t):PE X (.BoolOp op [a] pos) t:=λpins s σ H Q I hw=>BoolOp_one (h pins s σ H Q I hw)
noncomputable def tIf(t:TT)(ta tb:TE):TE:=λσ H Q=>t σ H λc H1=>if c=true then ta σ H1 Q else tb σ H1 Q
theorem FE{c:Expr}(hc:PT X c tA)(ha:PE X a ta)(hb:PE X b tb):PE X (.IfExp c a b pos) (tIf tA ta tb):=by
 intro pins s σ H Q I h
 refine wpAny_IfExp (thn (hc pins s σ H _ I h) λd s1 ⟨H1,I1,q1⟩=>?_)
 cases d with
 |true=>exact ha pins s1 σ H1 Q I1 q1
 |false=>exact hb pins s1 σ H1 Q I1 q1
end
noncomputable def SqL(K:PySem.W.Frag)(H:Hp)(a:Addr)(xs:List V):Prop:=
 Rd H a (.lst xs) \/
  ∃(o:Obj) (its:Array Value) (n:Nat),K.lookup a=some o/\o.cls=.type "list" /\ o.dict=none/\o.data=.seq its n/\its.size<=sizeLine/\Vals xs its.toList
noncomputable def SqT(K:PySem.W.Frag)(H:Hp)(a:Addr)(xs:List V):Prop:=
 Rd H a (.tup xs) \/
  ∃(o:Obj) (its:Array Value) (n:Nat),K.lookup a=some o/\o.cls=.type "tuple" /\ o.data=.seq its n/\its.size<=sizeLine/\Vals xs its.toList
noncomputable def absV:Value->Option V
 |.none=>some .non
 |.bool b=>some (.bl b)
 |.int i _=>some (.int i)
 |.str x _=>some (.str x)
 |.bytes b _=>some (.byt b)
 |.float b _=>some (.flt b)
 |.ref a=>some (.ref a)
 |.type n=>some (.ty n)
 |_=>none
theorem RelV.abs{x:V}{u:Value}(r:RelV x u):absV u=some x:=by
 cases x with
 |non=>cases r;rfl
 |bl _=>cases r;rfl
 |int _=>obtain⟨t,rfl⟩:=r;rfl
 |str _=>obtain⟨t,rfl⟩:=r;rfl
 |byt _=>obtain⟨t,rfl⟩:=r;rfl
 |flt _=>obtain⟨t,rfl⟩:=r;rfl
 |ref _=>cases r;rfl
 |ty _=>cases r;rfl
theorem RelV.inj{x y:V}{u:Value}(r:RelV x u)(q:RelV y u):x=y:=fS.inj (r.abs.symm.trans q.abs)
theorem Vals.inj:∀{xs ys:List V} {us:List Value},Vals xs us->Vals ys us->xs=ys
 |_,_,_,.nil,.nil=>rfl
 |_,_,_,.cons r t,.cons r' t'=>by rw[r.inj r',Vals.inj t t']
section
variable{X:Cx}{pins:List (Addr×Obj)}{σ:St}{H:Hp}{s:Shared}{a:Addr}{xs ys:List V}
theorem SqL.of{K:PySem.W.Frag}(h:H a=some (.lst xs)):SqL K H a xs:=.inl (.inl h)
theorem Inv.list(I:Inv X pins σ H s)(h:SqL X.K H a xs):∃its:List Value,Vals xs its/\PlainL s.heap a its.toArray/\xs.length<=sizeLine:=by
 rcases h with h|⟨o,its,n,hk,hc,hd,hs,hz,r⟩
 ·obtain⟨z,its,n,r,e⟩:=h.ok I.hok
  exact⟨its,r,⟨_,n,e,rfl,rfl,rfl⟩,z⟩
 ·refine⟨its.toList,r,⟨o,n,I.kIn a o hk,hc,hd,by simpa using hs⟩,?_⟩
  have e:=r.length
  simp only[jP]at e
  lia
theorem Inv.tuple(I:Inv X pins σ H s)(h:SqT X.K H a xs):∃its:List Value,Vals xs its/\IsTup s.heap a its.toArray/\xs.length<=sizeLine:=by
 rcases h with h|⟨o,its,n,hk,hc,hs,hz,r⟩
 ·obtain⟨z,its,r,p⟩:=h.ok I.hok
  exact⟨its,r,p,z⟩
 ·refine⟨its.toList,r,⟨o,I.kIn a o hk,hc,n,by simpa using hs⟩,?_⟩
  have e:=r.length
  simp only[jP]at e
  lia
theorem Inv.list_inj(I:Inv X pins σ H s)(h:SqL X.K H a xs)(h':SqL X.K H a ys):xs=ys:=by
 obtain⟨its,r,⟨o,n,e,_,_,d⟩,_⟩:=I.list h
 obtain⟨its',r',⟨o',n',e',_,_,d'⟩,_⟩:=I.list h'
 rw[e]at e';cases e'
 rw[d]at d'
 injection d' with d1 _
 have:its=its':=by simpa using congrArg Array.toList d1
 subst this
 exact r.inj r'
theorem Inv.tuple_inj(I:Inv X pins σ H s)(h:SqT X.K H a xs)(h':SqT X.K H a ys):xs=ys:=by
 obtain⟨its,r,⟨o,e,_,n,d⟩,_⟩:=I.tuple h
 obtain⟨its',r',⟨o',e',_,n',d'⟩,_⟩:=I.tuple h'
 rw[e]at e';cases e'
 rw[d]at d'
 injection d' with d1 _
 have:its=its':=by simpa using congrArg Array.toList d1
 subst this
 exact r.inj r'
end
noncomputable abbrev Cx.wish(X:Cx)(E:Value->Shared->Prop):Cx:={X with xe:=E}
noncomputable abbrev Cx.nox(X:Cx):Cx:=X.wish λ_ _=>False
theorem Cx.Ok.wish{X:Cx}(ok:X.Ok)(E:Value->Shared->Prop):(X.wish E).Ok:=
 ⟨ok.mod,ok.kind,ok.glob,ok.blt,ok.above,ok.inj,ok.has,ok.cab,ok.hd,ok.frames,ok.stk,ok.exf,ok.bs,ok.bsz,ok.noex,ok.exfs,ok.funs,ok.frf⟩
theorem Cx.Ok.unwish{X:Cx}{E:Value->Shared->Prop}(ok:(X.wish E).Ok):X.Ok:=
 ⟨ok.mod,ok.kind,ok.glob,ok.blt,ok.above,ok.inj,ok.has,ok.cab,ok.hd,ok.frames,ok.stk,ok.exf,ok.bs,ok.bsz,ok.noex,ok.exfs,ok.funs,ok.frf⟩
section
variable{X:Cx}{pins:List (Addr×Obj)}{σ:St}{H:Hp}{s:Shared}{E:Value->Shared->Prop}
theorem Inv.wish(I:Inv X pins σ H s)(E:Value->Shared->Prop):Inv (X.wish E) pins σ H s:=⟨I.ok.wish E,I.os,I.bare,I.base,I.loc,I.cell,I.free,I.freeC,I.pin,I.hok,I.len⟩
theorem Inv.unwish(I:Inv (X.wish E) pins σ H s):Inv X pins σ H s:=⟨I.ok.unwish,I.os,I.bare,I.base,I.loc,I.cell,I.free,I.freeC,I.pin,I.hok,I.len⟩
theorem SP.unwish{D:Ends}{f:Flow}{s':Shared}(h:SP (X.wish E) pins D f s'):SP X pins D f s':=by
 cases f with
 |next=>obtain⟨σ',H',I,q⟩:=h;exact⟨σ',H',I.unwish,q⟩
 |brk=>obtain⟨σ',H',I,q⟩:=h;exact⟨σ',H',I.unwish,q⟩
 |cont=>obtain⟨σ',H',I,q⟩:=h;exact⟨σ',H',I.unwish,q⟩
 |ret u=>obtain⟨v,σ',H',I,r,q⟩:=h;exact⟨v,σ',H',I.unwish,r,q⟩
theorem PSs.nox{st:List Stmt}{t:TS}(h:PSs X.nox st t):PSs X st t:=λpins s σ H D I hw=>
 wpAny_mono (h pins s σ H D (I.wish _) hw) (λ_ _ q=>q.unwish) λ_ _ z=>False.elim z
end
section
variable{X:Cx}{st:Stmt}{rest:List Stmt}{t u:TS}{e:Expr}{te:TE}{pos:Pos}
noncomputable def tNext:TS:=λD σ H=>D.nx σ H
noncomputable def tSeq(t u:TS):TS:=λD σ H=>t {D with nx:=u D} σ H
theorem FF:PSs X [] tNext:=λ_ _ σ H _ I h=>wpAny_execs_nil ⟨σ,H,I,h⟩
theorem FG(h1:PS X st t)(h2:PSs X rest u):PSs X (st::rest) (tSeq t u):=by
 intro pins s σ H D I h
 refine wpAny_execs_cons (thn (h1 pins s σ H {D with nx:=u D} I h) λf s1 q=>?_)
 cases f with
 |next=>
  obtain⟨σ',H',I',q⟩:=q
  exact h2 pins s1 σ' H' D I' q
 |ret v=>exact q
 |brk=>exact q
 |cont=>exact q
theorem Inv.quiet{pins:List (Addr×Obj)}{σ:St}{H:Hp}{s:Shared}(I:Inv X pins σ H s):interactive X.env=false:=by simp[interactive,I.ok.kind]
noncomputable def tDrop(te:TE):TS:=λD σ H=>te σ H λ_ H1=>D.nx σ H1
theorem lX(he:PE X e te)(hs:swapsWith e none pos.line X.env=pure false:=by rfl):PS X (.Expr e pos) (tDrop te):=by
 intro pins s σ H D I h
 exact wpAny_Expr_any (thn (he pins s σ H _ I h) λv s1 ⟨x,H1,I1,r1,q1⟩=>⟨σ,H1,I1,q1⟩) I.quiet hs
noncomputable def tRet(te:TE):TS:=λD σ H=>te σ H D.rt
theorem oD(he:PE X e te):PS X (.Return (some e) pos) (tRet te):=by
 intro pins s σ H D I h
 exact wpAny_Return_some (thn (he pins s σ H _ I h) λv s1 ⟨x,H1,I1,r1,q1⟩=>⟨x,σ,H1,I1,r1,q1⟩)
noncomputable def tIfS(c:TT)(t u:TS):TS:=λD σ H=>c σ H λb H1=>if b=true then t D σ H1 else u D σ H1
theorem sW{c:Expr}{a b:List Stmt}{tc:TT}(hc:PT X c tc)(ha:PSs X a t)(hb:PSs X b u):PS X (.If c a b pos) (tIfS tc t u):=by
 intro pins s σ H D I h
 refine wpAny_If (thn (hc pins s σ H _ I h) λd s1 ⟨H1,I1,q1⟩=>?_)
 cases d with
 |true=>exact ha pins s1 σ H1 D I1 q1
 |false=>exact hb pins s1 σ H1 D I1 q1
noncomputable def tNever:TS:=λ_ _ _=>False
theorem sX:PS X st tNever:=λ_ _ _ _ _ _ h=>h.elim
end
noncomputable abbrev TG:=V->St->Hp->(St->Hp->Prop)->Prop
noncomputable abbrev TGs:=List V->St->Hp->(St->Hp->Prop)->Prop
noncomputable def PG(X:Cx)(target:Expr)(t:TG):Prop:=
 ∀(pins:List (Addr×Obj))(s:Shared)(σ:St)(H:Hp)(v:V)(u:Value)(Q:St->Hp->Prop),Inv X pins σ H s->RelV v u->t v σ H Q ->
  wpAny (model X.prog X.w) X.A (assign target X.env u) (λ_ s'=>∃σ' H',Inv X pins σ' H' s'/\Q σ' H') X.xe s
noncomputable def PGs(X:Cx)(ts:List Expr)(t:TGs):Prop:=
 ∀(pins:List (Addr×Obj))(s:Shared)(σ:St)(H:Hp)(vs:List V)(us:List Value)(Q:St->Hp->Prop),Inv X pins σ H s->Vals vs us->t vs σ H Q ->
  wpAny (model X.prog X.w) X.A (assignInOrder ((assignEach ts X.env).map (·.2)) us) (λ_ s'=>∃σ' H',Inv X pins σ' H' s'/\Q σ' H') X.xe s
noncomputable abbrev TSet:=V->V->V->Hp->(Hp->Prop)->Prop
noncomputable def PSet(X:Cx)(t:TSet):Prop:=
 ∀(pins:List (Addr×Obj))(s:Shared)(σ:St)(H:Hp)(o i v:V)(ov iv u:Value)(Q:Hp->Prop),Inv X pins σ H s->RelV o ov->RelV i iv->RelV v u->t o i v H Q ->
  wpAny (model X.prog X.w) X.A (setItem ov iv u) (λ_ s'=>∃H',Inv X pins σ H' s'/\Q H') X.xe s
section
variable{X:Cx}{pos:Pos}
noncomputable def zW(i:Nat):TG:=λv σ H Q=>Q (σ.set i (some v)) H
theorem zX{i:Nat}{x:Str}(hN:X.N.Nodup)(hi:X.N[i]?=some x)(hx:Loc X.env.scope x)(hf:X.fn x=true\/X.env.scope.names.lookup x=some .local:=by first|exact .inl rfl|exact .inr rfl|assumption):PG X (.Name x pos) (zW i):=by
 intro pins s σ H v u Q I r h
 exact wpAny_assign_Name (zS I hN hi hx r (λs' I'=>⟨_,H,I',h⟩) hf)
noncomputable def gNil:TGs:=λvs σ H Q=>vs=[]/\Q σ H
noncomputable def gCons(t:TG)(u:TGs):TGs:=λvs σ H Q=>∃v r,vs=v::r/\t v σ H λσ' H'=>u r σ' H' Q
theorem FH:PGs X [] gNil:=by
 intro pins s σ H vs us Q I r h
 obtain⟨e,h⟩:=h
 subst e
 cases r
 exact assignInOrder_nil ⟨σ,H,I,h⟩
theorem FI{e:Expr}{es:List Expr}{t:TG}{u:TGs}(h1:PG X e t)(h2:PGs X es u)
 (hs:(assignEach (e::es) X.env).map (·.2)=assign e X.env::(assignEach es X.env).map (·.2):=by rfl):PGs X (e::es) (gCons t u):=by
 intro pins s σ H vs us Q I r h
 obtain⟨v,vr,e1,h⟩:=h
 subst e1
 cases r with
 |cons r rr=>
  rw[hs]
  refine assignInOrder_cons (thn (h1 pins s σ H _ _ _ I r h) λ_ s1 ⟨σ1,H1,I1,q1⟩=>?_)
  exact h2 pins s1 σ1 H1 _ _ Q I1 rr q1
noncomputable def gTup(K:PySem.W.Frag)(n:Nat)(t:TGs):TG:=λv σ H Q=>∃a xs,v=.ref a/\SqT K H a xs/\xs.length=n/\t xs σ H Q
theorem pg_tup{es:List Expr}{k:Nat}{t:TGs}{n:Nat}(hc:X.calm=true)(h:PGs X es t)
 (hn:(assignEach es X.env).length=n:=by rfl) (hst:(assignEach es X.env).findIdx? (·.1)=none:=by rfl):PG X (.Tuple es k pos) (gTup X.K n t):=by
 intro pins s σ H v u Q I r hw
 obtain⟨a,xs,e1,hq,hl,hw⟩:=hw
 subst e1
 cases r
 obtain⟨its,rv,ht,hz⟩:=I.tuple hq
 refine assign_Tuple_tuple (I.ok.hd hc) ht (by simp[hn,<-hl,rv.length]) hst λh' hx=>?_
 have I1:Inv X pins σ H {s with heap:=h' }:=I.kept (t':=s.toks) λb o e=>hx b o (aT (Heap.lt_size e)) e
 exact h pins _ σ H xs _ Q I1 (by simpa using rv) hw
noncomputable def tAsg(te:TE)(g:TG):TS:=λD σ H=>te σ H λx H1=>g x σ H1 D.nx
theorem ps_asg{tg e:Expr}{te:TE}{g:TG}(he:PE X e te)(hg:PG X tg g)(hs:swapsWithSole [tg] e pos.line X.env=pure false:=by rfl)(hw:swappedStores [tg] e X.env=pure none:=by rfl)
 (h1:(assignEach [tg] X.env).map (·.2)=[assign tg X.env]:=by rfl):PS X (.Assign [tg] e pos) (tAsg te g):=by
 intro pins s σ H D I h
 refine wpAny_Assign_stores (thn (he pins s σ H _ I h) λv s1 ⟨x,H1,I1,r1,q1⟩=>?_) hs hw
 rw[h1]
 exact thn (hg pins s1 σ H1 x v _ I1 r1 q1) λ_ s2 q=>q
theorem jV{i:Nat}{x:Str}{e:Expr}{te:TE}{pos':Pos}(hN:X.N.Nodup)(hi:X.N[i]?=some x)(hx:Loc X.env.scope x)(he:PE X e te)(hs:swapsWith e (some (.Name x pos')) pos.line X.env=pure false:=by rfl)(hf:X.fn x=true\/X.env.scope.names.lookup x=some .local:=by first|exact .inl rfl|exact .inr rfl|assumption) :
 PS X (.Assign [.Name x pos'] e pos) (tAsg te (zW i)):=by
 intro pins s σ H D I h
 refine wpAny_Assign_Name (thn (he pins s σ H _ I h) λv s1 ⟨y,H1,I1,r1,q1⟩=>?_) hs
 exact zS I1 hN hi hx r1 (λs2 I2=>⟨_,H1,I2,q1⟩) hf
end
section
variable{X:Cx}{pos:Pos}
end
set_option genInjectivity false in
structure It where
 go:Nat->Hp->Prop
 yld:Nat->Hp->V->Hp->Prop
 stop:Nat->Hp->Prop
noncomputable def gO(X:Cx)(pins:List (Addr×Obj))(H:Hp)(b:Addr):Prop:=
 H b=none/\b≠X.env.locals/\b∉X.fs/\(b∈X.ex\/X.s₀.heap.objs.size<=b)/\(∀x c,X.env.cells.lookup x=some c->c≠b)/\∀p∈X.pn++pins,p.1≠b
theorem Inv.fpOk{X:Cx}{pins:List (Addr×Obj)}{σ:St}{H H':Hp}{s:Shared}{b:Addr}(I:Inv X pins σ H s)(hb:s.heap.objs.size<=b)(hn:H' b=none):gO X pins H' b:=by
 refine⟨hn,iK (dM I.lt hb),I.nofs hb,.inr (bV I.sz hb),λx c e z=>?_,λp hp z=>?_⟩
 ·obtain⟨v,q⟩:=I.cell x c e
  exact absurd (dM q.lt (by rw[z];exact hb)) (kM _)
 ·exact absurd (dM (Heap.lt_size (I.pin p hp).1) (by rw[z];exact hb)) (kM _)
set_option genInjectivity false in
structure Turn(P:Program)(w:World)(K:PySem.W.Frag)(tg:Expr)(J:It)(fp:List Addr)(it:Addr)(tn:Nat->Heap->Prop):Prop where
 mem:it∈fp
 obj:∀i h,tn i h->∀b∈fp,∃o,h.get? b=some o/\∀v,o.data≠.cell v
 keep:∀i h h',tn i h->(∀b∈fp,∀o,h.get? b=some o->h'.get? b=some o)->tn i h'
 item:∀(X:Cx),X.prog=P->X.w=w->X.K=K->X.calm=true->∀(i:Nat)(pins:List (Addr×Obj))(s:Shared)(σ:St)(H:Hp)(E:Value->Shared->Prop),Inv X pins σ H s->(∀b∈fp,gO X pins H b)->tn i s.heap->J.go i H ->
  wpAny (model P w) X.A (pyNext (.ref it)) (λr s1=>∃u,r=some u /\
   wpAny (model P w) X.A (letOwnedTupleGo tg (.ref it) u) (λ_ s2=>∃x H',Inv X pins σ H' s2/\RelV x u/\J.yld i H x H'/\tn (i+1) s2.heap/\∀b∈fp,H' b=none) E s1) E s
 done:∀(X:Cx),X.prog=P->X.w=w->X.K=K->X.calm=true->∀(i:Nat)(pins:List (Addr×Obj))(s:Shared)(σ:St)(H:Hp)(E:Value->Shared->Prop),Inv X pins σ H s->(∀b∈fp,gO X pins H b)->tn i s.heap->J.stop i H ->
  wpAny (model P w) X.A (pyNext (.ref it)) (λr s1=>r=none/\Inv X pins σ H s1) E s
 self:∀(A:Around)(i:Nat)(s:Shared)(Q:Value->Shared->Prop)(E:Value->Shared->Prop),tn i s.heap->Q (.ref it) s->wpAny (model P w) A (pyIter (.ref it)) Q E s
noncomputable abbrev TI:=St->Hp->(It->Hp->Prop)->Prop
noncomputable def PIE(X:Cx)(pins:List (Addr×Obj))(σ:St)(tg:Expr)(R:It->Hp->Prop)(itv:Value)(s2:Shared):Prop:=
 ∃(it:Addr)(fp:List Addr)(tn:Nat->Heap->Prop)(J:It)(H':Hp),itv=.ref it/\Inv X pins σ H' s2/\Turn X.prog X.w X.K tg J fp it tn/\tn 0 s2.heap/\(∀b∈fp,gO X pins H' b)/\R J H'
noncomputable def PI(X:Cx)(tg iter:Expr)(wi:TI):Prop:=
 ∀(pins:List (Addr×Obj))(s:Shared)(σ:St)(H:Hp)(R:It->Hp->Prop),Inv X pins σ H s->wi σ H R ->
  wpAny (model X.prog X.w) X.A (eval iter X.env) (λv s1=>wpAny (model X.prog X.w) X.A (pyIter v) (PIE X pins σ tg R) X.xe s1) X.xe s
theorem lY{M:Model}{A:Around}{E:Value->Shared->Prop}{s:Shared}{tg:Expr}{it:Addr}{u:Value}{o:Obj}{n:String}{vs:Array Value}{Q:Unit->Shared->Prop}(ho:s.heap.get? it=some o)(hc:o.cls=.type n)(hd:o.data=.fields vs)
 (hn:["enumerate", "zip", "dict_itemiterator", "dict_reverseitemiterator", "odict_iterator", "itertools.zip_longest", "itertools.pairwise"].contains n=false) (hQ:Q () s):wpAny M A (letOwnedTupleGo tg (.ref it) u) Q E s:=by
 unfold letOwnedTupleGo
 cases tg<;>first
  |exact wpAny_pure hQ
  |(cases u<;>first
   |exact wpAny_pure hQ
   | (refine wpAny_bind (wpAny_load ho ?_)
      rw[hc,hd]
      show wpAny M A (if(["enumerate", "zip", "dict_itemiterator", "dict_reverseitemiterator", "odict_iterator", "itertools.zip_longest", "itertools.pairwise"].contains n&&vs[0]?==some (rawInt _))=true then _ else _) Q E s
      rw[if_neg (by intro h;rw[hn,Bool.false_and]at h;cases h)]
      exact wpAny_pure hQ))
noncomputable def Itl(K:PySem.W.Frag)(a:Addr):It:=
 ⟨λi H=>∃xs x,SqL K H a xs/\xs[i]?=some x,λi H x H'=>H'=H/\∀xs,SqL K H a xs->xs[i]?=some x,λi H=>∃xs,SqL K H a xs/\xs.length<=i⟩
noncomputable def Itt(K:PySem.W.Frag)(a:Addr):It:=
 ⟨λi H=>∃xs x,SqT K H a xs/\xs[i]?=some x,λi H x H'=>H'=H/\∀xs,SqT K H a xs->xs[i]?=some x,λi H=>∃xs,SqT K H a xs/\xs.length<=i⟩
noncomputable def Itr(lo:Int)(n:Nat):It:=⟨λi _=>i<n,λi H x H'=>H'=H/\x=.int (lo+i),λi _=>n<=i⟩
theorem FJ{P:Program}{w:World}{K:PySem.W.Frag}{tg:Expr}(a it:Addr):Turn P w K tg (Itl K a) [it] it (λi h=>h.IsListIter it a i) where
 mem:=by simp
 obj:=λi h st b hb=>by
  have e:b=it:=by simpa using hb
  subst e
  obtain⟨o,e,c,d⟩:=st
  exact⟨o,e,λv z=>by rw[d]at z;cases z⟩
 keep:=λi h h' st k=>st.at λo e=>k it (by simp) o e
 item:=by
  intro X hP hw hK hc i pins s σ H E I hf st hg
  subst hP hw hK
  obtain⟨xs,x,hq,hx⟩:=hg
  obtain⟨its,rv,p,hz⟩:=I.list hq
  obtain⟨u,hu,ru⟩:=rv.get hx
  obtain⟨f0,f1,f2,f3,f4,f5⟩:=hf it (by simp)
  refine wpAny_pyNext_list_item st p.isList (x:=u) (by simpa using hu) λh' st' sb=>?_
  have I1:Inv X pins σ H {s with heap:=h' }:=I.turned (t':=s.toks) (λb o hb e=>(sb.2 b hb).trans e) f0 f1 f3 f4 f5
  obtain⟨o,e,c,d⟩:=id st'
  exact⟨u,rfl,lY (s:={s with heap:=h' }) e c d (by decide) ⟨x,H,I1,ru,⟨rfl,λys hy=>by rw[I.list_inj hy hq];exact hx⟩,st',λb hb=>(hf b hb).1⟩⟩
 done:=by
  intro X hP hw hK hc i pins s σ H E I hf st hg
  subst hP hw hK
  obtain⟨xs,hq,hx⟩:=hg
  obtain⟨its,rv,p,hz⟩:=I.list hq
  obtain⟨f0,f1,f2,f3,f4,f5⟩:=hf it (by simp)
  have hl:=rv.length
  exact wpAny_pyNext_list_end (I.ok.hd hc) st p.isList (by simp;lia) λh' eb=>⟨rfl,I.turned (t':=s.toks) (λb o hb e=>eb b o hb e) f0 f1 f3 f4 f5⟩
 self:=λ_ _ _ _ _ st h=>wpAny_pyIter_listiter st h
theorem FK{P:Program}{w:World}{K:PySem.W.Frag}{tg:Expr}(a it:Addr):Turn P w K tg (Itt K a) [it] it (λi h=>h.IsTupleIter it a i) where
 mem:=by simp
 obj:=λi h st b hb=>by
  have e:b=it:=by simpa using hb
  subst e
  obtain⟨o,e,c,d⟩:=st
  exact⟨o,e,λv z=>by rw[d]at z;cases z⟩
 keep:=λi h h' st k=>st.at λo e=>k it (by simp) o e
 item:=by
  intro X hP hw hK hc i pins s σ H E I hf st hg
  subst hP hw hK
  obtain⟨xs,x,hq,hx⟩:=hg
  obtain⟨its,rv,p,hz⟩:=I.tuple hq
  obtain⟨u,hu,ru⟩:=rv.get hx
  obtain⟨f0,f1,f2,f3,f4,f5⟩:=hf it (by simp)
  refine wpAny_pyNext_tuple_item st (show s.heap.IsTuple a its.toArray from p) (x:=u) (by simpa using hu) λh' st' sb=>?_
  have I1:Inv X pins σ H {s with heap:=h' }:=I.turned (t':=s.toks) (λb o hb e=>(sb.2 b hb).trans e) f0 f1 f3 f4 f5
  obtain⟨o,e,c,d⟩:=id st'
  exact⟨u,rfl,lY (s:={s with heap:=h' }) e c d (by decide) ⟨x,H,I1,ru,⟨rfl,λys hy=>by rw[I.tuple_inj hy hq];exact hx⟩,st',λb hb=>(hf b hb).1⟩⟩
 done:=by
  intro X hP hw hK hc i pins s σ H E I hf st hg
  subst hP hw hK
  obtain⟨xs,hq,hx⟩:=hg
  obtain⟨its,rv,p,hz⟩:=I.tuple hq
  obtain⟨f0,f1,f2,f3,f4,f5⟩:=hf it (by simp)
  have hl:=rv.length
  exact wpAny_pyNext_tuple_end (I.ok.hd hc) st (show s.heap.IsTuple a its.toArray from p) (by simp;lia) λh' eb=>⟨rfl,I.turned (t':=s.toks) (λb o hb e=>eb b o hb e) f0 f1 f3 f4 f5⟩
 self:=λ_ _ _ _ _ st h=>wpAny_pyIter_tupleiter st h
theorem FL{P:Program}{w:World}{K:PySem.W.Frag}{tg:Expr}(it:Addr)(lo:Int)(n:Nat):Turn P w K tg (Itr lo n) [it] it (λi h=>IsRangeIter h it (lo+(i:Nat)*1) ((n:Int)-(i:Nat)) 1) where
 mem:=by simp
 obj:=λi h st b hb=>by
  have e:b=it:=by simpa using hb
  subst e
  exact⟨_,st,λv z=>by
   have z':Data.fields _=Data.cell v:=z
   cases z'⟩
 keep:=λi h h' st k=>k it (by simp) _ st
 item:=by
  intro X hP hw hK hc i pins s σ H E I hf st hg
  subst hP hw hK
  obtain⟨f0,f1,f2,f3,f4,f5⟩:=hf it (by simp)
  have W:=Walks.range (prog:=X.prog) (w:=X.w) (I.ok.hd hc) it lo 1 n
  refine W.item i s _ _ hg st λv h' tk hv st' kk=>?_
  obtain⟨t,rfl⟩:=hv
  have I1:Inv X pins σ H {s with heap:=h',toks:=tk}:=I.turned (λb o hb e=>kk b o (by simpa using hb) e) f0 f1 f3 f4 f5
  refine⟨_,rfl,lY (s:={s with heap:=h',toks:=tk}) (n := "range_iterator") st' rfl rfl (by decide) ⟨.int (lo+i),H,I1,⟨t,?_⟩,⟨rfl,rfl⟩,st',λb hb=>(hf b hb).1⟩⟩
  rw[Int.mul_one]
 done:=by
  intro X hP hw hK hc i pins s σ H E I hf st hg
  subst hP hw hK
  obtain⟨f0,f1,f2,f3,f4,f5⟩:=hf it (by simp)
  exact wpAny_pyNext_range_end (I.ok.hd hc) st (by have:n<=i:=hg;lia) λh' eb=>⟨rfl,I.turned (t':=s.toks) (λb o hb e=>eb b o hb e) f0 f1 f3 f4 f5⟩
 self:=λ_ _ _ _ _ st h=>wpAny_pyIter_rangeiter st h
section
variable{X:Cx}{tg:Expr}
theorem zY{pins:List (Addr×Obj)}{σ:St}{H:Hp}{s:Shared}{R:It->Hp->Prop}{E:Value->Shared->Prop}{lo hi:Int}{t u v:Tok}{tk:Nat}(I:Inv X pins σ H s)(h1:-(2^62)<=lo)(h2:lo<2^62)(h3:-(2^62)<=hi)(h4:hi<2^62)
 (q:R (Itr lo (hi-lo).toNat) H):wpAny (model X.prog X.w) X.A (pyIter (.ref s.heap.objs.size)) (PIE X pins σ tg R) E {s with heap:=s.heap.push {cls:=.type "range", data:=.fields #[.int lo t,.int hi u,.int 1 v] },toks:=tk}:=by
 refine wpAny_pyIter_range (IsRange.new ..) (small_one h1 h2 h3 h4) ?_
 have I1:Inv X pins σ H {s with heap:=s.heap.push {cls:=.type "range", data:=.fields #[.int lo t,.int hi u,.int 1 v] },toks:=tk}:=I.kept λb o e=>Heap.get?_push_of_some _ e
 refine⟨(s.heap.push {cls:=.type "range", data:=.fields #[.int lo t,.int hi u,.int 1 v] }).objs.size,[(s.heap.push {cls:=.type "range", data:=.fields #[.int lo t,.int hi u,.int 1 v] }).objs.size],_,_,H,rfl,
  I1.kept (t':=tk) λb o e=>Heap.get?_push_of_some _ e,FL _ lo (hi-lo).toNat,?_,λb hb=>?_,q⟩
 ·have e1:lo+((0:Nat):Int)*1=lo:=by simp
  have e2:(((hi-lo).toNat:Nat):Int)-((0:Nat):Int)=Builtin.Range.rangeSize lo hi 1:=by rw[rangeSize_one];split<;>lia
  show IsRangeIter _ _ (lo+((0:Nat):Int)*1) ((((hi-lo).toNat:Nat):Int)-((0:Nat):Int)) 1
  rw[e1,e2]
  exact Heap.get?_push_size _ rfl
 ·have e:b=(s.heap.push {cls:=.type "range", data:=.fields #[.int lo t,.int hi u,.int 1 v] }).objs.size:=by simpa using hb
  subst e
  exact I1.fpOk (aN _) (I1.hok.fresh (aN _))
noncomputable def iRng1(ta:TA):TI:=λσ H R=>ta σ H λvs H1=>∃j:Int,vs=[.int j] /\ -(2^62)<=j/\j<2^62/\R (Itr 0 j.toNat) H1
noncomputable def iRng2(ta:TA):TI:=λσ H R=>ta σ H λvs H1=>∃i j:Int,vs=[.int i,.int j]/\(-(2^62)<=i/\i<2^62 /\ -(2^62)<=j/\j<2^62)/\R (Itr i (j-i).toNat) H1
theorem FM {a:Expr} {ta:TA} {p pos:Pos} (hg:Gl X "range") (hm:X.mg "range" = none) (ha:PA X [a] ta) (hs:starEach [a] X.env=[(false,eval a X.env)]:=by rfl):PI X tg (.Call (.Name "range" p) [a] [] pos) (iRng1 ta):=by
 intro pins s σ H R I h
 refine Call_ (jU I hg hm boot_range (PyProof.Rows.callWith_type1 (thn (ha pos pins s σ H _ I h) λus s1 ⟨vs,H1,I1,r1,q1⟩=>?_) hs rfl))
 obtain⟨j,e,q1,q2,q⟩:=q1
 subst e
 cases r1 with
 |cons r rr=>
  cases rr
  obtain⟨t,rfl⟩:=r
  exact call_range_1 (zY I1 (by lia) (by lia) q1 q2 (by simpa using q))
theorem FN {a b:Expr} {ta:TA} {p pos:Pos} (hg:Gl X "range") (hm:X.mg "range" = none) (ha:PA X [a,b] ta) (hs:starEach [a,b] X.env=[(false,eval a X.env),(false,eval b X.env)]:=by rfl) (hs2:starEach [b] X.env=[(false,eval b X.env)]:=by rfl) :
 PI X tg (.Call (.Name "range" p) [a,b] [] pos) (iRng2 ta):=by
 intro pins s σ H R I h
 refine Call_ (jU I hg hm boot_range (PyProof.Rows.callWith_type1 (thn (ha pos pins s σ H _ I h) λus s1 ⟨vs,H1,I1,r1,q1⟩=>?_) (by rw[hs,hs2]) (by rw[hs2];rfl)))
 obtain⟨i,j,e,⟨q1,q2,q3,q4⟩,q⟩:=q1
 subst e
 cases r1 with
 |cons r rr=>
  cases rr with
  |cons r' rr=>
   cases rr
   obtain⟨t,rfl⟩:=r
   obtain⟨t',rfl⟩:=r'
   exact call_range_2 (zY I1 q1 q2 q3 q4 q)
noncomputable def tFor(wi:TI)(g:TG)(tb:TS):TS:=λD σ H=>wi σ H λJ H1=>∃W:Nat->Nat->St->Hp->Prop,(∃m,W 0 m σ H1)/\∀i m σ H,W i m σ H ->
 (J.stop i H/\D.nx σ H)\/(J.go i H/\∃N:St->Hp->Prop,(∀σ' H',N σ' H'->∃m',m'<m/\W (i+1) m' σ' H')/\∀x H',J.yld i H x H'->g x σ H' λσ2 H2=>tb {D with nx:=N,ct:=N,bk:=D.nx} σ2 H2)
noncomputable def kW(fp:List Addr)(h:Heap):List (Addr×Obj):=fp.filterMap λb=>(h.get? b).map λo=>(b,o)
theorem oE{fp:List Addr}{h:Heap}{b:Addr}{o:Obj}(hb:b∈fp)(e:h.get? b=some o):(b,o)∈kW fp h:=L_.mpr ⟨b,hb,by rw[e];rfl⟩
theorem FO{fp:List Addr}{h:Heap}{p:Addr×Obj}(hp:p∈kW fp h):p.1∈fp/\h.get? p.1=some p.2:=by
 obtain⟨b,hb,e⟩:=L_.mp hp
 cases q:h.get? b with
 |none=>rw[q]at e;cases e
 |some o=>
  rw[q]at e
  have e':(b,o)=p:=fS.inj e
  subst e'
  exact⟨hb,q⟩
theorem Inv.pinned{pins:List (Addr×Obj)}{σ:St}{H:Hp}{s:Shared}{fp:List Addr}(I:Inv X pins σ H s)(hf:∀b∈fp,gO X pins H b)(ho:∀b∈fp,∃o,s.heap.get? b=some o/\∀v,o.data≠.cell v):Inv X (pins++kW fp s.heap) σ H s:=
 I.pins_of λp hp=>(eY.mp hp).elim (λz=>I.pin p (fT _ z)) λz=>by
  obtain⟨hb,e⟩:=FO z
  obtain⟨f0,f1,f2,_⟩:=hf p.1 hb
  obtain⟨o,e',d⟩:=ho p.1 hb
  rw[e]at e';cases e'
  exact⟨e,f0,f1,f2,d⟩
theorem Inv.unpinned{pins pl:List (Addr×Obj)}{σ:St}{H:Hp}{s:Shared}(I:Inv X (pins++pl) σ H s):Inv X pins σ H s:=I.pins_of λp hp=>I.pin p (fT _ (Ed _ hp))
theorem ps_for{iter:Expr}{body:List Stmt}{wi:TI}{g:TG}{tb:TS}{pos:Pos}(hp:PassesOwn (model X.prog X.w) X.A X.env X.xe)(hc:X.calm=true)(hi:PI X tg iter wi)(hg:PG X tg g)(hb:PSs X body tb)
 (hs:∀x,foldedSetIterable iter X.env x=pure x:=by intro _;rfl):PS X (.For tg iter body [] pos) (tFor wi g tb):=by
 intro pins s σ H D I h
 refine wpAny_For (thn (hi pins s σ H _ I h) λv s1 h1=>thn h1 λitv s2 h2=>?_) hs
 obtain⟨it,fp,tn,J,H2,e,I2,T,st2,f2,W,⟨m0,w0⟩,turn⟩:=h2
 subst e
 have stat:∀{H':Hp},(∀b∈fp,H' b=none)->∀b∈fp,gO X pins H' b:=λhn b hb=>⟨hn b hb,(f2 b hb).2⟩
 refine codeAny_forLoop_any (λn s'=>∃i σ' H',Inv X pins σ' H' s'/\tn i s'.heap/\(∀b∈fp,H' b=none)/\W i n σ' H') ?_ m0 ⟨0,σ,H2,I2,st2,λb hb=>(f2 b hb).1,w0⟩
 rintro n s3 ⟨i,σ3,H3,I3,st3,fr3,w3⟩
 rcases turn i n σ3 H3 w3 with⟨stop,qn⟩|⟨go,N,hN,step⟩
 ·refine wpAny_passesOwn hp (thn (T.done X rfl rfl rfl hc i pins s3 σ3 H3 X.xe I3 (stat fr3) st3 stop) λr s4 ⟨hr,I4⟩=>?_)
  subst hr
  exact wpAny_execs_nil ⟨σ3,H3,I4,qn⟩
 ·refine wpAny_passesOwn hp (thn (T.item X rfl rfl rfl hc i pins s3 σ3 H3 X.xe I3 (stat fr3) st3 go) λr s4 ⟨u,hr,h4⟩=>?_)
  subst hr
  refine wpAny_passesOwn hp (thn h4 λ_ s5 ⟨x,H5,I5,r5,y5,st5,fr5⟩=>?_)
  have I5':=I5.pinned (stat fr5) (T.obj _ _ st5)
  refine wpAny_passesOwn hp (thn (hg _ s5 σ3 H5 x u _ I5' r5 (step x H5 y5)) λ_ s6 ⟨σ6,H6,I6,q6⟩=>?_)
  refine wpAny_passesOwn hp (thn (hb _ s6 σ6 H6 _ I6 q6) λf s7 q7=>?_)
  have again:∀{σ7:St} {H7:Hp},Inv X (pins++kW fp s5.heap) σ7 H7 s7->N σ7 H7->∃m,m<n/\∃i σ' H',Inv X pins σ' H' s7/\tn i s7.heap/\(∀b∈fp,H' b=none)/\W i m σ' H':=λ{σ7 H7} I7 n7=>by
   obtain⟨m',hm,w7⟩:=hN σ7 H7 n7
   refine⟨m',hm,i+1,σ7,H7,I7.unpinned,T.keep _ _ _ st5 λb hb o e=>(I7.pin (b,o) (fT _ (fT _ (oE hb e)))).1,λb hb=>?_,w7⟩
   obtain⟨o,e,d⟩:=T.obj _ _ st5 b hb
   exact(I7.pin (b,o) (fT _ (fT _ (oE hb e)))).2.1
  cases f with
  |next=>obtain⟨σ7,H7,I7,n7⟩:=q7;exact again I7 n7
  |cont=>obtain⟨σ7,H7,I7,n7⟩:=q7;exact again I7 n7
  |brk=>obtain⟨σ7,H7,I7,q7⟩:=q7;exact⟨σ7,H7,I7.unpinned,q7⟩
  |ret v=>obtain⟨x7,σ7,H7,I7,r7,q7⟩:=q7;exact⟨x7,σ7,H7,I7.unpinned,r7,q7⟩
end
noncomputable abbrev R2:=V->V->Hp->VK->Prop
noncomputable def OpR(X:Cx)(f:Value->Value->Sem Value)(r:R2):Prop:=
 ∀(pins:List (Addr×Obj))(s:Shared)(σ:St)(H:Hp)(x y:V)(v u:Value)(Q:VK),Inv X pins σ H s->RelV x v->RelV y u->r x y H Q ->
  wpAny (model X.prog X.w) X.A (f v u) (EP X pins σ Q) X.xe s
noncomputable def UnR(X:Cx)(f:Value->Sem Value)(r:V->Hp->VK->Prop):Prop:=
 ∀(pins:List (Addr×Obj))(s:Shared)(σ:St)(H:Hp)(x:V)(v:Value)(Q:VK),Inv X pins σ H s->RelV x v->r x H Q ->
  wpAny (model X.prog X.w) X.A (f v) (EP X pins σ Q) X.xe s
noncomputable def dH(X:Cx)(f:Value)(r:List V->Hp->VK->Prop):Prop:=
 ∀(pins:List (Addr×Obj))(s:Shared)(σ:St)(H:Hp)(xs:List V)(us:List Value)(Q:VK),Inv X pins σ H s->Vals xs us->r xs H Q ->
  wpAny (model X.prog X.w) X.A (call f us) (EP X pins σ Q) X.xe s
noncomputable def TruR(X:Cx)(r:V->Hp->(Bool->Hp->Prop)->Prop):Prop:=
 ∀(pins:List (Addr×Obj))(s:Shared)(σ:St)(H:Hp)(x:V)(v:Value)(Q:Bool->Hp->Prop),Inv X pins σ H s->RelV x v->r x H Q ->
  wpAny (model X.prog X.w) X.A (truthy v) (TP X pins σ Q) X.xe s
noncomputable def tOp(r:R2)(ta tb:TE):TE:=λσ H Q=>ta σ H λx H1=>tb σ H1 λy H2=>r x y H2 Q
noncomputable def tUn(r:V->Hp->VK->Prop)(ta:TE):TE:=λσ H Q=>ta σ H λx H1=>r x H1 Q
noncomputable def rI(C:Int->Int->Prop)(g:Int->Int->V):R2:=λx y H Q=>∃i j,x=.int i/\y=.int j/\C i j/\Q (g i j) H
noncomputable def rI0(g:Int->Int->V):R2:=λx y H Q=>∃i j,x=.int i/\y=.int j/\Q (g i j) H
noncomputable def rU(g:Int->V):V->Hp->VK->Prop:=λx H Q=>∃i,x=.int i/\Q (g i) H
section
variable{X:Cx}{a b c:Expr}{ta tb tc:TE}{pos:Pos}
theorem binT(ha:PE X a ta)(hb:PE X b tb){pins:List (Addr×Obj)}{s:Shared}{σ:St}{H:Hp}{R:V->V->Hp->Prop}(I:Inv X pins σ H s)
 (h:ta σ H λx H1=>tb σ H1 λy H2=>R x y H2) {Q:Value->Shared->Prop} {f:Value->Value->Sem Value}
 (hf:∀v u s2 x y H2,Inv X pins σ H2 s2->RelV x v->RelV y u->R x y H2->wpAny (model X.prog X.w) X.A (f v u) Q X.xe s2) :
 wpAny (model X.prog X.w) X.A (eval a X.env) (λv s₁=>wpAny (model X.prog X.w) X.A (eval b X.env) (λu s₂=>wpAny (model X.prog X.w) X.A (f v u) Q X.xe s₂) X.xe s₁) X.xe s:=by
 refine thn (ha pins s σ H _ I h) λv s1 ⟨x,H1,I1,r1,q1⟩=>?_
 refine thn (hb pins s1 σ H1 _ I1 q1) λu s2 ⟨y,H2,I2,r2,q2⟩=>?_
 exact hf v u s2 x y H2 I2 r1 r2 q2
theorem pe_op{op:Operator}{r:R2}(ho:OpR X (binaryOp op) r)(ha:PE X a ta)(hb:PE X b tb):PE X (.BinOp a op b pos) (tOp r ta tb):=by
 intro pins s σ H Q I h
 exact wpAny_BinOp (binT ha hb I h λv u s2 x y H2 I2 rx ry q=>ho pins s2 σ H2 x y v u Q I2 rx ry q)
theorem pe_un{op:UnaryOp}{r:V->Hp->VK->Prop}(ho:UnR X (unaryOp op) r)(ha:PE X a ta):PE X (.UnaryOp op a pos) (tUn r ta):=by
 intro pins s σ H Q I h
 exact UnaryOp_ (thn (ha pins s σ H _ I h) λv s1 ⟨x,H1,I1,r1,q1⟩=>ho pins s1 σ H1 x v Q I1 r1 q1)
theorem opI{f:Value->Value->Sem Value}{C:Int->Int->Prop}{g:Int->Int->Int}
 (rule:∀(i j:Int)(t u:Tok)(s:Shared)(Q:Value->Shared->Prop)(E:Value->Shared->Prop),C i j->Q (.int (g i j) s.toks) {s with toks:=s.toks+1}->wpAny (model X.prog X.w) X.A (f (.int i t) (.int j u)) Q E s) :
 OpR X f (rI C λi j=>.int (g i j)):=by
 intro pins s σ H x y v u Q I rx ry h
 obtain⟨i,j,rfl,rfl,hc,q⟩:=h
 obtain⟨t,rfl⟩:=rx
 obtain⟨t',rfl⟩:=ry
 exact rule i j t t' s _ _ hc ⟨.int (g i j),H,I.tok _,⟨_,rfl⟩,q⟩
theorem opI0{f:Value->Value->Sem Value}{g:Int->Int->Int}
 (rule:∀(i j:Int)(t u:Tok)(s:Shared)(Q:Value->Shared->Prop)(E:Value->Shared->Prop),Q (.int (g i j) s.toks) {s with toks:=s.toks+1}->wpAny (model X.prog X.w) X.A (f (.int i t) (.int j u)) Q E s) :
 OpR X f (rI0 λi j=>.int (g i j)):=by
 intro pins s σ H x y v u Q I rx ry h
 obtain⟨i,j,rfl,rfl,q⟩:=h
 obtain⟨t,rfl⟩:=rx
 obtain⟨t',rfl⟩:=ry
 exact rule i j t t' s _ _ ⟨.int (g i j),H,I.tok _,⟨_,rfl⟩,q⟩
theorem oF{f:Value->Value->Sem Value}{g:Int->Int->Bool}
 (rule:∀(i j:Int)(t u:Tok)(s:Shared)(Q:Value->Shared->Prop)(E:Value->Shared->Prop),Q (.bool (g i j)) s->wpAny (model X.prog X.w) X.A (f (.int i t) (.int j u)) Q E s) :
 OpR X f (rI0 λi j=>.bl (g i j)):=by
 intro pins s σ H x y v u Q I rx ry h
 obtain⟨i,j,rfl,rfl,q⟩:=h
 obtain⟨t,rfl⟩:=rx
 obtain⟨t',rfl⟩:=ry
 exact rule i j t t' s _ _ ⟨.bl (g i j),H,I,rfl,q⟩
noncomputable def CDiv(i j:Int):Prop:=0<j/\j<1073741824
noncomputable def CPow(i j:Int):Prop:=0<=j/\j<=1000000/\i.natAbs<2^64
noncomputable def CMul(i j:Int):Prop:=(-(2^64)<i/\i<2^64)\/(-(2^64)<j/\j<2^64)
theorem CMul.ok{i j:Int}(h:CMul i j):IntMulOk i j:=by
 rcases h with⟨h1,h2⟩|⟨h1,h2⟩
 ·exact .of_left (intBits_le_64 h1 h2)
 ·exact .of_right (intBits_le_64 h1 h2)
theorem op_add:OpR X (binaryOp .Add) (rI0 λi j=>.int (i+j)):=opI0 λ_ _ _ _ _ _ _ q=>add_int q
theorem op_sub:OpR X (binaryOp .Sub) (rI0 λi j=>.int (i-j)):=opI0 λ_ _ _ _ _ _ _ q=>sub_int q
theorem op_mul:OpR X (binaryOp .Mult) (rI CMul λi j=>.int (i*j)):=opI λ_ _ _ _ _ _ _ hc q=>mul_int q hc.ok
theorem FP:OpR X (binaryOp .FloorDiv) (rI CDiv λi j=>.int (i/j)):=opI λi j _ _ _ _ _ hc q=>by
 have h1:(0:Int)<j:=hc.1
 have h2:j<1073741824:=hc.2
 exact floordiv_int (by lia) (by rw[Int.fdiv_eq_ediv_of_nonneg i (by lia)];exact q) (.inl (PyProof.noPylong_small (by lia)))
theorem op_mod:OpR X (binaryOp .Mod) (rI (λ_ j=>0<j) λi j=>.int (i%j)):=opI λi j _ _ _ _ _ hc q=>by
 have h1:(0:Int)<j:=hc
 exact mod_int' (by lia) (by rw[Int.fmod_eq_emod_of_nonneg i (by lia)];exact q)
theorem op_pow:OpR X (binaryOp .Pow) (rI CPow λi j=>.int (i^j.toNat)):=opI λ_ _ _ _ _ _ _ hc q=>pow_int_small hc.1 hc.2.1 hc.2.2 q
theorem unI{f:Value->Sem Value}{g:Int->Int}
 (rule:∀(i:Int)(t:Tok)(s:Shared)(Q:Value->Shared->Prop)(E:Value->Shared->Prop),Q (.int (g i) s.toks) {s with toks:=s.toks+1}->wpAny (model X.prog X.w) X.A (f (.int i t)) Q E s) :
 UnR X f (rU λi=>.int (g i)):=by
 intro pins s σ H x v Q I rx h
 obtain⟨i,rfl,q⟩:=h
 obtain⟨t,rfl⟩:=rx
 exact rule i t s _ _ ⟨.int (g i),H,I.tok _,⟨_,rfl⟩,q⟩
theorem un_neg:UnR X (unaryOp .USub) (rU λi=>.int (-i)):=unI λ_ _ _ _ _ q=>neg_int q
end
section
variable{X:Cx}{a b c:Expr}{ta tb tc:TE}{pos:Pos}
theorem kX{pins:List (Addr×Obj)}{σ:St}{H:Hp}{s:Shared}{Q:VK}{k k':Bool}(I:Inv X pins σ H s)(q:Q (.bl k) H)(e:k=k'):EP X pins σ Q (.bool k') s:=by
 subst e
 exact⟨.bl k,H,I,rfl,q⟩
theorem op_lt:OpR X (compareOp .Lt) (rI0 λi j=>.bl (decide (i<j))):=oF λ_ _ _ _ _ _ _ q=>lt_int q
theorem op_le:OpR X (compareOp .LtE) (rI0 λi j=>.bl (decide (i<=j))):=oF λ_ _ _ _ _ _ _ q=>le_int q
theorem op_gt:OpR X (compareOp .Gt) (rI0 λi j=>.bl (decide (j<i))):=oF λ_ _ _ _ _ _ _ q=>gt_int q
theorem op_ge:OpR X (compareOp .GtE) (rI0 λi j=>.bl (decide (j<=i))):=oF λ_ _ _ _ _ _ _ q=>ge_int q
theorem FQ:OpR X (compareOp .In) (λx y H Q=>∃i j,x=.str i/\y=.str j/\Q (.bl (!(Builtin.Str.occurrences j i 0 j.length 1).isEmpty)) H):=by
 intro pins s σ H x y v u Q I rx ry h
 obtain⟨i,j,rfl,rfl,q⟩:=h
 obtain⟨t,rfl⟩:=rx
 obtain⟨t',rfl⟩:=ry
 exact in_str (kX I q rfl)
theorem op_isN:OpR X (compareOp .Is) (λx y H Q=>y=.non/\Q (.bl (decide (x=.non))) H):=by
 intro pins s σ H x y v u Q I rx ry h
 obtain⟨rfl,q⟩:=h
 cases ry
 refine is_none_gen (kX I q ?_)
 cases x<;>first
  |(cases rx;rfl)
  |(obtain⟨t,rfl⟩:=rx;rfl)
theorem FR:OpR X (compareOp .IsNot) (λx y H Q=>y=.non/\Q (.bl (!decide (x=.non))) H):=by
 intro pins s σ H x y v u Q I rx ry h
 obtain⟨rfl,q⟩:=h
 cases ry
 refine isnot_none_gen (kX I q ?_)
 cases x<;>first
  |(cases rx;rfl)
  |(obtain⟨t,rfl⟩:=rx;rfl)
theorem FS:OpR X (compareOp .NotIn) (λx y H Q=>∃i j,x=.str i/\y=.str j/\Q (.bl (!(!(Builtin.Str.occurrences j i 0 j.length 1).isEmpty))) H):=by
 intro pins s σ H x y v u Q I rx ry h
 obtain⟨i,j,rfl,rfl,q⟩:=h
 obtain⟨t,rfl⟩:=rx
 obtain⟨t',rfl⟩:=ry
 exact notIn_str (kX I q rfl)
theorem FT{op:CmpOp}{r:R2}(ho:OpR X (compareOp op) r)(ha:PE X a ta)(hb:PE X b tb)(hm:behindInMarks op b=false):PE X (.Compare a [op] [b] pos) (tOp r ta tb):=by
 intro pins s σ H Q I h
 exact wpAny_Compare1 (binT ha hb I h λv u s2 x y H2 I2 rx ry q=>ho pins s2 σ H2 x y v u Q I2 rx ry q) hm
noncomputable def tTest(t:TE):TT:=λσ H Q=>t σ H λx H'=>∃k,x=.bl k/\Q k H'
theorem FU{op:CmpOp}{r:R2}(ho:OpR X (compareOp op) r)(ha:PE X a ta)(hb:PE X b tb)(hm:behindInMarks op b=false):PT X (.Compare a [op] [b] pos) (tTest (tOp r ta tb)):=by
 intro pins s σ H Q I h
 refine wpAny_isTrue_Compare1 (thn (ha pins s σ H _ I h) λv s1 ⟨x,H1,I1,r1,q1⟩=>thn (hb pins s1 σ H1 _ I1 q1) λu s2 ⟨y,H2,I2,r2,q2⟩=>
  thn (ho pins s2 σ H2 x y v u _ I2 r1 r2 q2) λc s3 ⟨z,H3,I3,r3,k,e,q3⟩=>?_) hm
 subst e
 cases r3
 exact wpAny_truthy_bool ⟨H3,I3,q3⟩
noncomputable def lZ(K:PySem.W.Frag)(x:V)(H:Hp)(k:Bool):Prop:=
 match x with
 |.non=>k=false
 |.bl b=>k=b
 |.int i=>k=(i != 0)
 |.str y=>y.length<=sizeLine/\k=((y.length:Int) != 0)
 |.byt y=>y.size<=sizeLine/\k=((y.size:Int) != 0)
 |.ref p=>(∃xs,SqL K H p xs/\k=!xs.isEmpty)\/(∃xs,SqT K H p xs/\k=!xs.isEmpty)\/∃kvs,H p=some (.dK kvs)/\k=!kvs.isEmpty
 |_=>False
theorem FV{κ:Type}{kvs:List (κ×V)}{vs:List (κ×Value)}(r:KV kvs vs):(!vs.isEmpty)=!kvs.isEmpty:=by
 cases r<;>rfl
theorem zZ{xs:List V}{its:List Value}(r:Vals xs its):(!its.toArray.isEmpty)=!xs.isEmpty:=by
 cases r<;>simp
theorem kY:(sizeLine:Nat)<2^63:=by rw[sizeLine_eq];decide
theorem oG:TruR X (λx H Q=>∃k,lZ X.K x H k/\Q k H):=by
 intro pins s σ H x v Q I rx h
 obtain⟨k,e,q⟩:=h
 have hl:=kY
 have hs:sizeLine=16777216:=sizeLine_eq
 cases x with
 |non=>
  cases rx
  have e':k=false:=e
  subst e'
  exact truthy_none ⟨H,I,q⟩
 |bl b=>
  cases rx
  have e':k=b:=e
  subst e'
  exact wpAny_truthy_bool ⟨H,I,q⟩
 |int i=>
  obtain⟨t,rfl⟩:=rx
  have e':k=(i != 0):=e
  subst e'
  exact PySem.P.truthy_int ⟨H,I,q⟩
 |str y=>
  obtain⟨t,rfl⟩:=rx
  obtain⟨hy,e'⟩:y.length<=sizeLine/\k=((y.length:Int) != 0):=e
  subst e'
  exact PySem.P.truthy_str (by lia) ⟨H,I.tok _,q⟩
 |byt y=>
  obtain⟨t,rfl⟩:=rx
  obtain⟨hy,e'⟩:y.size<=sizeLine/\k=((y.size:Int) != 0):=e
  subst e'
  exact PySem.W.truthy_bytes (by lia) ⟨H,I.tok _,q⟩
 |ref p=>
  cases rx
  have e':(∃xs,SqL X.K H p xs/\k=!xs.isEmpty)\/(∃xs,SqT X.K H p xs/\k=!xs.isEmpty)\/∃kvs,H p=some (.dK kvs)/\k=!kvs.isEmpty:=e
  rcases e' with⟨xs,hx,e'⟩|⟨xs,hx,e'⟩|⟨kvs,hx,e'⟩
  ·subst e'
   obtain⟨its,r,pl,hz⟩:=I.list hx
   have hlen:=r.length
   exact wpAny_truthy_list pl.isList (by simp only[bP];lia) ⟨H,I.tok _,by rw[zZ r];exact q⟩
  ·subst e'
   obtain⟨its,r,pl,hz⟩:=I.tuple hx
   have hlen:=r.length
   exact truthy_tuple pl (by simp only[bP];lia) ⟨H,I.tok _,by rw[zZ r];exact q⟩
  ·subst e'
   obtain⟨hz,hS,vs,r,m⟩:kvs.length<=sizeLine/\(p==sysModules)=false/\∃vs,KV kvs vs/\s.heap.DictOf (aY X.prog X.w) p vs:=I.hok p _ hx
   have hlen:kvs.length=vs.length:=Paired.length r
   exact wpAny_truthy_dict hS m (by lia) ⟨H,I.tok _,by rw[FV r];exact q⟩
 |_=>exact(show False from e).elim
theorem AA(ha:PE X a ta)(he:∀whole,isTrue a X.env whole=(do let v<-whole;standAt a.pos;holding [v] (truthy v))) :
 PT X a (λσ H Q=>ta σ H λx H'=>∃k,lZ X.K x H' k/\Q k H'):=by
 intro pins s σ H Q I h
 exact isTrue_plain (thn (ha pins s σ H _ I h) λv s1 ⟨x,H1,I1,r1,q1⟩=>oG pins s1 σ H1 x v Q I1 r1 q1) (he _)
theorem FW:OpR X (binaryOp .Add) (λx y H Q=>∃i j,x=.str i/\y=.str j/\i.length+j.length<=sizeLine/\Q (.str (i++j)) H):=by
 intro pins s σ H x y v u Q I rx ry h
 obtain⟨i,j,rfl,rfl,hz,q⟩:=h
 obtain⟨t,rfl⟩:=rx
 obtain⟨t',rfl⟩:=ry
 exact add_str (λt' tk=>⟨.str (i++j),H,I.tok _,⟨_,rfl⟩,q⟩) hz
theorem jH{x:V}{us:List Value}(r:Vals [x] us):∃u,us=[u]/\RelV x u:=by
 cases r with
 |cons r1 r2=>cases r2;exact⟨_,rfl,r1⟩
theorem vals2{x y:V}{us:List Value}(r:Vals [x,y] us):∃u w',us=[u,w']/\RelV x u/\RelV y w':=by
 cases r with
 |cons r1 r2=>
  cases r2 with
  |cons r3 r4=>cases r4;exact⟨_,_,rfl,r1,r3⟩
end
theorem RelO.some_of{v:V}{o:Option Value}(r:RelO (some v) o):∃u,o=some u/\RelV v u:=by
 cases o with
 |none=>exact(show False from r).elim
 |some u=>exact⟨u,rfl,r⟩
section
variable{X:Cx}{pins:List (Addr×Obj)}{σ:St}{H:Hp}{s:Shared}{a C dx:Addr}{fs:List (Str×V)}{f:Str}{v:V}{A:Around}{E:Value->Shared->Prop}
end
set_option genInjectivity false in
structure Room(k:Nat)(A:Around):Prop where
 hd:A.handled=none
 dp:A.depth+3*k+5<recursionLimit
 un:A.units+16*k+200<cLine
theorem Room.deeper{k:Nat}{A:Around}(r:Room (k+1) A)(env:Env):Room k (A.deeper env):=
 ⟨r.hd,by have:=r.dp;show A.depth+1+3*k+5<_;lia,by have:=r.un;show A.units+3+16*k+200<_;lia⟩
theorem Room.depth{k:Nat}{A:Around}(r:Room k A):A.depth<recursionLimit:=by have:=r.dp;lia
theorem Room.units{k:Nat}{A:Around}(r:Room k A):A.units+64<cLine:=by have:=r.un;lia
noncomputable def tNil:TA:=λ_ H Q=>Q [] H
noncomputable def tCons(ta:TE)(tr:TA):TA:=λσ H Q=>ta σ H λx H1=>tr σ H1 λxs H2=>Q (x::xs) H2
section
variable{X:Cx}{e:Expr}{es:List Expr}{te:TE}{t:TA}{pos:Pos}
theorem dO:PA X [] tNil:=λ_ _ _ _ H Q I h=>Calls.spliced_nil ⟨[],H,I,.nil,h⟩
theorem cK(ha:PE X e te)(hr:PA X es t)(hs:starEach (e::es) X.env=(false,eval e X.env)::starEach es X.env:=by rfl):PA X (e::es) (tCons te t):=by
 intro pos pins s σ H Q I h
 rw[hs]
 show wpAny _ _ (spliced ((false,eval e X.env)::backTo pos (starEach es X.env))) _ _ s
 refine Calls.spliced_cons (thn (ha pins s σ H _ I h) λu s1 ⟨x,H1,I1,r1,q1⟩=>?_)
 exact thn (hr pos pins s1 σ H1 _ I1 q1) λus s2 ⟨xs,H2,I2,r2,q2⟩=>⟨x::xs,H2,I2,.cons r1 r2,q2⟩
noncomputable def tTup(t:TA):TE:=λσ H Q=>t σ H λxs H1=>xs.length<=sizeLine/\∀p,H1 p=none->Q (.ref p) (upd H1 p (.tup xs))
noncomputable def tLst(t:TA):TE:=λσ H Q=>t σ H λxs H1=>xs.length<=sizeLine/\∀p,H1 p=none->Q (.ref p) (upd H1 p (.lst xs))
theorem pe_tup{x1}(h:PA X es t):PE X (.Tuple es x1 pos) (tTup t):=by
 intro pins s σ H Q I hq
 refine wpAny_Tuple_spliced (thn (h pos pins s σ H _ I hq) λus s1 ⟨xs,H1,I1,r,z,q⟩=>⟨by rw[<-r.length];exact z,?_⟩)
 have hf:H1 s1.heap.objs.size=none:=I1.hok.fresh (aN _)
 refine⟨.ref s1.heap.objs.size,upd H1 s1.heap.objs.size (.tup xs),I1.laid (t':=s1.toks) (λb u e=>Heap.get?_push_of_some _ e) (aN _) ?_,rfl,q _ hf⟩
 exact⟨z,us,r,⟨_,Heap.get?_push_size _ rfl,rfl,_,rfl⟩⟩
theorem pe_lst(h:PA X es t):PE X (.List es pos) (tLst t):=by
 intro pins s σ H Q I hq
 refine wpAny_List_spliced (thn (h pos pins s σ H _ I hq) λus s1 ⟨xs,H1,I1,r,z,q⟩=>⟨by rw[<-r.length];exact z,?_⟩)
 have hf:H1 s1.heap.objs.size=none:=I1.hok.fresh (aN _)
 refine⟨.ref s1.heap.objs.size,upd H1 s1.heap.objs.size (.lst xs),I1.laid (t':=s1.toks) (λb u e=>Heap.get?_push_of_some _ e) (aN _) ?_,rfl,q _ hf⟩
 exact⟨z,us,0,r,Heap.get?_push_size _ rfl⟩
end
noncomputable abbrev Sp:=List V->Hp->VK->XK->Prop
noncomputable abbrev CXT:=List Env->Hp->Shared->XK->Value->Shared->Prop
set_option genInjectivity false in
structure Env0(P:Program)(w:World)(K:PySem.W.Frag)(mg:Str->Option Value)(base:Heap)(A:Around)(outer:List Env)(s:Shared)(H:Hp):Prop where
 frames:A.frames=some outer
 mod:Mod K mg base
 bs:∀b o,base.get? b=some o->s.heap.get? b=some o/\H b=none
 bsz:base.objs.size<=s.heap.objs.size
 funs:s.heap.FunFrames base outer
 frf:∀b∈frs outer,H b=none
 hok:HOk P w H s.heap
 bare:AllBare s.gens
noncomputable def CE(outer:List Env)(P:Program)(w:World)(H:Hp)(s:Shared)(Q:VK)(u:Value)(s':Shared):Prop:=
 ∃v H',s'.os=s.os/\AllBare s'.gens/\Un (frs outer) [] H H' s.heap s'.heap/\HOk P w H' s'.heap/\RelV v u/\Q v H'
noncomputable def CR(CX:CXT)(outer:List Env)(P:Program)(w:World)(H:Hp)(s:Shared)(Q:VK)(E:XK)(r:Result)(s':Shared):Prop:=
 match r with
 |.ok (.ret u)=>CE outer P w H s Q u s'
 |.ok _=>False
 |.error e=>CX outer H s E e s'
set_option genInjectivity false in
structure FnOk(P:Program)(w:World)(K:PySem.W.Frag)(mg:Str->Option Value)(base:Heap)(CX:CXT)(k:Nat)(f:Addr)(fd:FuncData)(ps:List Str)(sp:Sp):Prop where
 len:∀vs H Q E,sp vs H Q E->vs.length=ps.length
 run:∀(A:Around)(outer:List Env)(s:Shared)(H:Hp)(args:Args)(us:List Value)(vs:List V)(Q:VK)(E:XK),Room k A->Env0 P w K mg base A outer s H->BindsTo s fd args (ps.zip us)->Vals vs us->sp vs H Q E ->
  codeAny (model P w) A (.call (.ref f) args) (CR CX outer P w H s Q E) s
section
variable{X:Cx}{pins:List (Addr×Obj)}{σ:St}{H:Hp}{s s':Shared}
theorem Inv.env0(I:Inv X pins σ H s):Env0 X.prog X.w X.K X.mg X.base X.A X.stack s H:=
 ⟨I.ok.frames,I.ok.mod,I.bs,bV I.ok.bsz I.sz,I.stack,I.stkFree,I.hok,I.bare⟩
theorem Inv.after{Q:VK}{u:Value}(I:Inv X pins σ H s)(h:CE X.stack X.prog X.w H s Q u s'):EP X pins σ Q u s':=by
 obtain⟨v,H',os,bare,un,hok,r,q⟩:=h
 obtain⟨hh,g,d,t,os'⟩:=s'
 obtain rfl:os'=s.os:=os
 exact⟨v,H',I.call (h':=hh) (g':=g) (d':=d) (t':=t) (ch:=[]) un hok bare (λb z=>absurd z (by simp)),r,q⟩
end
noncomputable def sY(sp:Sp)(dvs:List V)(E:XK)(t:TA):TE:=λσ H Q=>t σ H λvs H1=>sp (vs++dvs) H1 Q E
noncomputable def Binds(K:PySem.W.Frag)(fd:FuncData)(ps:List Str)(ds:List Value):Prop:=
 ∀(s:Shared)(us:List Value),K.In s.heap->(us++ds).length=ps.length->BindsTo s fd ⟨us,[]⟩ (ps.zip (us++ds))
theorem Binds.all{K:PySem.W.Frag}{fd:FuncData}{ps:List Str}(h:∀us:List Value,us.length=ps.length->bindArgs fd ⟨us,[]⟩=pure (ps.zip us)):Binds K fd ps []:=λs us _ hl=>by
 rw[lR]at hl⊢
 exact .of_eq (h us hl)
noncomputable def oH(CX:CXT)(X:Cx)(E:XK):Prop:=∀(pins:List (Addr×Obj))(σ:St)(H:Hp)(s:Shared)(e:Value)(s':Shared),Inv X pins σ H s->CX X.stack H s E e s'->X.xe e s'
section
variable{X:Cx}{CX:CXT}{k:Nat}{f C:Addr}{fd:FuncData}{ps:List Str}{sp:Sp}{dvs:List V}{ds:List Value}{E:XK}{x m:Str}{p pos apos:Pos}{e o:Expr}{es:List Expr}{ta:TE}{t:TA}
theorem AB{pins:List (Addr×Obj)}{σ:St}{H:Hp}{s:Shared}{Q:VK}{us:List Value}{vs:List V}(F:FnOk X.prog X.w X.K X.mg X.base CX k f fd ps sp)(hr:Room k X.A)(hb:Binds X.K fd ps ds)(hd:Vals dvs ds)(hx:oH CX X E)
 (I:Inv X pins σ H s) (r:Vals vs us) (h:sp (vs++dvs) H Q E):wpAny (model X.prog X.w) X.A (call (.ref f) us) (EP X pins σ Q) X.xe s:=by
 have r2:Vals (vs++dvs) (us++ds):=r.append hd
 have hl:(us++ds).length=ps.length:=by rw[<-r2.length];exact F.len _ _ _ _ h
 refine wpAny_call (codeAny_mono (F.run X.A X.stack s H ⟨us,[]⟩ (us++ds) (vs++dvs) Q E hr I.env0 (hb s us I.kIn hl) r2 h) λr s' hq=>?_)
 cases r with
 |error e=>exact hx pins σ H s e s' I hq
 |ok fl=>
  cases fl with
  |ret u=>exact I.after hq
  |next=>exact False.elim hq
  |brk=>exact False.elim hq
  |cont=>exact False.elim hq
theorem AC(F:FnOk X.prog X.w X.K X.mg X.base CX k f fd ps sp)(hr:Room k X.A)(hg:Gl X x)(hm:X.mg x=some (.ref f))(hk:PySem.W.keepIn X.K (.ref f)=true)(hb:Binds X.K fd ps ds)(hd:Vals dvs ds)(hx:oH CX X E)
 (ha:PA X (e::es) t) (hdb:(x==("__debug__" : Str))=false:=by decide) (he:starEach (e::es) X.env=(false,eval e X.env)::starEach es X.env:=by rfl) (hpl:(backTo pos (starEach es X.env)).any (·.1)=false:=by rfl) :
 PE X (.Call (.Name x p) (e::es) [] pos) (sY sp dvs E t):=by
 intro pins s σ H Q I h
 refine wpAny_Call_Name_kw (sV I hg hm ?_ hdb)
 refine PySem.W.callWith_K (h₀:=X.base) I.ok.mod.kin hk (thn (ha pos pins s σ H _ I h) λus s1 ⟨vs,H1,I1,r,q⟩=>⟨I1.kIn,?_⟩) he hpl
 exact AB F hr hb hd hx I1 r q
theorem FX(F:FnOk X.prog X.w X.K X.mg X.base CX k f fd ps sp)(hr:Room k X.A)(hg:Gl X x)(hm:X.mg x=some (.ref f))(hk:PySem.W.keepIn X.K (.ref f)=true)(hb:Binds X.K fd ps ds)(hd:Vals dvs ds)(hx:oH CX X E)
 (hdb:(x==("__debug__" : Str))=false:=by decide):PE X (.Call (.Name x p) [] [] pos) (sY sp dvs E tNil):=by
 intro pins s σ H Q I h
 refine wpAny_Call_Name_kw (sV I hg hm ?_ hdb)
 exact PySem.W.callWith_K0 I.kIn hk (AB (us:=[]) F hr hb hd hx I .nil h)
end
section
variable{X:Cx}{CX:CXT}{k:Nat}{f C:Addr}{fd:FuncData}{ps ks:List Str}{sp:Sp}{E:XK}{x m:Str}{p pos apos kpos:Pos}{e o:Expr}{es:List Expr}{kws:List Keyword}{te ta:TE}{t tk:TA}{nm:Option Str}
variable{g:List Value->List Value->List Value}{gV:List V->List V->List V}
end
set_option genInjectivity false in
structure FnScope(N P:List Str)(sc:Scope):Prop where
 kind:sc.kind=.function
 co:sc.isCoroutine=false
 gen:sc.isGenerator=false
 nd:N.Nodup
 pre:N.take P.length=P
 par:∀x∈P,sc.names.lookup x=some .local\/sc.names.lookup x=some .cell
 nofree:∀y∈sc.names,y.2≠.free
theorem AD{kindOf:Str->Option NameKind}{x:Str}:∀{binds:List (Str×Value)} {m:Str->Option Value},(∀v,(x,v)∉binds)->bindL kindOf binds m x=m x
 |[],_,_=>rfl
 |(n,v)::r,m,h=>by
  unfold bindL
  rw[AD λw hw=>h w (bB _ hw)]
  split
  ·have:x≠n:=by rintro rfl;exact h v bF
   simp[this]
  ·rfl
theorem AE{kindOf:Str->Option NameKind}{x:Str}:∀{binds:List (Str×Value)} {m:Str->Option Value},(∀v,(x,v)∉binds)->bindC kindOf binds m x=m x
 |[],_,_=>rfl
 |(n,v)::r,m,h=>by
  unfold bindC
  rw[AE λw hw=>h w (bB _ hw)]
  split
  ·rfl
  ·have:x≠n:=by rintro rfl;exact h v bF
   simp[this]
theorem AF{kindOf:Str->Option NameKind}{x:Str}{v:Value}:∀{P:List Str} {vs:List Value} {i:Nat} {m:Str->Option Value},P.Nodup->P[i]?=some x->vs[i]?=some v->kindOf x=some .local ->
 bindL kindOf (P.zip vs) m x=some v
 |[],_,_,_,_,h,_,_=>by simp at h
 |_::_,[],_,_,_,_,h,_=>by simp at h
 |p::P,w::vs,0,m,nd,h1,h2,hk=>by
  simp at h1 h2;subst h1;subst h2
  show bindL kindOf ((p,w)::P.zip vs) m p=_
  unfold bindL
  rw[AD λv hv=>(eK.mp nd).1 (Ee hv).1,if_pos hk]
  simp
 |p::P,w::vs,i+1,m,nd,h1,h2,hk=>by
  show bindL kindOf ((p,w)::P.zip vs) m x=_
  unfold bindL
  exact AF (i:=i) (eK.mp nd).2 (by simpa using h1) (by simpa using h2) hk
theorem AG{kindOf:Str->Option NameKind}{x:Str}{v:Value}:∀{P:List Str} {vs:List Value} {i:Nat} {m:Str->Option Value},P.Nodup->P[i]?=some x->vs[i]?=some v->kindOf x≠some .local ->
 bindC kindOf (P.zip vs) m x=some v
 |[],_,_,_,_,h,_,_=>by simp at h
 |_::_,[],_,_,_,_,h,_=>by simp at h
 |p::P,w::vs,0,m,nd,h1,h2,hk=>by
  simp at h1 h2;subst h1;subst h2
  show bindC kindOf ((p,w)::P.zip vs) m p=_
  unfold bindC
  rw[AE λv hv=>(eK.mp nd).1 (Ee hv).1,if_neg hk]
  simp
 |p::P,w::vs,i+1,m,nd,h1,h2,hk=>by
  show bindC kindOf ((p,w)::P.zip vs) m x=_
  unfold bindC
  exact AG (i:=i) (eK.mp nd).2 (by simpa using h1) (by simpa using h2) hk
noncomputable def cQ(N:List Str)(vs:List V):St:=vs.map some++aW (N.length-vs.length) none
noncomputable def fW(CX:CXT)(P:Program)(w:World)(K:PySem.W.Frag)(mg:Str->Option Value)(base:Heap)(N:List Str)(qual:Str)(scope:Scope)(f:Addr)(cd:Value)(A:Around)(outer:List Env)(s:Shared)(H:Hp)(E:XK):Cx where
 prog:=P
 w:=w
 K:=K
 mg:=mg
 base:=base
 A:=A.deeper (envOfC qual scope s.heap.objs.size f cd)
 N:=N
 s₀:=s
 H₀:=H
 env:=envOfC qual scope s.heap.objs.size f cd
 outer:=outer
 stack:=envOfC qual scope s.heap.objs.size f cd::outer
 ex:=[]
 calm:=true
 fn:=λ_=>true
 pn:=[]
 xe:=λe s'=>wpAny (model P w) (A.deeper (envOfC qual scope s.heap.objs.size f cd)) (leaving (envOfC qual scope s.heap.objs.size f cd) e) (λ_ s''=>CX outer H s E e s'') (λe' s''=>CX outer H s E e' s'') s'
theorem AH{sc:Scope}{n:Nat}{x:Str}(h:sc.names.lookup x=some .cell):∃c,(cellsFrom n sc.names []).lookup x=some c:=by
 have q:=PySem.W.cellsFrom_some sc.names n [] (.inl h)
 exact La.mp q
theorem FY{CX:CXT}{P:Program}{w:World}{K:PySem.W.Frag}{mg:Str->Option Value}{base:Heap}{N ps:List Str}{qual:Str}{scope:Scope}{f:Addr}{cd:Value}{A:Around}{outer:List Env}{s s1:Shared}{H:Hp}{E:XK}{us:List Value}{vs:List V}
 (S:FnScope N ps scope) (hd:A.handled=none) (e0:Env0 P w K mg base A outer s H) (hl:vs.length=ps.length) (r:Vals vs us)
 (x:InCallC s s.heap.objs.size (bindL (envOfC qual scope s.heap.objs.size f cd).kindOf (ps.zip us) λ_=>none) (cellsFrom (s.heap.objs.size+1) scope.names []) (bindC (envOfC qual scope s.heap.objs.size f cd).kindOf (ps.zip us) λ_=>none) s1) :
 Inv (fW CX P w K mg base N qual scope f cd A outer s H E) [] (cQ N vs) H s1:=by
 have hpl:ps.length<=N.length:=by have:=congrArg yV S.pre;rw[kN]at this;lia
 obtain⟨h1,tk,rfl,hk⟩:=x.done
 have noA:∀b:Addr,b∉(fW CX P w K mg base N qual scope f cd A outer s H E).ex:=λb z=>absurd (show b∈([]:List Addr)from z) (by simp)
 refine⟨⟨e0.mod,S.kind,rfl,rfl,aN _,λy z c h1 h2=>?_,λy hy=>?_,λy c _ h=>?_,λ_=>hd,Around.frames_deeper e0.frames,.inr ⟨rfl,rfl⟩,λb z=>absurd z (noA b),e0.bs,e0.bsz,λb _ _=>noA b,λb z=>absurd z (noA b),e0.funs,e0.frf⟩,
  rfl,e0.bare,Un.kept hk,⟨_,x.toInCall.ns,λi y v h1 h2 h3=>?_⟩,λy c h=>⟨_,x.cell y c h⟩,e0.hok.fresh (aN _),λy c h=>?_,λp hp=>absurd (show p∈([]:List (Addr×Obj))from hp) (by simp),e0.hok.kept hk,?_⟩
 ·exact name_of_addr x.apart (PySem.mem_of_lookup h1) (PySem.mem_of_lookup h2)
 ·have hy:scope.names.lookup y=some .cell\/scope.names.lookup y=some .free:=hy
  rcases hy with hy|hy
  ·exact AH hy
  ·exact absurd rfl (S.nofree _ (PySem.mem_of_lookup hy))
 ·exact iJ (x.above y c (PySem.mem_of_lookup h))
 ·have hi:i<vs.length:=by
   unfold cQ at h2
   by_cases hi:i<vs.length
   ·exact hi
   ·rw[gM (by simpa using hi)]at h2
    rw[lS]at h2
    split at h2<;>cases h2
  have ha:vs[i]?=some v:=by
   unfold cQ at h2
   rw[kO (by simpa using hi),bK]at h2
   cases e:vs[i]? with
   |none=>rw[e]at h2;cases h2
   |some a=>rw[e]at h2;cases h2;rfl
  obtain⟨u,hu,rv⟩:=r.get ha
  have hp:ps[i]?=some y:=by
   rw[<-S.pre,Lb (by lia)];exact h1
  have ndP:ps.Nodup:=by rw[<-S.pre];exact S.nd.sublist (List.take_sublist _ _)
  refine⟨u,rv,?_⟩
  rcases S.par y (gW hp)with k|k
  ·exact .inl ⟨k,AF ndP hp hu k⟩
  ·obtain⟨c,e⟩:=AH (n:=s.heap.objs.size+1) k
   refine .inr ⟨.inl k,c,e,?_⟩
   have q:=x.cell y c e
   rw[AG ndP hp hu (by show scope.names.lookup y≠_;rw[k];decide)]at q
   exact q
 ·exact e0.hok.fresh (iJ (x.above y c (PySem.mem_of_lookup h)))
 ·unfold cQ
  show _=N.length
  rw[bR,aF,eL]
  lia
theorem fn_of{CX:CXT}{P:Program}{w:World}{K:PySem.W.Frag}{mg:Str->Option Value}{base:Heap}{k:Nat}{f:Addr}{name qual:Str}{params:Arguments}{body:List Stmt}{scope:Scope}{dV kV doc pm cdv ct oc:Value}{an od:Option Addr}
 {osl:Array (Option Value)} {N ps:List Str} {sp:Sp} (lk:K.lookup f=some ⟨oc,od,.func (PySem.W.fnOf name qual params body scope dV kV doc pm an cdv ct),osl⟩) (hcd:PySem.W.codeIn K cdv qual=true) (S:FnScope N ps scope)
 (len:∀vs H Q E,sp vs H Q E->vs.length=ps.length)
 (hbody:∀(A:Around)(outer:List Env)(s:Shared)(H:Hp)(vs:List V)(Q:VK)(E:XK),Room k (A.deeper (envOfC qual scope s.heap.objs.size f cdv))->sp vs H Q E ->
  ∃t,PSs (fW CX P w K mg base N qual scope f cdv A outer s H E) body t/\t {nx:=λ_ H'=>Q .non H',rt:=Q} (cQ N vs) H) :
 FnOk P w K mg base CX (k+1) f (PySem.W.fnOf name qual params body scope dV kV doc pm an cdv ct) ps sp:=by
 refine⟨len,λA outer s H args us vs Q E hr e0 hb r hsp=>?_⟩
 have hl:=len _ _ _ _ hsp
 have KX:K.In s.heap:=e0.mod.kin.keeps λb o e=>(e0.bs b o e).1
 have lim:s.heap.NoLimit:=e0.mod.nolimit.keeps λb o e=>(e0.bs b o e).1
 have hkind:∀y∈ps.zip us,scope.names.lookup y.1=some .local\/(scope.names.lookup y.1=some .cell/\((cellsFrom (s.heap.objs.size+1) scope.names []).lookup y.1).isSome=true):=λ⟨n,v⟩ hy=>by
  rcases S.par n (Ee hy).1 with q|q
  ·exact .inl q
  ·exact .inr ⟨q,PySem.W.cellsFrom_some _ _ _ (.inl q)⟩
 refine codeAny_call_function hr.depth (KX _ _ lk) rfl S.co S.gen rfl (PySem.W.codeRec_of KX hcd) (hb _ _ _ _ ?_)
 refine wpAny_newFunctionEnv_cells S.kind hkind λenv he s1 x=>?_
 subst he
 refine⟨lim.keeps x.toInCall.keep,codeAny_func ?_⟩
 obtain⟨t,ht,hq⟩:=hbody A outer s H vs Q E (hr.deeper _) hsp
 have I:Inv (fW CX P w K mg base N qual scope f cdv A outer s H E) [] (cQ N vs) H s1:=FY S hr.hd e0 hl r x
 refine wpAny_mono (ht [] s1 (cQ N vs) H _ I hq) (λfl s' hs=>?_) λe s' hs=>hs
 have fin:∀{σ':St} {H':Hp} {v:V} {u:Value},Inv (fW CX P w K mg base N qual scope f cdv A outer s H E) [] σ' H' s'->RelV v u->Q v H'->CE outer P w H s Q u s':=
  λ{σ' H' v u} J rv q=>⟨v,H',J.os,J.bare,J.base,J.hok,rv,q⟩
 cases fl with
 |ret u=>
  obtain⟨v,σ',H',J,rv,q⟩:=hs
  exact fin J rv q
 |next=>
  obtain⟨σ',H',J,q⟩:=hs
  exact fin (v:=V.non) (u:=Value.none) J rfl q
 |brk=>
  obtain⟨_,_,_,q⟩:=hs
  exact False.elim q
 |cont=>
  obtain⟨_,_,_,q⟩:=hs
  exact False.elim q
section
variable{X:Cx}{x:Str}{p pos:Pos}{e:Expr}{es:List Expr}{t:TA}{id T:String}{r:List V->Hp->VK->Prop}
noncomputable def tCB(r:List V->Hp->VK->Prop)(t:TA):TE:=λσ H Q=>t σ H λvs H1=>r vs H1 Q
theorem jW (hc:dH X (.builtin id) r) (hg:Gl X x) (hm:X.mg x=none) (hv:bootBuiltins x=some (.builtin id)) (ha:PA X (e::es) t) (hn:x ≠ "__name__" := by decide) (hdb:(x==("__debug__" : Str))=false:=by decide)
 (he:starEach (e::es) X.env=(false,eval e X.env)::starEach es X.env:=by rfl) (hpl:(backTo pos (starEach es X.env)).any (·.1)=false:=by rfl):PE X (.Call (.Name x p) (e::es) [] pos) (tCB r t):=by
 intro pins s σ H Q I h
 refine wpAny_Call_Name_kw (jU I hg hm hv ?_ hn hdb)
 exact PyProof.Rows.callWith_builtin1 (thn (ha pos pins s σ H _ I h) λus s1 ⟨vs,H1,I1,r1,q1⟩=>hc pins s1 σ H1 vs us Q I1 r1 q1) he hpl
theorem mC (hc:dH X (.type T) r) (hg:Gl X x) (hm:X.mg x=none) (hv:bootBuiltins x=some (.type T)) (ha:PA X (e::es) t) (hn:x ≠ "__name__" := by decide) (hdb:(x==("__debug__" : Str))=false:=by decide)
 (he:starEach (e::es) X.env=(false,eval e X.env)::starEach es X.env:=by rfl) (hpl:(backTo pos (starEach es X.env)).any (·.1)=false:=by rfl):PE X (.Call (.Name x p) (e::es) [] pos) (tCB r t):=by
 intro pins s σ H Q I h
 refine wpAny_Call_Name_kw (jU I hg hm hv ?_ hn hdb)
 exact PyProof.Rows.callWith_type1 (thn (ha pos pins s σ H _ I h) λus s1 ⟨vs,H1,I1,r1,q1⟩=>hc pins s1 σ H1 vs us Q I1 r1 q1) he hpl
end
end L2
namespace HT
open PySem PyProof.Rows
section
open PySem.SeqAt
open PySem.AutoSeq1 (wpAny_loadPart')
open PySem.MeetsSeq PySem.MeetsSeq2 PySem.MeetsSeq3
end
section
variable{prog:Program}{w:World}{A:Around}{E:Value->Shared->Prop}{s:Shared}
theorem cat_tup{t b:Addr}{vs ws:List Value}{Q:Value->Shared->Prop}(ht:IsTup s.heap t vs.toArray)(hb:IsTup s.heap b ws.toArray)(hv:vs≠[])
 (h1:ws=[]->Q (.ref t) s) (h2:ws≠[]->Q (.ref s.heap.objs.size) {s with heap:=s.heap.push {cls:=.type "tuple", data:=.seq (vs++ws).toArray} })
 (hsz:vs.length+ws.length<=sizeLine):wpAny (model prog w) A (binaryOp .Add (.ref t) (.ref b)) Q E s:=by
 obtain⟨⟨cls,dd,data,sl⟩,ho,hc,n,hd⟩:=id ht
 obtain⟨⟨cls2,dd2,data2,sl2⟩,ho2,hc2,n2,hd2⟩:=id hb
 simp only at hc hd hc2 hd2
 subst hc hd hc2 hd2
 have e:vs.toArray++ws.toArray=(vs++ws).toArray:=by simp
 by_cases hw:ws=[]
 ·exact concat_meets ⟨_,ho,rfl⟩ ⟨_,ho2,rfl⟩ noFill_tuple_add seq_tuple_add PySem.F.slot_tuple_add PySem.F.entry_tuple_add (PySem.F.args_tuple_add_2 _ _)
   (tuple_addW1 t b vs.toArray ws.toArray n n2 dd dd2 sl sl2 (by simpa using hv) (by simp[hw])) ⟨ho,ho2,h1 hw⟩
 ·refine concat_meets ⟨_,ho,rfl⟩ ⟨_,ho2,rfl⟩ noFill_tuple_add seq_tuple_add PySem.F.slot_tuple_add PySem.F.entry_tuple_add (PySem.F.args_tuple_add_2 _ _)
   (tuple_addW2 t b vs.toArray ws.toArray n n2 dd dd2 sl sl2 (by simpa using hv) (by simpa using hw) (by rw[bP,bP];exact hsz)) ⟨ho,ho2,?_⟩
  rw[e]
  exact h2 hw
noncomputable def sIx(n d:Nat):Option Int->Nat
 |none=>d
 |some v=>if v<0 then(v+(n:Int)).toNat else min v.toNat n
theorem sIx_le(n d:Nat)(hd:d<=n)(o:Option Int):sIx n d o<=n:=by
 cases o with
 |none=>exact hd
 |some v=>
  show(if v<0 then(v+(n:Int)).toNat else min v.toNat n)<=n
  by_cases hv:v<0
  ·rw[if_pos hv];lia
  ·rw[if_neg hv];exact Nat.min_le_right _ _
theorem AI(v:Int)(n d:Nat):(if v<0 then max (v+(n:Int)) 0 else min v (n:Int))=((sIx n d (some v):Nat):Int):=by
 show(if v<0 then max (v+(n:Int)) 0 else min v (n:Int))=(((if v<0 then(v+(n:Int)).toNat else min v.toNat n):Nat):Int)
 by_cases hv:v<0
 ·simp only[if_pos hv];lia
 ·simp only[if_neg hv];lia
theorem FZ(lo hi:Option Int)(n:Nat):Builtin.Slice.sliceAdjust lo hi 1 (n:Int)=(((sIx n 0 lo:Nat):Int),((sIx n n hi:Nat):Int)):=by
 have h1:¬((1:Int)<0):=by lia
 unfold Builtin.Slice.sliceAdjust
 simp only[h1,if_false]
 refine Prod.ext ?_ ?_
 ·cases lo with
  |none=>rfl
  |some v=>exact AI v n 0
 ·cases hi with
  |none=>rfl
  |some v=>exact AI v n n
theorem F0(i j:Nat):Builtin.Slice.slicePlaces (i:Int) (j:Int) 1=j-i:=by
 unfold Builtin.Slice.slicePlaces
 have h1:(1:Int)>0:=by lia
 simp only[h1,if_true,Int.ediv_one]
 split<;>lia
theorem AJ{v:Value}{o:Option Int}{Q:Option Int->Shared->Prop}(p:IsPart v o)(h:Q o s):wpAny (model prog w) A (Builtin.Slice.slicePartIndex v) Q E s:=by
 cases p with
 |none=>exact slicePart_none h
 |int i t=>exact slicePart_int h
theorem sliceApplied_gen{sl:Addr}{vl vu:Value}{lo hi:Option Int}{n:Nat}{Q:Int×Int×Nat->Shared->Prop}(hs:s.heap.IsSliceOf sl vl vu .none)(pl:IsPart vl lo)(pu:IsPart vu hi)
 (h:Q (((sIx n 0 lo:Nat):Int),1,sIx n n hi-sIx n 0 lo) s):wpAny (model prog w) A (Builtin.Slice.sliceApplied (.ref sl) (pure (n:Int))) Q E s:=by
 obtain⟨os,hos,hcs,hds⟩:=id hs
 unfold Builtin.Slice.sliceApplied Builtin.Slice.sliceFields
 refine wpAny_bind (wpAny_bind (wpAny_field hos hds (x:=vl) rfl (wpAny_bind (wpAny_field hos hds (x:=vu) rfl (wpAny_bind (wpAny_field hos hds (x:=.none) rfl (wpAny_pure ?_)))))))
 refine wpAny_bind (slicePart_none ?_)
 show wpAny _ _ (if((1:Int)==0)=true then _ else _) _ _ s
 rw[if_neg (by decide)]
 refine wpAny_bind (AJ pl (wpAny_bind (AJ pu (wpAny_bind (wpAny_pure ?_)))))
 show wpAny _ _ (match Builtin.Slice.sliceAdjust lo hi 1 (n:Int)with|(lo,hi)=>pure (lo,(1:Int),Builtin.Slice.slicePlaces lo hi 1)) _ _ s
 rw[FZ lo hi n]
 show wpAny _ _ (pure (((sIx n 0 lo:Nat):Int),(1:Int),Builtin.Slice.slicePlaces ((sIx n 0 lo:Nat):Int) ((sIx n n hi:Nat):Int) 1)) _ _ s
 rw[F0]
 exact wpAny_pure h
theorem F3(xs:Array Value)(i k:Nat):((aD k).filterMap λ(m:Nat)=>xs[((i:Int)+(m:Int)*1).toNat]?).toArray=((xs.toList.drop i).take k).toArray:=by
 have e:(λ(m:Nat)=>xs[((i:Int)+(m:Int)*1).toNat]?)=λm=>xs[i+m]?:=by
  funext m
  have:((i:Int)+(m:Int)*1).toNat=i+m:=by lia
  rw[this]
 rw[e]
 have:=pick_run xs i k
 rw[Lc]at this
 have e2:((λx=>xs[x]?)∘λx=>i+x)=λm=>xs[i+m]?:=rfl
 rw[e2]at this
 rw[this]
theorem getItem_tuple_cut{t sl:Addr}{items:Array Value}{vl vu:Value}{lo hi:Option Int}{Q:Value->Shared->Prop}(ht:IsTup s.heap t items)(hs:s.heap.IsSliceOf sl vl vu .none)(pl:IsPart vl lo)(pu:IsPart vu hi)
 (hw:¬(sIx items.size 0 lo=0/\sIx items.size items.size hi=items.size))
 (h:Q (.ref s.heap.objs.size) {s with heap:=s.heap.push {cls:=.type "tuple", data:=.seq ((items.toList.drop (sIx items.size 0 lo)).take (sIx items.size items.size hi-sIx items.size 0 lo)).toArray} })
 (hsz:items.size<=sizeLine):wpAny (model prog w) A (getItem (.ref t) (.ref sl)) Q E s:=by
 have htake:sizeOk (.seq ((items.toList.drop (sIx items.size 0 lo)).take (sIx items.size items.size hi-sIx items.size 0 lo)).toArray):=by
  show((items.toList.drop (sIx items.size 0 lo)).take (sIx items.size items.size hi-sIx items.size 0 lo)).toArray.size<=sizeLine
  rw[bP,kN,sH,jP]
  lia
 have hj:sIx items.size items.size hi<=items.size:=sIx_le _ _ (aN _) hi
 obtain⟨os,hos,hcs,hds⟩:=id hs
 have hTs:s.TypeIs (.ref sl) "slice" := ⟨os,hos,hcs⟩
 unfold getItem
 try with_reducible refine wpAny_holding ?_
 first|refine wpAny_bind (wpAny_pure ?_)|skip
 refine wpAny_bind (wpAny_sequenceKey ht.typeIs (by decide) ?_)
 refine wpAny_bind (wpAny_callSpecial?_slot (name:=Str.ofString "__getitem__") ht.typeIs PyProof.Rows.slot_tuple_getitem
  (wpAny_call_entry PyProof.Rows.slot_tuple_getitem ht.typeIs entry_tuple_getitem ?_ (args_tuple_getitem _ _)))
 show wpAny _ _ (Builtin.Tuple.tupleItemsOf (.ref t)>>=_) _ _ s
 refine wpAny_bind (tupleItemsOf_ ht ?_)
 refine wpAny_bind (wpAny_typeOf hTs ?_)
 rw[if_pos (by decide)]
 refine wpAny_bind (sliceApplied_gen hs pl pu ?_)
 have hno:¬((((sIx items.size 0 lo:Nat):Int)==0&&(1:Int)==1&&(sIx items.size items.size hi-sIx items.size 0 lo)==items.size)=true):=by
  intro q
  rw[aH,aH]at q
  have q1:((sIx items.size 0 lo:Nat):Int)=0:=eq_of_beq q.1.1
  have q2:sIx items.size items.size hi-sIx items.size 0 lo=items.size:=eq_of_beq q.2
  exact hw ⟨by lia,by lia⟩
 show wpAny _ _ (if(((sIx items.size 0 lo:Nat):Int)==0&&(1:Int)==1&&(sIx items.size items.size hi-sIx items.size 0 lo)==items.size)=true then _ else _) _ _ s
 rw[if_neg hno,F3]
 first
  |exact wpAny_bind (m:=Builtin.Tuple.tupleExact _) (wpAny_newObj_type (wpAny_pure ⟨_,rfl,wpAny_pure h⟩) htake)
  |exact wpAny_bind (m:=Builtin.Tuple.tupleExact _) (wpAny_newObj_type (wpAny_bind (wpAny_pure (wpAny_pure ⟨_,rfl,wpAny_pure h⟩))) htake)
  |exact wpAny_bind (wpAny_bind (m:=Builtin.Tuple.tupleExact _) (wpAny_newObj_type (wpAny_pure (wpAny_pure ⟨_,rfl,wpAny_pure h⟩)) htake))
  |exact wpAny_bind (wpAny_bind (m:=Builtin.Tuple.tupleExact _) (wpAny_newObj_type (wpAny_pure ⟨_,rfl,wpAny_pure h⟩) htake))
end
end HT
namespace L2
open PySem PySem.Spec PyProof.Rows
noncomputable abbrev TO:=St->Hp->(Option Int->Hp->Prop)->Prop
noncomputable def PO(X:Cx)(e:Option Expr)(t:TO):Prop:=
 ∀(pins:List (Addr×Obj))(s:Shared)(σ:St)(H:Hp)(Q:Option Int->Hp->Prop),Inv X pins σ H s->t σ H Q ->
  wpAny (model X.prog X.w) X.A (evalPart e X.env) (λu s'=>∃o H',Inv X pins σ H' s'/\IsPart u o/\Q o H') X.xe s
noncomputable def F9:TO:=λ_ H Q=>Q none H
theorem intsAre_of{ns:List Int}:∀{us:List Value},Vals (ns.map V.int) us->IntsAre us ns:=by
 induction ns with
 |nil=>intro us r;rw[kP]at r;cases r;exact .nil
 |cons n ns ih=>
  intro us r
  rw[aK]at r
  cases r with
  |cons r1 r2=>
   obtain⟨t,e⟩:=r1
   subst e
   exact .cons n t (ih r2)
section
variable{X:Cx}{e:Expr}{te:TE}{lo hi:Option Expr}{tl th:TO}{pos p2:Pos}
theorem F_:PO X none F9:=by
 intro pins s σ H Q I h
 rw[evalPart_none]
 exact wpAny_pure ⟨none,H,I,.none,h⟩
noncomputable def SlR(X:Cx)(r:V->Option Int->Option Int->Hp->VK->Prop):Prop:=
 ∀(pins:List (Addr×Obj))(s:Shared)(σ:St)(H:Hp)(x:V)(v vl vu:Value)(lo hi:Option Int)(sl:Addr)(Q:VK),Inv X pins σ H s->RelV x v->s.heap.IsSliceOf sl vl vu .none->IsPart vl lo->IsPart vu hi->r x lo hi H Q ->
  ∃T id,typeLookup (.type T) "__getitem__" = pure (some (.builtin id))/\s.TypeIs v T/\wpAny (model X.prog X.w) X.A (getItem v (.ref sl)) (EP X pins σ Q) X.xe s
noncomputable def tSl(r:V->Option Int->Option Int->Hp->VK->Prop)(te:TE)(tl th:TO):TE:=λσ H Q=>te σ H λx H1=>tl σ H1 λl H2=>th σ H2 λu H3=>r x l u H3 Q
theorem Fb{r:V->Option Int->Option Int->Hp->VK->Prop}(hr:SlR X r)(he:PE X e te)(hl:PO X lo tl)(hu:PO X hi th):PE X (.Subscript e (.Slice lo hi none p2) pos) (tSl r te tl th):=by
 intro pins s σ H Q I h
 refine Subscript_ (thn (he pins s σ H _ I h) λv s1 ⟨x,H1,I1,r1,q1⟩=>?_)
 refine wpAny_Slice (thn (hl pins s1 σ H1 _ I1 q1) λvl s2 ⟨l,H2,I2,pl,q2⟩=>thn (hu pins s2 σ H2 _ I2 q2) λvu s3 ⟨u,H3,I3,pu,q3⟩=>?_)
 rw[evalPart_none]
 refine wpAny_pure ?_
 have I4:Inv X pins σ H3 {s3 with heap:=s3.heap.push {cls:=.type "slice", data:=.fields #[vl,vu,.none] } }:=I3.kept (t':=s3.toks) λb ob q=>Heap.get?_push_of_some _ q
 obtain⟨T,id,hT,ht,hg⟩:=hr pins {s3 with heap:=s3.heap.push {cls:=.type "slice", data:=.fields #[vl,vu,.none] } } σ H3 x v vl vu l u s3.heap.objs.size Q I4 r1 (Heap.IsSliceOf.new ..) pl pu q3
 show wpAny (model X.prog X.w) X.A (subscriptTail e (.Slice lo hi none p2) v (.ref s3.heap.objs.size)) (EP X pins σ Q) X.xe {s3 with heap:=s3.heap.push {cls:=.type "slice", data:=.fields #[vl,vu,.none] } }
 exact tail_any (ops:=[.ref s3.heap.objs.size,v]) ht hT hg (by with_unfolding_all rfl)
noncomputable def jI(xs:List V)(lo hi:Option Int):List V:=(xs.drop (HT.sIx xs.length 0 lo)).take (HT.sIx xs.length xs.length hi-HT.sIx xs.length 0 lo)
theorem AK(xs:List V)(lo hi:Option Int):(jI xs lo hi).length<=xs.length:=by
 unfold jI
 rw[kN,sH]
 lia
noncomputable def rSlT(K:PySem.W.Frag):V->Option Int->Option Int->Hp->VK->Prop:=λx lo hi H Q=>∃a xs,x=.ref a/\SqT K H a xs /\
 ¬(HT.sIx xs.length 0 lo=0/\HT.sIx xs.length xs.length hi=xs.length)/\∀p,H p=none->Q (.ref p) (upd H p (.tup (jI xs lo hi)))
theorem sl_tup:SlR X (rSlT X.K):=by
 intro pins s σ H x v vl vu lo hi sl Q I rx hs pl pu h
 obtain⟨a,xs,rfl,hx,hw,q⟩:=h
 cases rx
 obtain⟨its,r,ht,hz⟩:=I.tuple hx
 have hlen:its.toArray.size=xs.length:=by rw[bP];exact r.length.symm
 refine⟨"tuple", _,PyProof.Rows.slot_tuple_getitem.lookup,ht.typeIs,?_⟩
 refine HT.getItem_tuple_cut ht hs pl pu (by rw[hlen];exact hw) ?_ (by rw[hlen];exact hz)
 rw[hlen]
 refine⟨.ref s.heap.objs.size,_,I.laid (t':=s.toks) (o:=.tup (jI xs lo hi)) (λb ob q=>Heap.get?_push_of_some _ q) (aN _) ?_,rfl,q _ (I.hok.fresh (aN _))⟩
 exact⟨bV (AK xs lo hi) hz,_,(r.drop (HT.sIx xs.length 0 lo)).take (HT.sIx xs.length xs.length hi-HT.sIx xs.length 0 lo),IsTup.new _ _⟩
noncomputable def rCatT(K:PySem.W.Frag):R2:=λx y H Q=>∃a b xs ys,x=.ref a/\y=.ref b/\SqT K H a xs/\SqT K H b ys/\xs≠[]/\xs.length+ys.length<=sizeLine /\
 (ys=[]->Q (.ref a) H)/\(ys≠[]->∀p,H p=none->Q (.ref p) (upd H p (.tup (xs++ys))))
theorem Vals.nil_iff{xs:List V}{us:List Value}(r:Vals xs us):us=[]↔xs=[]:=by
 cases r with
 |nil=>simp
 |cons _ _=>simp
theorem Fd:OpR X (binaryOp .Add) (rCatT X.K):=by
 intro pins s σ H x y v u Q I rx ry h
 obtain⟨a,b,xs,ys,rfl,rfl,ha,hb,hx,hz,q1,q2⟩:=h
 cases rx
 cases ry
 obtain⟨its,r1,p1,_⟩:=I.tuple ha
 obtain⟨its2,r2,p2,_⟩:=I.tuple hb
 refine HT.cat_tup p1 p2 (λz=>hx (r1.nil_iff.mp z)) (λz=>⟨.ref a,H,I,rfl,q1 (r2.nil_iff.mp z)⟩) (λz=>?_) (by rw[<-r1.length,<-r2.length];exact hz)
 refine⟨.ref s.heap.objs.size,_,I.laid (t':=s.toks) (o:=.tup (xs++ys)) (λb ob q=>Heap.get?_push_of_some _ q) (aN _) ?_,rfl,q2 (λw=>z (r2.nil_iff.mpr w)) _ (I.hok.fresh (aN _))⟩
 exact⟨by rw[bR];exact hz,_,r1.append r2,IsTup.new _ _⟩
end
noncomputable def ixN(n:Nat)(i:Int):Option Nat:=if 0<=i then(if i<n then some i.toNat else none)else if -(n:Int)<=i then some (i+n).toNat else none
noncomputable def atI{α:Type}(xs:List α)(i:Int):Option α:=(ixN xs.length i).bind λj=>xs[j]?
theorem Fe{n:Nat}{i:Int}{j:Nat}(h:ixN n i=some j):seqIndex? i n=some j/\j<n /\ -(n:Int)<=i/\i<n:=by
 unfold ixN at h
 by_cases h0:0<=i
 ·rw[if_pos h0]at h
  by_cases h1:i<n
  ·rw[if_pos h1]at h
   have e:i.toNat=j:=fS.inj h
   exact⟨by rw[seqIndex_of h0 h1,e],by lia,by lia,h1⟩
  ·rw[if_neg h1]at h;cases h
 ·rw[if_neg h0]at h
  by_cases h1:-(n:Int)<=i
  ·rw[if_pos h1]at h
   have e:(i+n).toNat=j:=fS.inj h
   exact⟨by rw[seqIndex_neg (by lia) h1,e],by lia,h1,by lia⟩
  ·rw[if_neg h1]at h;cases h
theorem sZ{α:Type}{xs:List α}{i:Int}{v:α}(h:atI xs i=some v):∃j,seqIndex? i xs.length=some j/\xs[j]?=some v/\j<xs.length /\ -(xs.length:Int)<=i/\i<xs.length:=by
 unfold atI at h
 cases e:ixN xs.length i with
 |none=>rw[e]at h;cases h
 |some j=>
  rw[e]at h
  obtain⟨h1,h2,h3,h4⟩:=Fe e
  exact⟨j,h1,h,h2,h3,h4⟩
noncomputable def AL(b:Expr):Prop:=∀o i,subscripted b false o i=operate [o,i] (getItem o i)
noncomputable def IxR(X:Cx)(r:R2):Prop:=
 ∀(value slice:Expr)(pins:List (Addr×Obj))(s:Shared)(σ:St)(H:Hp)(x y:V)(v u:Value)(Q:VK),Inv X pins σ H s->RelV x v->RelV y u->r x y H Q ->
  subscripted slice false v u=operate [v,u] (getItem v u)->wpAny (model X.prog X.w) X.A (subscriptTail value slice v u) (EP X pins σ Q) X.xe s
noncomputable def MtR(X:Cx)(id:String)(r:V->List V->Hp->VK->Prop):Prop:=
 ∀(pins:List (Addr×Obj))(s:Shared)(σ:St)(H:Hp)(x:V)(xs:List V)(v:Value)(us:List Value)(Q:VK),Inv X pins σ H s->RelV x v->Vals xs us->r x xs H Q ->
  wpAny (model X.prog X.w) X.A (call (.builtin id) (v::us)) (EP X pins σ Q) X.xe s
section
variable{X:Cx}{a b:Expr}{ta tb:TE}{pos:Pos}
theorem pe_ix{r:R2}(hr:IxR X r)(ha:PE X a ta)(hb:PE X b tb)(hs:AL b):PE X (.Subscript a b pos) (tOp r ta tb):=by
 intro pins s σ H Q I h
 exact Subscript_ (binT ha hb I h λv u s2 x y H2 I2 rx ry q=>hr a b pins s2 σ H2 x y v u Q I2 rx ry q (hs _ _))
noncomputable def rIxL(K:PySem.W.Frag):R2:=λx y H Q=>∃p xs i v,x=.ref p/\y=.int i/\SqL K H p xs/\atI xs i=some v/\Q v H
noncomputable def rIxT(K:PySem.W.Frag):R2:=λx y H Q=>∃p xs i v,x=.ref p/\y=.int i/\SqT K H p xs/\atI xs i=some v/\Q v H
noncomputable def rIxS:R2:=λx y H Q=>∃z i c,x=.str z/\y=.int i/\z.length<=sizeLine/\atI z.cps.toList i=some c/\Q (.str ⟨#[c]⟩) H
theorem Ff:IxR X (rIxL X.K):=by
 intro value slice pins s σ H x y v u Q I rx ry h hs
 obtain⟨p,xs,i,z,rfl,rfl,hq,he,q⟩:=h
 cases rx
 obtain⟨t,rfl⟩:=ry
 obtain⟨its,r,pl,hz⟩:=I.list hq
 obtain⟨j,h1,h2,h3,h4,h5⟩:=sZ he
 obtain⟨w,ew,rw'⟩:=r.get h2
 have hl:=r.length
 have hn:=kY
 have fin:EP X pins σ Q w s:=⟨z,H,I,rw',q⟩
 by_cases h0:0<=i
 ·have hj:i.toNat=j:=by
   rw[seqIndex_of h0 h5]at h1
   exact fS.inj h1
  exact item_listR pl.isList h0 (by lia) (by rw[hj];simpa using ew) fin hs
 ·have hj:(i+(its.toArray.size:Int)).toNat=j:=by
   rw[seqIndex_neg (by lia) h4]at h1
   rw[bP,<-hl]
   exact fS.inj h1
  exact subscriptTail_builtinR (x:=w) pl.isList.typeIs slot_list_getitem.lookup
   (wpAny_getItem_list_neg (Q:=λr s'=>r=w/\EP X pins σ Q r s') pl.isList (by lia) (by rw[bP]<;>lia) (by lia) (by rw[hj];simpa using ew) ⟨rfl,fin⟩) hs
theorem ix_tup:IxR X (rIxT X.K):=by
 intro value slice pins s σ H x y v u Q I rx ry h hs
 obtain⟨p,xs,i,z,rfl,rfl,hq,he,q⟩:=h
 cases rx
 obtain⟨t,rfl⟩:=ry
 obtain⟨its,r,pl,hz⟩:=I.tuple hq
 obtain⟨j,h1,h2,h3,h4,h5⟩:=sZ he
 obtain⟨w,ew,rw'⟩:=r.get h2
 have hl:=r.length
 have hn:=kY
 have fin:EP X pins σ Q w s:=⟨z,H,I,rw',q⟩
 exact subscriptTail_builtinR (x:=w) pl.typeIs slot_tuple_getitem.lookup
  (getItem_tuple (j:=j) (Q:=λr s'=>r=w/\EP X pins σ Q r s') pl (by lia) (by lia) (by rw[bP,<-hl];exact h1) (by simpa using ew) ⟨rfl,fin⟩) hs
theorem ix_str:IxR X rIxS:=by
 intro value slice pins s σ H x y v u Q I rx ry h hs
 obtain⟨z,i,c,rfl,rfl,hz,he,q⟩:=h
 obtain⟨t,rfl⟩:=rx
 obtain⟨t',rfl⟩:=ry
 obtain⟨j,h1,h2,h3,h4,h5⟩:=sZ he
 have hl:z.cps.toList.length=z.length:=by simp[Str.length]
 rw[hl]at h1 h4 h5
 have hn:=kY
 exact tail_any (typeIs_str s z t) slot_str_getitem.lookup (getItem_str (c:=c) (by
  have e1:decide (i < -(2^63:Int))=false:=decide_eq_false (by lia)
  have e2:decide (i≥2^63)=false:=decide_eq_false (by lia)
  rw[e1,e2,Bool.or_false]) (by rw[h1];simpa using h2) ⟨.str ⟨#[c]⟩,H,I.tok _,⟨_,rfl⟩,q⟩) hs
theorem Fg(lo hi:Option Int)(n:Nat):(sliceBounds lo hi none n).1=((HT.sIx n 0 lo:Nat):Int)/\(sliceBounds lo hi none n).2.1=((HT.sIx n n hi:Nat):Int)/\(sliceBounds lo hi none n).2.2=1:=by
 refine⟨?_,?_,rfl⟩
 ·cases lo with
  |none=>simp[sliceBounds,HT.sIx]
  |some i=>
   simp only[sliceBounds,HT.sIx,Ld,show(1:Int)>0 by decide,if_true]
   by_cases h:i<0
   ·simp only[h,if_true]<;>lia
   ·simp only[h,if_false]<;>lia
 ·cases hi with
  |none=>simp[sliceBounds,HT.sIx]
  |some i=>
   simp only[sliceBounds,HT.sIx,Ld,show(1:Int)>0 by decide,if_true]
   by_cases h:i<0
   ·simp only[h,if_true]<;>lia
   ·simp only[h,if_false]<;>lia
theorem Fh(its:List Value)(lo hi:Option Int):slicePick its.toArray lo hi none=((its.drop (HT.sIx its.length 0 lo)).take (HT.sIx its.length its.length hi-HT.sIx its.length 0 lo)).toArray:=by
 obtain⟨h1,h2,h3⟩:=Fg lo hi its.toArray.size
 unfold slicePick
 rw[h1,h2,h3]
 simp only[sliceRange_one,pick_run,bP]<;>rfl
noncomputable def rSlL(K:PySem.W.Frag):V->Option Int->Option Int->Hp->VK->Prop:=λx lo hi H Q=>∃a xs,x=.ref a/\SqL K H a xs/\∀p,H p=none->Q (.ref p) (upd H p (.lst (jI xs lo hi)))
theorem Fj:SlR X (rSlL X.K):=by
 intro pins s σ H x v vl vu lo hi sl Q I rx hs pl pu h
 obtain⟨a,xs,rfl,hx,q⟩:=h
 cases rx
 obtain⟨its,r,ht,hz⟩:=I.list hx
 have hlen:=r.length
 refine⟨"list", _,slot_list_getitem.lookup,ht.isList.typeIs,?_⟩
 refine wpAny_getItem_list_slice ht.isList hs pl pu .none (by simp) ?_ (by rw[bP]<;>lia)
 rw[Fh,<-hlen]
 refine⟨.ref s.heap.objs.size,_,I.laid (t':=s.toks) (o:=.lst (jI xs lo hi)) (λb ob q=>Heap.get?_push_of_some _ q) (aN _) ?_,rfl,q _ (I.hok.fresh (aN _))⟩
 exact⟨bV (AK xs lo hi) hz,_,0,(r.drop (HT.sIx xs.length 0 lo)).take (HT.sIx xs.length xs.length hi-HT.sIx xs.length 0 lo),Heap.get?_push_size _ rfl⟩
theorem AM:dH X (.builtin "len") (λxs H Q=>∃p ys,xs=[.ref p]/\(SqL X.K H p ys\/SqT X.K H p ys)/\Q (.int ys.length) H):=by
 intro pins s σ H xs us Q I r h
 obtain⟨p,ys,rfl,hq,q⟩:=h
 obtain⟨u,rfl,rx⟩:=jH r
 cases rx
 have hn:=kY
 rcases hq with hq|hq
 ·obtain⟨its,r',pl,hz⟩:=I.list hq
  have hlen:=r'.length
  exact Calls.call_len_list pl.isList (by simp only[bP]<;>lia) ⟨.int ys.length,H,I.tok _,⟨s.toks+1,by rw[bP,hlen]⟩,q⟩
 ·obtain⟨its,r',pl,hz⟩:=I.tuple hq
  have hlen:=r'.length
  exact len_tuple pl (by simp only[bP]<;>lia) ⟨.int ys.length,H,I.tok _,⟨s.toks+1,by rw[bP,hlen]⟩,q⟩
theorem Fl:dH X (.builtin "len") (λxs H Q=>∃z,xs=[.str z]/\z.length<=sizeLine/\Q (.int z.length) H):=by
 intro pins s σ H xs us Q I r h
 obtain⟨z,rfl,hz,q⟩:=h
 obtain⟨u,rfl,t,rfl⟩:=jH r
 have hn:=kY
 exact len_str (by lia) ⟨.int z.length,H,I.tok _,⟨_,rfl⟩,q⟩
theorem AN:dH X (.type "tuple") (λxs H Q=>∃p ys,xs=[.ref p]/\((SqL X.K H p ys/\∀l,H l=none->Q (.ref l) (upd H l (.tup ys)))\/(SqT X.K H p ys/\Q (.ref p) H))):=by
 intro pins s σ H xs us Q I r h
 obtain⟨p,ys,rfl,h⟩:=h
 obtain⟨u,rfl,rx⟩:=jH r
 cases rx
 rcases h with⟨hq,q⟩|⟨hq,q⟩
 ·obtain⟨its,r',pl,hz⟩:=I.list hq
  have hlen:=r'.length
  refine call_tuple_list pl.isList (λh' kp=>?_) (by simp only[bP]<;>lia)
  have I1:Inv X pins σ H {s with heap:=h' }:=I.kept (t':=s.toks) kp
  have I2:Inv X pins σ (upd H h'.objs.size (.tup ys)) {s with heap:=h'.push {cls:=.type "tuple", data:=.seq its.toArray} }:=
   I1.laid (t':=s.toks) (λb o e=>Heap.get?_push_of_some _ e) (aN _) (show ObjOk X.prog X.w _ _ _ (.tup ys)from⟨hz,its,r',IsTup.new _ _⟩)
  exact⟨.ref h'.objs.size,_,I2,rfl,q _ (I1.hok.fresh (aN _))⟩
 ·obtain⟨its,r',pl,hz⟩:=I.tuple hq
  exact call_tuple_same pl ⟨.ref p,H,I,rfl,q⟩
noncomputable def tyV(K:PySem.W.Frag)(T:String)(x:V)(H:Hp):Prop:=match x with
 |.str _=>T = "str"
 |.int _=>T = "int"
 |.ref p=>(T = "list" /\ ∃xs,SqL K H p xs)\/(T = "tuple" /\ ∃o,K.lookup p=some o/\o.cls=.type "tuple" /\ o.dict=none) \/
  (T = "dict" /\ ((∃kvs,H p=some (.dK kvs))\/∃kvs,H p=some (.dT kvs)))\/(T = "set" /\ ∃S n,H p=some (.set S n))
 |_=>False
theorem AO{pins:List (Addr×Obj)}{σ:St}{H:Hp}{s:Shared}{T:String}{x:V}{v:Value}(I:Inv X pins σ H s)(r:RelV x v)(ty:tyV X.K T x H) :
 s.TypeIs v T/\∀a,v=.ref a->∃ob,s.heap.get? a=some ob/\ob.dict=none:=by
 cases x with
 |str z=>
  obtain⟨t,rfl⟩:=r
  cases (show T = "str" from ty)
  exact⟨typeIs_str s z t,λ_ e=>nomatch e⟩
 |int i=>
  obtain⟨t,rfl⟩:=r
  cases (show T = "int" from ty)
  exact⟨typeIs_int s i t,λ_ e=>nomatch e⟩
 |ref p=>
  cases r
  rcases ty with⟨rfl,xs,hq⟩|⟨rfl,o,hk,hc,hd⟩|⟨rfl,hk⟩|⟨rfl,S,n,hk⟩
  ·obtain⟨its,_,pl,_⟩:=I.list hq
   refine⟨pl.isList.typeIs,λa e=>?_⟩
   cases e
   obtain⟨o,n,e,c,hd,_⟩:=pl
   exact⟨o,e,hd⟩
  ·refine⟨⟨o,I.kIn p o hk,hc⟩,λa e=>?_⟩
   cases e
   exact⟨o,I.kIn _ o hk,hd⟩
  ·have z:∃o,s.heap.get? p=some o/\o.ExactDict:=by
    rcases hk with⟨kvs,hk⟩|⟨kvs,hk⟩
    ·obtain⟨_,_,_,_,o,_,_,e,ex,_⟩:=I.hok p _ hk
     exact⟨o,e,ex⟩
    ·obtain⟨_,_,_,_,o,_,_,e,ex,_⟩:=I.hok p _ hk
     exact⟨o,e,ex⟩
   obtain⟨o,e,ex⟩:=z
   refine⟨⟨o,e,ex.1⟩,λa e2=>?_⟩
   cases e2
   exact⟨o,e,ex.2.1⟩
  ·obtain⟨o,_,_,_,e,ex,_⟩:=I.hok p _ hk
   refine⟨⟨o,e,ex.1⟩,λa e2=>?_⟩
   cases e2
   exact⟨o,e,ex.2.1⟩
 |_=>exact False.elim ty
noncomputable def tBM0(K:PySem.W.Frag)(T:String)(r:V->List V->Hp->VK->Prop)(to:TE):TE:=λσ H Q=>to σ H λx H1=>tyV K T x H1/\r x [] H1 Q
noncomputable def tBM(K:PySem.W.Frag)(T:String)(r:V->List V->Hp->VK->Prop)(to:TE)(t:TA):TE:=λσ H Q=>to σ H λx H1=>tyV K T x H1/\t σ H1 λxs H2=>r x xs H2 Q
variable{o e:Expr}{es:List Expr}{to:TE}{t:TA}{name:Str}{apos cpos:Pos}{T id:String}{r:V->List V->Hp->VK->Prop}
theorem pe_bm0 (pa:PlainAttrs T) (slot:Slot T name id) (hty:typeOf (.builtin id)=pure (.type "method_descriptor")) (hm:MtR X id r) (ho:PE X o to)
 (hbase:attributeBase o name X.env (eval o X.env)=eval o X.env:=by rfl) (hline:(apos.endLine==cpos.line)=true:=by rfl):PE X (.Call (.Attribute o name apos) [] [] cpos) (tBM0 X.K T r to):=by
 intro pins s σ H Q I h
 refine wpAny_Call_method0_late hbase hline (thn (ho pins s σ H _ I h) λv s1 ⟨x,H1,I1,r1,ty,q1⟩=>?_)
 obtain⟨h1,h2⟩:=AO I1 r1 ty
 exact⟨T,id,pa,slot,hty,h1,h2,Calls.callWith_builtin rfl (PySem.evalArgs_none (hm pins s1 σ H1 x [] v [] Q I1 r1 .nil q1))⟩
theorem oI (pa:PlainAttrs T) (slot:Slot T name id) (hty:typeOf (.builtin id)=pure (.type "method_descriptor")) (hm:MtR X id r) (ho:PE X o to) (ha:PA X (e::es) t)
 (hbase:attributeBase o name X.env (eval o X.env)=eval o X.env:=by rfl)
 (hfew:((backTo cpos (starEach (e::es) X.env)).all (λx=>!x.1)&&(backToKw cpos (keywordEach [] X.env)).all (λx=>x.1.isSome)
  && decide ((e::es).length+([]:List Keyword).length+(if([]:List Keyword).isEmpty then 0 else 1)<30))=true:=by rfl)
 (hline:(apos.endLine==cpos.line)=true:=by rfl) (hs:starEach (e::es) X.env=(false,eval e X.env)::starEach es X.env:=by rfl) (hplain:(backTo cpos (starEach es X.env)).any (·.1)=false:=by rfl) :
 PE X (.Call (.Attribute o name apos) (e::es) [] cpos) (tBM X.K T r to t):=by
 intro pins s σ H Q I h
 refine wpAny_Call_method_late hbase hfew hline rfl (thn (ho pins s σ H _ I h) λv s1 ⟨x,H1,I1,r1,ty,q1⟩=>?_)
 obtain⟨h1,h2⟩:=AO I1 r1 ty
 refine⟨T,id,pa,slot,hty,h1,h2,?_⟩
 have hA:=ha cpos pins s1 σ H1 _ I1 q1
 rw[hs]at hA⊢
 refine Calls.callWith_builtin (by show(false||(backTo cpos (starEach es X.env)).any (·.1))=false;rw[hplain]<;>rfl) (Calls.evalArgs_plain ?_)
 exact thn hA λus s2 ⟨vs,H2,I2,r2,q2⟩=>hm pins s2 σ H2 x vs v us Q I2 r1 r2 q2
end
noncomputable def MtM(X:Cx)(id:String)(r:V->List V->Hp->VK->Prop):Prop:=
 ∀(pins:List (Addr×Obj))(s:Shared)(σ:St)(H:Hp)(x:V)(xs:List V)(v:Value)(us:List Value)(Q:VK),Inv X pins σ H s->RelV x v->Vals xs us->r x xs H Q ->
  wpAny (model X.prog X.w) X.A (call (.builtin id) (v::us)) (EP X pins σ Q) X.xe s
theorem Vals.one:∀{x:V} {us:List Value},Vals [x] us->∃u,us=[u]/\RelV x u
 |_,_,.cons r .nil=>⟨_,rfl,r⟩
theorem Vals.zero:∀{us:List Value},Vals [] us->us=[]
 |_,.nil=>rfl
theorem Vals.reverse{xs:List V}{us:List Value}(h:Vals xs us):Vals xs.reverse us.reverse:=by
 induction h with
 |nil=>exact .nil
 |cons r t ih=>rw[yW,yW];exact Vals.append ih (.cons r .nil)
theorem Vals.rep{xs:List V}{us:List Value}(h:Vals xs us):∀k:Nat,Vals (aW k xs).flatten (aW k us).flatten
 |0=>.nil
 |k+1=>by
  rw[lT,lT,nY,nY]
  exact Vals.append h (Vals.rep h k)
theorem AQ(its:List Value):∀(k:Nat)(acc:List Value),
 Ef (λx1 x2=>x1++x2) acc.toArray (aW k its.toArray)=(acc++(aW k its).flatten).toArray
 |0,acc=>by simp
 |k+1,acc=>by
  have e:acc.toArray++its.toArray=(acc++its).toArray:=by simp
  have e2:(acc++its)++(aW k its).flatten=acc++(aW (k+1) its).flatten:=by
   rw[lT,nY,kQ]
  rw[<-e2,<-AQ its k (acc++its),<-e,lT,nZ]
section
variable{X:Cx}{pins:List (Addr×Obj)}{σ:St}{H:Hp}{s:Shared}{l b:Addr}{xs ys zs:List V}
theorem Inv.lset{its its':List Value}{n:Nat}{f:Array Value->Array Value}{t':Nat}(I:Inv X pins σ H s)(hH:H l=some (.lst xs))
 (e:s.heap.get? l=some {cls:=.type "list", data:=.seq its.toArray n}) (hf:f its.toArray=its'.toArray) (hv:Vals ys its') (hz:ys.length<=sizeLine) :
 Inv X pins σ (upd H l (.lst ys)) {s with heap:=s.heap.update l (Obj.mapSeq f),toks:=t' }:=by
 have q:=PySem.IsL.update e f
 rw[hf]at q
 refine I.write (x:=l) (e:=l) (by rw[hH];exact trivial) (.inl rfl) (λb' u hb hu=>(Heap.get?_update_other s.heap (Obj.mapSeq f) (Ne.symm hb)).trans hu) ⟨_,q⟩ ?_
 exact⟨hz,its',_,hv,q⟩
theorem Inv.lnew{its:List Value}{t':Nat}(I:Inv X pins σ H s)(hv:Vals ys its)(hz:ys.length<=sizeLine) :
 Inv X pins σ (upd H s.heap.objs.size (.lst ys)) {s with heap:=s.heap.push {cls:=.type "list", data:=.seq its.toArray},toks:=t' }:=
 I.laid (λ_ _ q=>Heap.get?_push_of_some _ q) (aN _) ⟨hz,its,0,hv,Heap.get?_push_size _ rfl⟩
theorem Inv.fresh(I:Inv X pins σ H s):H s.heap.objs.size=none:=I.hok.fresh (aN _)
theorem Inv.lstM (I:Inv X pins σ H s) (hH:H l=some (.lst xs)):xs.length<=sizeLine/\∃(its:List Value) (n:Nat),Vals xs its/\xs.length=its.length/\s.heap.get? l=some {cls:=.type "list", data:=.seq its.toArray n}:=by
 obtain⟨z,its,n,r,e⟩:=I.hok l _ hH
 exact⟨z,its,n,r,r.length,e⟩
theorem Fo{n:Nat}(h:n<=sizeLine):Builtin.List.listTooLong n=false:=by
 unfold Builtin.List.listTooLong
 exact decide_eq_false (by lia)
end
section
variable{X:Cx}
noncomputable def Fp:V->List V->Hp->VK->Prop:=λx vs H Q=>∃l xs y,x=.ref l/\vs=[y]/\H l=some (.lst xs)/\xs.length<sizeLine/\Q .non (upd H l (.lst (xs++[y])))
theorem AR:MtM X "list.append" Fp:=by
 intro pins s σ H x vs v us Q I rx rv h
 obtain⟨l,xs,y,rfl,rfl,hH,hz,q⟩:=h
 cases rx
 obtain⟨u,rfl,ru⟩:=rv.one
 obtain⟨z,its,n,r,hl,e⟩:=I.lstM hH
 refine call_meets F.slot_list_append ⟨_,e,rfl⟩ F.entry_list_append (F.args_list_append_2 _ _) (PySem.list_append l its.toArray n u (by rw[bP];lia)) ⟨e,?_⟩
 refine⟨.non,_,I.lset (its':=its++[u]) hH e (by simp) (r.append (.cons ru .nil)) ?_,rfl,q⟩
 rw[bR,fG]
 lia
noncomputable def Fq:V->List V->Hp->VK->Prop:=λx vs H Q=>∃l b xs zs,x=.ref l/\vs=[.ref b]/\H l=some (.lst xs)/\H b=some (.lst zs)/\xs.length+zs.length<=sizeLine/\Q .non (upd H l (.lst (xs++zs)))
theorem AS:MtM X "list.extend" Fq:=by
 intro pins s σ H x vs v us Q I rx rv h
 obtain⟨l,b,xs,zs,rfl,rfl,hH,hB,hz,q⟩:=h
 cases rx
 obtain⟨u,rfl,ru⟩:=rv.one
 cases ru
 obtain⟨z,its,n,r,hl,e⟩:=I.lstM hH
 obtain⟨z2,its2,n2,r2,hl2,e2⟩:=I.lstM hB
 have hsz:its.toArray.size+its2.toArray.size<=sizeLine:=by rw[bP,bP];lia
 have hlong:¬(!its.toArray.isEmpty&&Builtin.List.listTooLong (its.toArray.size+its2.toArray.size))=true:=by
  rw[Fo hsz,Eg]
  exact aU
 refine call_meets F.slot_list_extend ⟨_,e,rfl⟩ F.entry_list_extend (F.args_list_extend_2 _ _)
  (AutoSeq1.list_extend_list_list_0 l its.toArray n b its2.toArray n2 hlong (by rw[bP];lia) (by lia)) ⟨e,e2,?_⟩
 refine⟨.non,_,I.lset (its':=its++its2) hH e (by simp) (r.append r2) ?_,rfl,q⟩
 rw[bR]
 lia
noncomputable def Fu:V->List V->Hp->VK->Prop:=λx vs H Q=>∃l xs,x=.ref l/\vs=[]/\H l=some (.lst xs)/\Q .non (upd H l (.lst xs.reverse))
theorem Fv:MtM X "list.reverse" Fu:=by
 intro pins s σ H x vs v us Q I rx rv h
 obtain⟨l,xs,rfl,rfl,hH,q⟩:=h
 cases rx
 have hus:=rv.zero
 subst hus
 obtain⟨z,its,n,r,hl,e⟩:=I.lstM hH
 refine call_meets F.slot_list_reverse ⟨_,e,rfl⟩ F.entry_list_reverse (F.args_list_reverse_1 _) (AutoSeq1.list_reverse_list_0 l its.toArray n (by rw[bP];lia)) ⟨e,?_⟩
 refine⟨.non,_,I.lset (its':=its.reverse) hH e (by simp) r.reverse ?_,rfl,q⟩
 rw[List.length_reverse]
 lia
theorem Fw{α:Type}(xs:List α)(k:Nat):(aW k xs).flatten.length=k*xs.length:=by
 induction k with
 |zero=>simp
 |succ k ih=>rw[lT,nY,bR,ih,Nat.succ_mul,Nat.add_comm]
end
end L2
namespace Att
open PySem PySem.W PySem.Calls PyProof.Rows
theorem Fx{P:Params}{h:Heap}:∀(ns:List Int)(vs:List Value),WellAll P h vs (ns.map WData.int)->IntsAre vs ns:=by
 intro ns
 induction ns with
 |nil=>
  intro vs w
  rw[kP]at w
  cases w
  exact .nil
 |cons n ns ih=>
  intro vs w
  rw[aK]at w
  cases w with
  |cons a b=>
   cases a
   exact .cons _ _ (ih _ b)
theorem Fy{l:OpenLaw}{n:Nat}(hn:l.most=some n){P:Params}{h:Heap}{args:List WData}{vals:List Value}
 (hpre:l.row.toRowW.claim.pre args=true) (hwl:WellAll P h vals args) :
 ∃a vs ns,vals=[Value.ref a]/\args=[WData.list (ns.map WData.int)]/\h.get? a=some {cls:=.type "list", data:=.seq vs.toArray}/\IntsAre vs ns/\ns.length<=n:=by
 have hsh:WShape.hasAll [] args [.list .int]=true:=(pre_splitW hpre).1
 have hc:l.pre.holds [] {args:=args}=true:=(pre_splitW hpre).2
 obtain⟨d,r,rfl,h1,h2⟩:=hasAllW_cons hsh
 obtain rfl:=hasAllW_nil h2
 obtain⟨xs,rfl,h3⟩:=hasW_list h1
 obtain⟨ns,rfl⟩:=items_int h3
 have hlen:ns.length<=n:=by
  unfold OpenLaw.pre at hc
  have h4:(WTm.not (.lt (.lit (.int (n:Int))) (.len (.arg 0)))).holds [] {args:=[.list (ns.map .int)] }=true:=by
   have h4:=(holds_andW hc).1
   rw[hn]at h4
   exact h4
  have h5:=condW_of h4 (w_not (w_lt w_lit (w_len_list (w_arg rfl))))
  rw[aF]at h5
  refine Nat.le_of_not_lt λq=>?_
  have q':(n:Int)<((ns.length:Nat):Int):=by lia
  first
   |(rw[decide_eq_true q']at h5;exact absurd h5 (by decide))
   |(simp at h5;lia)
 cases hwl with
 |cons w1 w2=>
  cases w2
  cases w1 with
  |list ho hall=>exact⟨_,_,ns,rfl,rfl,ho,Fx ns _ hall,hlen⟩
theorem Fz(l:OpenLaw)(args:List WData):l.row.toRowW.claim.post args (.bool true) args=true:=
 postW_of (r:=l.row.toRowW) (X:=(true==true))
  (show WShape.has [] (.bool true) .bool=true by first|rfl|decide|simp[WShape.has,WShape.arms,WShape.armsAll])
  (show(WTm.eq .res (.lit (.bool true))).value [] {args:=args,res:=some (.bool true),after:=args}=some (.bool (true==true))from w_eq_bool (w_res rfl) w_lit) rfl
theorem attach_call{l:OpenLaw}{n:Nat}{q:Program}{loose:List Str}{XP:(Str->Option Value)->Heap->Prop}{YP:World->Heap->Prop}{d:DefRec}
 (hn:l.most=some n) (hdf:d.params.defaults=[])
 (call:∀(w:World)(s₀ s₁:Shared)(mg mb:Str->Option Value)(fa:Addr)(o:Obj)(pm cd doc:Value)(a:Addr)(vs:List Value)(ns:List Int),
  Ground q loose [] XP w s₀ mg mb s₁.heap->YP w s₁.heap ->
  s₁.heap.get? fa=some o->o.data=.func (docDef d.name d.params d.body d.scope pm cd doc)->s₁.heap.CodeRec cd d.name->mg d.name=some (.ref fa) ->
  s₁.heap.get? a=some {cls:=.type "list", data:=.seq vs.toArray}->IntsAre vs ns->ns.length<=n->s₁.gens=#[] ->
  codeAny (model l.prog w) callerA (.call (.ref fa) ⟨[.ref a],[]⟩) (λr s'=>r=.ok (.ret (.bool true))/\OldK s₁.heap s'.heap/\s'.os=s₁.os/\AllBare s'.gens) s₁) :
 WalkO q loose XP YP l.row.toRowW d [] (λf vs=>PySem.call f vs):=by
 intro w s₀ s₁ mg mb G Y fa o pm cd doc dV kV ho hd hcd hD hmg hg args vals as hpre hlay hrd hwl hlo
 obtain rfl:dV=.none:=Dflts.none hD hdf
 obtain rfl:kV=.none:=Dflts.noKw hD
 obtain⟨a,vs,ns,rfl,rfl,hobj,hints,hlen⟩:=Fy hn hpre hwl
 refine enter_call (codeAny_mono (call w s₀ s₁ mg mb fa o pm cd doc a vs ns G Y ho (fd_plain hd) hcd hmg hobj hints hlen hg) λr s' hq=>?_)
 obtain⟨rfl,h2,h3,h4⟩:=hq
 exact⟨.inl ⟨.bool true,.bool true,[],rfl,λ_=>rfl,.bool true,Fz l _,λ_=>⟨iL.nil,λ_ hm=>(nomatch hm)⟩⟩,h2,h3,h4⟩
end Att
namespace L2
open PySem PySem.Spec PyProof.Rows
theorem vals_ints:∀{vs:List Value} {ns:List Int},IntsAre vs ns->Vals (ns.map V.int) vs
 |_,_,.nil=>.nil
 |_,_,.cons n t h=>.cons ⟨t,rfl⟩ (vals_ints h)
noncomputable def Only(H:Hp):Prop:=∀b,H b=none\/∃o xs,H b=some (.frz o (.lst xs))
theorem GA{P:Program}{w:World}{K:PySem.W.Frag}{mg mb:Str->Option Value}{CX:CXT}{k:Nat}{fa a:Addr}{fd:FuncData}{x:Str}{sp:Sp}{s₁:Shared}{vs:List Value}{ns:List Int}
 (KX:K.In s₁.heap) (hns:s₁.heap.Ns mainGlobals mg) (hb:s₁.heap.Ns builtinsNs mb) (hbb:∀x:Str,x ≠ "__name__" -> mb x=bootBuiltins x) (hlim:s₁.heap.NoLimit) (hg:s₁.gens=#[])
 (ha:s₁.heap.get? a=some {cls:=.type "list", data:=.seq vs.toArray}) (hi:IntsAre vs ns) (hl:ns.length<=sizeLine) (hr:Room k callerA)
 (F:∀base:Heap,K.In base->base.Ns mainGlobals mg->FnOk P w K mg base CX k fa fd [x] sp) (hbind:∀(s:Shared)(u:Value),BindsTo s fd ⟨[u],[]⟩ [(x,u)])
 (hsp:∀H:Hp,Only H->SqL K H a (ns.map V.int)->sp [.ref a] H (λv _=>v=.bl true) λ_ _ _=>False)
 (hCX:∀H e s',CX [] H s₁ (λ_ _ _=>False) e s'->False) :
 codeAny (model P w) callerA (.call (.ref fa) ⟨[.ref a],[]⟩) (λr s'=>r=.ok (.ret (.bool true))/\OldK s₁.heap s'.heap/\s'.os=s₁.os/\AllBare s'.gens) s₁:=by
 have rv:=vals_ints hi
 have lenV:=hi.length
 have core:∀H:Hp,Only H->SqL K H a (ns.map V.int)->HOk P w H s₁.heap->(∀b,H b≠none->b=a)->(H a≠none->K.lookup a=none) ->
  codeAny (model P w) callerA (.call (.ref fa) ⟨[.ref a],[]⟩) (λr s'=>r=.ok (.ret (.bool true))/\OldK s₁.heap s'.heap/\s'.os=s₁.os/\AllBare s'.gens) s₁:=by
  intro H hO hS hok hA hK
  have base_of:∀{b:Addr} {o:Obj},s₁.heap.get? b=some o->H b=none->(iP s₁.heap H).get? b=some o:=λe n=>Ez e n
  have noA:∀{b:Addr} {o:Obj} {es:Array DictEntry} {ep:Nat},s₁.heap.get? b=some o->o.data=.dict es ep->H b=none:=λ{b o es ep} e d=>by
   cases q:H b with
   |none=>rfl
   |some u=>
    have e':b=a:=hA b (by rw[q];simp)
    subst e'
    rw[ha]at e;cases e
    have d':Data.seq vs.toArray _=Data.dict es ep:=d
    cases d'
  have nsK:∀{b:Addr} {m:Str->Option Value},s₁.heap.Ns b m->(iP s₁.heap H).Ns b m:=λ{b m} ⟨o,es,ep,e,d,r⟩=>⟨o,es,ep,base_of e (noA e d),d,r⟩
  have hKb:K.In (iP s₁.heap H):=λb o e=>base_of (KX b o e) (by
   cases q:H b with
   |none=>rfl
   |some u=>
    have e':b=a:=hA b (by rw[q];simp)
    subst e'
    rw[hK (by rw[q];simp)]at e;cases e)
  have hM:Mod K mg (iP s₁.heap H):=⟨hKb,nsK hns,⟨mb,nsK hb,hbb⟩,let ⟨mc,h1,h2⟩:=hlim;⟨mc,nsK h1,h2⟩⟩
  have e0:Env0 P w K mg (iP s₁.heap H) callerA [] s₁ H:=⟨rfl,hM,λb o e=>FA e,Nat.le_of_eq (Ey _ _),trivial,λb hb=>absurd (show b∈([]:List Addr)from hb) (by simp),hok,.of_eq hg⟩
  refine codeAny_mono ((F _ hKb (nsK hns)).run callerA [] s₁ H ⟨[.ref a],[]⟩ [.ref a] [.ref a] _ _ hr e0 (hbind s₁ (.ref a)) (.cons rfl .nil) (hsp H hO hS)) λr s' h=>?_
  cases r with
  |error e=>exact(hCX H e s' h).elim
  |ok fl=>
   cases fl with
   |next=>exact False.elim h
   |brk=>exact False.elim h
   |cont=>exact False.elim h
   |ret u=>
    obtain⟨v,H',os,bare,un,hok',r',q⟩:=h
    have q':v=.bl true:=q
    subst q'
    obtain rfl:u=Value.bool true:=r'
    refine⟨rfl,OldK.of_keep λb o e=>?_,os,bare⟩
    cases q:H b with
    |none=>exact un.keep b o e q (by intro z;exact absurd (show b∈([]:List Addr)from z) (by simp)) (by simp)
    |some u=>
     rcases hO b with z|⟨ob,xs,z⟩
     ·rw[q]at z;cases z
     ·have z2:=un.frzs b ob _ z
      obtain⟨e1,_⟩:=hok b _ z
      obtain⟨e2,_⟩:=hok' b _ z2
      rw[e]at e1;cases e1
      exact e2
 cases hk:K.lookup a with
 |some o=>
  have e:=KX a o hk
  rw[ha]at e
  cases e
  refine core (λ_=>none) (λ_=>.inl rfl) (.inr ⟨_,vs.toArray,_,hk,rfl,rfl,rfl,by rw[bP,lenV];exact hl,by simpa using rv⟩) (λb u z=>by have z':(none:Option HO)=some u:=z;cases z') (λb z=>absurd rfl z) λz=>absurd rfl z
 |none=>
  refine core (λb=>if b=a then some (.frz {cls:=.type "list", data:=.seq vs.toArray} (.lst (ns.map V.int)))else none) (λb=>?_) (.inl (.inr ⟨{cls:=.type "list", data:=.seq vs.toArray},if_pos rfl⟩)) (λb u z=>?_) (λb z=>?_) λ_=>hk
  ·by_cases hb:b=a
   ·exact .inr ⟨_,_,if_pos hb⟩
   ·exact .inl (if_neg hb)
  ·by_cases hb:b=a
   ·have z':=(if_pos hb).symm.trans z
    cases z'
    subst hb
    exact⟨ha,by rw[aF];exact hl,vs,_,rv,ha⟩
   ·have z':=(if_neg hb).symm.trans z
    cases z'
  ·by_cases hb:b=a
   ·exact hb
   ·exact absurd (if_neg hb) z
theorem GB{l:PySem.W.OpenLaw}{n k:Nat}{q:Program}{loose:List Str}{XP:(Str->Option Value)->Heap->Prop}{YP:World->Heap->Prop}{d:DefRec}{K:Params->PySem.W.Frag}{CX:World->CXT}{sp:World->Sp}{x:Str}
 (hn:l.most=some n) (hn2:n<=sizeLine) (hdf:d.params.defaults=[]) (hr:Room k callerA)
 (hY:∀(w:World)(h:Heap),YP w h->(K w.params).In h)
 (F:∀(w:World)(mg:Str->Option Value)(fa:Addr)(h:Heap),(K w.params).In h->h.Ns mainGlobals mg->mg d.name=some (.ref fa) ->
  ∃fd:FuncData,(∀(s:Shared)(u:Value),BindsTo s fd ⟨[u],[]⟩ [(x,u)]) /\
   ∀base:Heap,(K w.params).In base->base.Ns mainGlobals mg->FnOk l.prog w (K w.params) mg base (CX w) k fa fd [x] (sp w))
 (hsp:∀(w:World)(H:Hp)(a:Addr)(ns:List Int),ns.length<=n->Only H->SqL (K w.params) H a (ns.map V.int)->sp w [.ref a] H (λv _=>v=.bl true) λ_ _ _=>False)
 (hCX:∀(w:World)(H:Hp)(s:Shared)(e:Value)(s':Shared),CX w [] H s (λ_ _ _=>False) e s'->False) :
 PySem.W.WalkO q loose XP YP l.row.toRowW d [] (λf vs=>PySem.call f vs):=by
 refine Att.attach_call hn hdf λw s₀ s₁ mg mb fa o pm cd doc a vs ns G Y ho hd hcd hmg hobj hints hlen hg=>?_
 have KX:=hY w _ Y
 obtain⟨fd,hb,hF⟩:=F w mg fa _ KX G.T.g hmg
 exact GA KX G.T.g G.T.b G.T.builtins G.T.nolimit hg hobj hints (bV hlen hn2) hr hF hb (λH hO hS=>hsp w H a ns hlen hO hS) λH e s'=>hCX w H s₁ e s'
noncomputable def jX(s:Stmt):Arguments:=match s with
 |.FunctionDef _ a _ _ _ _ _ _ _ _=>a
 |_=>{posonlyargs:=[],args:=[],vararg:=none,kwonlyargs:=[],kw_defaults:=[],kwarg:=none,defaults:=[] }
noncomputable def iA(s:Stmt):List Stmt:=match s with
 |.FunctionDef _ _ b _ _ _ _ _ _ _=>b
 |_=>[]
noncomputable def eO(s:Stmt):Scope:=match s with
 |.FunctionDef _ _ _ _ _ _ sc _ _ _=>sc
 |_=>{kind:=.function,names:=[],isGenerator:=false,isCoroutine:=false}
noncomputable abbrev E0:XK:=λ_ _ _=>False
set_option genInjectivity false in
structure Fun(K:PySem.W.Frag)(x qual:Str)(st:Stmt)(f:Addr)(fd:FuncData):Prop where
 ex:∃(oc:Value)(od:Option Addr)(kV doc pm:Value)(an:Option Addr)(cdv ct:Value)(osl:Array (Option Value)),
  fd=PySem.W.fnOf x qual (jX st) (iA st) (eO st) .none kV doc pm an cdv ct/\K.lookup f=some ⟨oc,od,.func fd,osl⟩/\PySem.W.codeIn K cdv qual=true
 kp:PySem.W.keepIn K (.ref f)=true
section
variable{P:Program}{w:World}{K:PySem.W.Frag}{mg:Str->Option Value}{base:Heap}
theorem Fun.binds{x qual:Str}{st:Stmt}{f:Addr}{fd:FuncData}{ps:List Str}(F:Fun K x qual st f fd)
 (h:∀(kV doc pm:Value)(an:Option Addr)(cdv ct:Value)(us:List Value),us.length=ps.length->bindArgs (PySem.W.fnOf x qual (jX st) (iA st) (eO st) .none kV doc pm an cdv ct) ⟨us,[]⟩=pure (ps.zip us)):Binds K fd ps []:=by
 obtain⟨oc,od,kV,doc,pm,an,cdv,ct,osl,rfl,lk,hcd⟩:=F.ex
 exact .all (h kV doc pm an cdv ct)
theorem AU{x qual:Str}{st:Stmt}{f:Addr}{oc:Value}{od an:Option Addr}{osl:Array (Option Value)}{kV doc pm cdv ct:Value}(l:K.lookup f=some ⟨oc,od,.func (PySem.W.fnOf x qual (jX st) (iA st) (eO st) .none kV doc pm an cdv ct),osl⟩)
 (c:PySem.W.codeIn K cdv qual=true) (k:PySem.W.keepIn K (.ref f)=true):Fun K x qual st f (PySem.W.fnOf x qual (jX st) (iA st) (eO st) .none kV doc pm an cdv ct):=⟨⟨oc,od,kV,doc,pm,an,cdv,ct,osl,rfl,l,c⟩,k⟩
end
theorem GC{n:Nat}(h:n<=1000):n<sizeLine:=Nat.lt_of_le_of_lt h (by decide)
noncomputable def Same(H H':Hp):Prop:=∀b o,H b=some o->H' b=some o
theorem Same.refl(H:Hp):Same H H:=λ_ _ h=>h
theorem Same.trans{H H1 H2:Hp}(a:Same H H1)(b:Same H1 H2):Same H H2:=λc o h=>b c o (a c o h)
theorem Same.free{H H':Hp}(e:Same H H'){l:Addr}(h:H' l=Option.none):H l=Option.none:=by
 cases q:H l with
 |none=>rfl
 |some o=>
  rw[e l o q]at h
  cases h
end L2
set_option maxRecDepth 100000
namespace L2
open PySem PySem.Spec PyProof.Rows
section
variable{κ:Type}[DecidableEq κ]
noncomputable def fB(kvs:List (κ×V))(k:κ):Option V:=(kvs.find? λkv=>decide (kv.1=k)).map (·.2)
noncomputable def cX(kvs:List (κ×V))(k:κ)(v:V):List (κ×V):=
 if(kvs.any λkv=>decide (kv.1=k))=true then kvs.map (λkv=>if kv.1=k then(kv.1,v)else kv)else kvs++[(k,v)]
theorem mD{p:κ×V}{r:List (κ×V)}{k:κ}(e:p.1=k):fB (p::r) k=some p.2:=by simp[fB,cJ,e]
theorem mF{p:κ×V}{r:List (κ×V)}{k:κ}(e:¬p.1=k):fB (p::r) k=fB r k:=by simp[fB,cJ,e]
theorem AV(k:κ):∀kvs:List (κ×V),(kvs.any λkv=>decide (kv.1=k))=(fB kvs k).isSome
 |[]=>rfl
 |p::r=>by
  rw[iM]
  by_cases e:p.1=k
  ·simp only[mD e,decide_eq_true e,Bool.true_or,Option.isSome_some]
  ·rw[mF e,decide_eq_false e,sI];exact AV k r
theorem AW(kvs:List (κ×V))(k:κ)(v:V):(cX kvs k v).length<=kvs.length+1:=by
 unfold cX
 split
 ·rw[aF];lia
 ·rw[bR,aP,gX];lia
theorem RelO.isSome_eq{o:Option V}{u:Option Value}(r:RelO o u):o.isSome=u.isSome:=by
 cases o with
 |none=>cases u with
  |none=>rfl
  |some _=>exact(show False from r).elim
 |some _=>cases u with
  |none=>exact(show False from r).elim
  |some _=>rfl
theorem KV.val{kvs:List (κ×V)}{vs:List (κ×Value)}(r:KV kvs vs)(k:κ):RelO (fB kvs k) (valueAt vs k):=by
 unfold KV at r
 induction r with
 |nil=>exact True.intro
 | @cons p q ps qs h t ih=>
  obtain⟨h1,h2⟩:=h
  by_cases e:p.1=k
  ·have e':q.1=k:=h1.symm.trans e
   have b:valueAt (q::qs) k=some q.2:=by simp[valueAt,cJ,e']
   rw[mD e,b];exact h2
  ·have e':¬q.1=k:=λz=>e (h1.trans z)
   have b:valueAt (q::qs) k=valueAt qs k:=by simp[valueAt,cJ,e']
   rw[mF e,b];exact ih
theorem KV.any{kvs:List (κ×V)}{vs:List (κ×Value)}(r:KV kvs vs)(k:κ):(kvs.any λkv=>decide (kv.1=k))=vs.any λkv=>decide (kv.1=k):=by
 unfold KV at r
 induction r with
 |nil=>rfl
 |cons h t ih=>rw[iM,iM,ih,h.1]
theorem KV.repl{kvs:List (κ×V)}{vs:List (κ×Value)}(r:KV kvs vs)(k:κ){y:V}{u:Value}(ry:RelV y u) :
 KV (kvs.map λkv=>if kv.1=k then(kv.1,y)else kv) (vs.map λkv=>if kv.1=k then(kv.1,u)else kv):=by
 unfold KV at r⊢
 induction r with
 |nil=>exact .nil
 | @cons p q ps qs h t ih=>
  rw[aK,aK]
  refine .cons ?_ ih
  obtain⟨h1,h2⟩:=h
  by_cases e:p.1=k
  ·rw[if_pos e,if_pos (h1.symm.trans e)];exact⟨h1,ry⟩
  ·rw[if_neg e,if_neg (λz=>e (h1.trans z))];exact⟨h1,h2⟩
theorem KV.put{kvs:List (κ×V)}{vs:List (κ×Value)}(r:KV kvs vs)(k:κ){y:V}{u:Value}(ry:RelV y u):KV (cX kvs k y) (stored vs k u):=by
 unfold cX stored
 rw[r.any k]
 by_cases e:(vs.any λkv=>decide (kv.1=k))=true
 ·rw[if_pos e,if_pos e];exact r.repl k ry
 ·rw[if_neg e,if_neg e];exact Paired.snoc r ⟨rfl,ry⟩
theorem KV.keys{kvs:List (κ×V)}{vs:List (κ×Value)}(r:KV kvs vs):kvs.map (·.1)=vs.map (·.1):=by
 unfold KV at r
 induction r with
 |nil=>rfl
 |cons h t ih=>rw[aK,aK,ih,h.1]
theorem KV.length{kvs:List (κ×V)}{vs:List (κ×Value)}(r:KV kvs vs):kvs.length=vs.length:=Paired.length r
end
theorem kV_is{P:Program}{w:World}{k:Key}{u:Value}(r:RelV (kV k) u):(aY P w).is k u=true:=by
 cases k with
 |inl i=>obtain⟨t,e⟩:=(show ∃t,u=Value.int i t from r);subst e;exact zP P w i t
 |inr x=>obtain⟨t,e⟩:=(show ∃t,u=Value.str x t from r);subst e;exact sU P w x t
theorem AX{P:Program}{w:World}:∀{ks:List Key} {us:List Value},Vals (ks.map kV) us->ItemsAre (aY P w) ks us
 |[],_,r=>by rw[kP]at r;cases r;exact .nil
 |k::ks,_,r=>by
  rw[aK]at r
  cases r with
  |cons h t=>exact .cons (kV_is h) (AX t)
noncomputable abbrev KT(H:Hp):List (List Key×V)->List (List Key×Addr×Value)->Prop:=Paired λp q=>p.1=q.1/\H q.2.1=some (.tup (p.1.map kV))/\RelV p.2 q.2.2
theorem KT.val{H:Hp}{kvs:List (List Key×V)}{xs:List (List Key×Addr×Value)}(r:KT H kvs xs)(k:List Key):RelO (fB kvs k) ((atKey xs k).map (·.2)):=by
 induction r with
 |nil=>exact True.intro
 | @cons p q ps qs h t ih=>
  obtain⟨h1,_,h2⟩:=h
  by_cases e:p.1=k
  ·have e':q.1=k:=h1.symm.trans e
   have b:atKey (q::qs) k=some q.2:=by simp[atKey,cJ,e']
   rw[mD e,b];exact h2
  ·have e':¬q.1=k:=λz=>e (h1.trans z)
   have b:atKey (q::qs) k=atKey qs k:=by simp[atKey,cJ,e']
   rw[mF e,b];exact ih
theorem KT.repl{H:Hp}{kvs:List (List Key×V)}{xs:List (List Key×Addr×Value)}(r:KT H kvs xs)(k:List Key){y:V}{u:Value}(ry:RelV y u) :
 KT H (kvs.map λkv=>if kv.1=k then(kv.1,y)else kv) (xs.map (putAt k u)):=by
 induction r with
 |nil=>exact .nil
 | @cons p q ps qs h t ih=>
  rw[aK,aK]
  refine .cons ?_ ih
  obtain⟨h1,h2,h3⟩:=h
  unfold putAt
  by_cases e:p.1=k
  ·rw[if_pos e,if_pos (h1.symm.trans e)];exact⟨h1,h2,ry⟩
  ·rw[if_neg e,if_neg (λz=>e (h1.trans z))];exact⟨h1,h2,h3⟩
theorem KT.put{H:Hp}{kvs:List (List Key×V)}{xs:List (List Key×Addr×Value)}(r:KT H kvs xs)(k:List Key){b:Addr}{y:V}{u:Value}(hb:H b=some (.tup (k.map kV)))(ry:RelV y u) :
 KT H (cX kvs k y) (storedH xs k b u):=by
 have e:(kvs.any λkv=>decide (kv.1=k))=(atKey xs k).isSome:=by
  rw[AV,(r.val k).isSome_eq,Eh]
 unfold cX storedH
 rw[e]
 by_cases q:(atKey xs k).isSome=true
 ·rw[if_pos q,if_pos q];exact r.repl k ry
 ·rw[if_neg q,if_neg q];exact Paired.snoc r ⟨rfl,hb,ry⟩
theorem KT.keeps{H H':Hp}{kvs:List (List Key×V)}{xs:List (List Key×Addr×Value)}(r:KT H kvs xs)(ht:∀b ys,H b=some (.tup ys)->H' b=some (.tup ys)):KT H' kvs xs:=
 Paired.mapP r λ_ _ z=>⟨z.1,ht _ _ z.2.1,z.2.2⟩
section
variable{P:Program}{w:World}{H:Hp}{h:Heap}{a:Addr}
theorem mH{u:HO}(ok:HOk P w H h)(e:Rd H a u):ObjOk P w H h a u:=e.ok ok
theorem kZ{kvs:List (Key×V)}(ok:HOk P w H h)(e:Rd H a (.dK kvs)):kvs.length<=sizeLine/\(a==sysModules)=false/\∃vs,KV kvs vs/\h.DictOf (aY P w) a vs:=
 show ObjOk P w H h a (.dK kvs)from mH ok e
theorem dk_of{kvs:List (Key×V)}(ok:HOk P w H h)(e:H a=some (.dK kvs)):kvs.length<=sizeLine/\(a==sysModules)=false/\∃vs,KV kvs vs/\h.DictOf (aY P w) a vs:=kZ ok (.inl e)
theorem mJ{ks:List Key}(ok:HOk P w H h)(e:H a=some (.tup (ks.map kV))):(tupleKind (aY P w)).is h ks a:=by
 obtain⟨_,its,r,o,h1,h2,n,h3⟩:=(show ObjOk P w H h a (.tup (ks.map kV))from ok a _ e)
 exact⟨o,its.toArray,n,h1,h2,h3,by simpa using AX r⟩
theorem mK{kvs:List (List Key×V)}(ok:HOk P w H h)(e:Rd H a (.dT kvs)):kvs.length<=sizeLine/\(a==sysModules)=false /\
 ∃xs,KT H kvs xs/\h.DictOfH (tupleKind (aY P w)) a xs:=by
 obtain⟨z,y,xs,r,o,es,ep,h1,h2,h3,h4,h5⟩:=(show ObjOk P w H h a (.dT kvs)from mH ok e)
 refine⟨z,y,xs,r,o,es,ep,h1,h2,h3,h4,λx hx=>?_,h5⟩
 have all:∀{l:List (List Key×V)} {m:List (List Key×Addr×Value)},KT H l m->∀x∈m,(tupleKind (aY P w)).is h x.1 x.2.1:=by
  intro l m q
  induction q with
  |nil=>intro x hx;exact nomatch hx
  | @cons p q ps qs hq t ih=>
   intro x hx
   rcases aO.mp hx with e|hx
   ·subst e
    exact mJ ok (by rw[<-hq.1];exact hq.2.1)
   ·exact ih x hx
 exact all r x hx
theorem dt_of{kvs:List (List Key×V)}(ok:HOk P w H h)(e:H a=some (.dT kvs)):kvs.length<=sizeLine/\(a==sysModules)=false /\
 ∃xs,KT H kvs xs/\h.DictOfH (tupleKind (aY P w)) a xs:=mK ok (.inl e)
end
noncomputable def jY(H:Hp)(a:Addr)(y:V)(r:Option V):Prop:=
 (∃kvs k,Rd H a (.dK kvs)/\y=kV k/\r=fB kvs k)\/∃kvs k b,Rd H a (.dT kvs)/\y=.ref b/\H b=some (.tup (k.map kV))/\r=fB kvs k
noncomputable def DPut(H:Hp)(a:Addr)(y v:V)(H':Hp):Prop:=
 (∃kvs k,H a=some (.dK kvs)/\y=kV k/\kvs.length<sizeLine/\H'=upd H a (.dK (cX kvs k v))) \/
 ∃kvs k b,H a=some (.dT kvs)/\y=.ref b/\H b=some (.tup (k.map kV))/\kvs.length<sizeLine/\H'=upd H a (.dT (cX kvs k v))
theorem DPut.k{H:Hp}{a:Addr}{kvs:List (Key×V)}{k:Key}{v:V}(e:H a=some (.dK kvs))(hl:kvs.length<sizeLine):DPut H a (kV k) v (upd H a (.dK (cX kvs k v))):=.inl ⟨kvs,k,e,rfl,hl,rfl⟩
theorem DPut.t{H:Hp}{a b:Addr}{kvs:List (List Key×V)}{k:List Key}{v:V}(e:H a=some (.dT kvs))(eb:H b=some (.tup (k.map kV)))(hl:kvs.length<sizeLine) :
 DPut H a (.ref b) v (upd H a (.dT (cX kvs k v))):=.inr ⟨kvs,k,b,e,rfl,eb,hl,rfl⟩
section
variable{X:Cx}{pins:List (Addr×Obj)}{σ:St}{H:Hp}{s:Shared}{a:Addr}{y v:V}{u r:Value}{o:Option V}{A:Around}{E:Value->Shared->Prop}
theorem Inv.big(I:Inv X pins σ H s):sysModules<s.heap.objs.size:=by
 have h:mainGlobals<s.heap.objs.size:=(I.mod.glob.keeps I.bk).lt
 exact kR (by decide) h
theorem GD{Q:Value->Shared->Prop}(hu:A.units+1<cLine)(I:Inv X pins σ H s)(g:jY H a y (some v))(ry:RelV y u)(h:∀w' s',Inv X pins σ H s'->RelV v w'->Q w' s') :
 wpAny (model X.prog X.w) A (getItem (.ref a) u) Q E s:=by
 rcases g with⟨kvs,k,e,ey,l⟩|⟨kvs,k,b,e,ey,eb,l⟩
 ·subst ey
  obtain⟨z,hd,vs,rel,dd⟩:=kZ I.hok e
  obtain⟨w',hw,rw'⟩:=RelO.some_of (v:=v) (o:=valueAt vs k) (by rw[l];exact rel.val k)
  exact wpAny_getItem_of (kV_is ry) dd.mapOf hw (h w' _ (I.tok _) rw')
 ·subst ey
  cases (show u=Value.ref b from ry)
  obtain⟨z,hd,xs,rel,dd⟩:=mK I.hok e
  obtain⟨w',hw,rw'⟩:=RelO.some_of (v:=v) (o:=(atKey xs k).map (·.2)) (by rw[l];exact rel.val k)
  obtain⟨p,hp,hp2⟩:=Le.mp hw
  refine wpAny_getItem_heap (tupleKind_room_in1 hu) (mJ I.hok eb) dd hp ?_
  rw[hp2]
  exact h w' _ (I.tok _) rw'
theorem d_in{Q:Value->Shared->Prop}(hu:A.units+1<cLine)(I:Inv X pins σ H s)(g:jY H a y o)(ry:RelV y u)(h:∀s',Inv X pins σ H s'->Q (.bool o.isSome) s') :
 wpAny (model X.prog X.w) A (compareOp .In u (.ref a)) Q E s:=by
 rcases g with⟨kvs,k,e,ey,l⟩|⟨kvs,k,b,e,ey,eb,l⟩
 ·subst ey
  obtain⟨z,hd,vs,rel,dd⟩:=kZ I.hok e
  refine wpAny_in_of (kV_is ry) hd dd.mapOf ?_
  rw[<-(rel.val k).isSome_eq,<-l]
  exact h _ (I.tok _)
 ·subst ey
  cases (show u=Value.ref b from ry)
  obtain⟨z,hd,xs,rel,dd⟩:=mK I.hok e
  refine wpAny_in_heap (tupleKind_room_in1 hu) (mJ I.hok eb) hd dd ?_
  have q:=(rel.val k).isSome_eq
  rw[Eh]at q
  rw[<-q,<-l]
  exact h _ (I.tok _)
theorem AY{Q:Value->Shared->Prop}(hu:A.units+1<cLine)(I:Inv X pins σ H s)(g:jY H a y o)(ry:RelV y u)(h:∀s',Inv X pins σ H s'->Q (.bool (!o.isSome)) s') :
 wpAny (model X.prog X.w) A (compareOp .NotIn u (.ref a)) Q E s:=by
 rcases g with⟨kvs,k,e,ey,l⟩|⟨kvs,k,b,e,ey,eb,l⟩
 ·subst ey
  obtain⟨z,hd,vs,rel,dd⟩:=kZ I.hok e
  refine wpAny_notIn_of (kV_is ry) hd dd.mapOf ?_
  rw[<-(rel.val k).isSome_eq,<-l]
  exact h _ (I.tok _)
 ·subst ey
  cases (show u=Value.ref b from ry)
  obtain⟨z,hd,xs,rel,dd⟩:=mK I.hok e
  refine wpAny_notIn_heap (tupleKind_room_in1 hu) (mJ I.hok eb) hd dd ?_
  have q:=(rel.val k).isSome_eq
  rw[Eh]at q
  rw[<-q,<-l]
  exact h _ (I.tok _)
theorem AZ{h':Heap}{t':Nat}{ob:HO}(I:Inv X pins σ H s)(mu:Mut (H a))(hs:Heap.SameBut a s.heap h')(he:∃q,h'.get? a=some q)(new:ObjOk X.prog X.w (upd H a ob) h' a ob) :
 Inv X pins σ (upd H a ob) {s with heap:=h',toks:=t' }:=
 I.write (x:=a) (e:=a) mu (.inl rfl) (λb q hb z=>(hs.2 b hb).trans z) he new
theorem dk_new{P:Program}{w:World}{H':Hp}{h':Heap}{kvs:List (Key×V)}{vs:List (Key×Value)}(z:kvs.length<=sizeLine)(hd:(a==sysModules)=false)(rel:KV kvs vs)(dd:h'.DictOf (aY P w) a vs) :
 ObjOk P w H' h' a (.dK kvs):=⟨z,hd,vs,rel,dd⟩
theorem GE{H':Hp}{Q:Unit->Shared->Prop}(hu:A.units+1<cLine)(I:Inv X pins σ H s)(g:DPut H a y v H')(ry:RelV y u)(rv:RelV v r)(h:∀s',Inv X pins σ H' s'->Q () s') :
 wpAny (model X.prog X.w) A (setItem (.ref a) u r) Q E s:=by
 rcases g with⟨kvs,k,e,ey,l,eH⟩|⟨kvs,k,b,e,ey,eb,l,eH⟩
 ·subst ey eH
  obtain⟨z,hd,vs,rel,dd⟩:=dk_of I.hok e
  have hz:vs.length<=sizeLine:=by rw[<-rel.length];exact z
  have hl:(cX kvs k v).length<=sizeLine:=by have:=AW kvs k v;lia
  refine wpAny_setItem_pairs (hsz:=hz) (kV_is ry) dd λh' dd' hs=>h _ ?_
  have he:∃q,h'.get? a=some q:=let ⟨q,_,_,hq,_⟩:=dd';⟨q,hq⟩
  exact AZ I (by rw[e];exact True.intro) hs he (dk_new hl hd (rel.put k rv) dd')
 ·subst ey eH
  cases (show u=Value.ref b from ry)
  obtain⟨z,hd,xs,rel,dd⟩:=dt_of I.hok e
  have hz:xs.length<=sizeLine:=by rw[<-Paired.length rel];exact z
  have hl:(cX kvs k v).length<=sizeLine:=by have:=AW kvs k v;lia
  refine wpAny_setItem_heap (hsz:=hz) (tupleKind_room_in1 hu) (mJ I.hok eb) dd λh' dd' hs=>h _ ?_
  obtain⟨q,es,ep,hq,h2,h3,h4,_,h5⟩:=dd'
  refine AZ I (by rw[e];exact True.intro) hs ⟨q,hq⟩ ⟨hl,hd,_,(rel.put k eb rv).keeps λc ys ec=>?_,q,es,ep,hq,h2,h3,h4,h5⟩
  rw[aL (oC ec e (λz=>nomatch z))]
  exact ec
end
section
variable{X:Cx}{pins:List (Addr×Obj)}{σ:St}{H:Hp}{s:Shared}{a:Addr}{kvs:List (Key×V)}{k:Key}{u:Value}{A:Around}{E:Value->Shared->Prop}
theorem d_len {Q:Value->Shared->Prop} (I:Inv X pins σ H s) (e:Rd H a (.dK kvs)) (h:∀t s',Inv X pins σ H s'->Q (.int kvs.length t) s'):wpAny (model X.prog X.w) A (call (.builtin "len") [.ref a]) Q E s:=by
 obtain⟨z,hd,vs,rel,dd⟩:=kZ I.hok e
 refine call_len_dict hd dd (by rw[<-rel.length];rw[sizeLine_eq]at z;lia) ?_
 rw[<-rel.length]
 exact h _ _ (I.tok _)
end
theorem GF {X:Cx} {pins:List (Addr×Obj)} {σ:St} {H:Hp} {s:Shared} {a:Addr} {y:V} {o:Option V} (I:Inv X pins σ H s) (g:jY H a y o):s.TypeIs (.ref a) "dict" := by
 rcases g with⟨kvs,k,e,_,_⟩|⟨kvs,k,b,e,_,_,_⟩
 ·obtain⟨_,_,vs,_,dd⟩:=kZ I.hok e
  exact dd.typeIs
 ·obtain⟨_,_,xs,_,dd⟩:=mK I.hok e
  exact dd.typeIs
noncomputable def sDPut(td ty tv:TE):TS:=λD σ H=>tv σ H λv H1=>td σ H1 λx H2=>ty σ H2 λy H3=>∃a H4,x=.ref a/\DPut H3 a y v H4/\D.nx σ H4
section
variable{X:Cx}{o i e value:Expr}{pos pos' tpos:Pos}{td ty tv:TE}
theorem A0(hu:X.A.units+1<cLine)(ho:PE X o td)(hi:PE X i ty)(hv:PE X value tv)(hs:swapsWith value (some (.Subscript o i pos')) pos.line X.env=pure false) :
 PS X (.Assign [.Subscript o i pos'] value pos) (sDPut td ty tv):=by
 intro pins s σ H D I h
 refine wpAny_Assign_Subscript (thn (hv pins s σ H _ I h) λr s1 ⟨v,H1,I1,rv,q1⟩=>thn (ho pins s1 σ H1 _ I1 q1) λu s2 ⟨x,H2,I2,rx,q2⟩=>thn (hi pins s2 σ H2 _ I2 q2) λiv s3 ⟨y,H3,I3,ry,a,H4,ex,g,q3⟩=>?_) hs
 subst ex
 obtain rfl:u=Value.ref a:=rx
 exact GE hu I3 g ry rv λs4 I4=>⟨σ,H4,I4,q3⟩
end
theorem GG {P:Program} {w:World} {H:Hp} (h:Heap) (hb:sysModules<h.objs.size):ObjOk P w H (h.push {cls:=.type "dict", data:=.dict #[] }) h.objs.size (.dK []):=
 ⟨eM _,beq_eq_false_iff_ne.mpr (Ne.symm (aT hb)),[],.nil,Heap.DictOf.new h⟩
theorem GH {P:Program} {w:World} {H:Hp} (h:Heap) (hb:sysModules<h.objs.size):ObjOk P w H (h.push {cls:=.type "dict", data:=.dict #[] }) h.objs.size (.dT []):=
 ⟨eM _,beq_eq_false_iff_ne.mpr (Ne.symm (aT hb)),[],.nil,_,#[],0,Heap.get?_push_size _ rfl,⟨rfl,rfl,rfl⟩,rfl,rfl,iN⟩
noncomputable def tDNewK:TE:=λ_ H Q=>∀p,H p=none->Q (.ref p) (upd H p (.dK []))
noncomputable def tDNewT:TE:=λ_ H Q=>∀p,H p=none->Q (.ref p) (upd H p (.dT []))
section
variable{X:Cx}{pos:Pos}
theorem GI:PE X (.Dict [] [] pos) tDNewK:=λpins s σ H Q I h=>
 wpAny_Dict_empty ⟨.ref s.heap.objs.size,_,I.laid (a:=s.heap.objs.size) (o:=.dK []) (t':=s.toks) (λ_ _ q=>Heap.get?_push_of_some _ q) (aN _) (GG s.heap I.big),rfl,h _ (I.hok.fresh (aN _))⟩
theorem GJ:PE X (.Dict [] [] pos) tDNewT:=λpins s σ H Q I h=>
 wpAny_Dict_empty ⟨.ref s.heap.objs.size,_,I.laid (a:=s.heap.objs.size) (o:=.dT []) (t':=s.toks) (λ_ _ q=>Heap.get?_push_of_some _ q) (aN _) (GH s.heap I.big),rfl,h _ (I.hok.fresh (aN _))⟩
end
section
variable{X:Cx}{pins:List (Addr×Obj)}{σ:St}{H:Hp}{s:Shared}{a:Addr}{y d:V}{u r:Value}{o:Option V}{A:Around}{E:Value->Shared->Prop}
end
section
variable{X:Cx}{o e f:Expr}{apos cpos:Pos}{td ty tx:TE}
end
end L2
namespace Tr
open PySem
set_option genSizeOf true in
set_option genSizeOfSpec true in
inductive D where
 |non|bl (b:Bool)|int (i:Int)|str (x:Str)|tup (ds:List D)|lst (ds:List D)|dct (kvs:List (Sum Int Str×D))|tdc (kvs:List (List (Sum Int Str)×D))
 deriving Inhabited
inductive Res(α:Type) where
 |ok (a:α)|err (c:Str) (d:D)|no
 deriving Inhabited
namespace Res
@[reducible] noncomputable def bind{α β:Type}(x:Res α)(f:α->Res β):Res β:=match x with | .ok a=>f a | .err c d=>.err c d | .no=>.no
noncomputable instance:Monad Res where
 pure:=.ok
 bind:=bind
@[simp] theorem ok_bind{α β:Type}(a:α)(f:α->Res β):(Res.ok a>>=f)=f a:=id rfl
@[simp] theorem no_bind{α β:Type}(f:α->Res β):((Res.no:Res α)>>=f)=.no:=id rfl
theorem bind_ok{α β:Type}{x:Res α}{f:α->Res β}{b:β}(h:(x>>=f)=.ok b):∃a,x=.ok a/\f a=.ok b:=by
 cases x with
 |ok a=>exact⟨a,rfl,h⟩
 |err c d=>cases h
 |no=>cases h
end Res
noncomputable def aE{α:Type}(c:Bool)(r:Res α):Res α:=if c then r else .no
theorem aV{α:Type}{c:Bool}{r:Res α}{a:α}(h:aE c r=.ok a):c=true/\r=.ok a:=by
 unfold aE at h
 split at h
 ·exact⟨by assumption,h⟩
 ·cases h
@[simp] theorem GK{α:Type}(r:Res α):aE true r=r:=id rfl
theorem aZ{α:Type}{c:Bool}(h:c=true)(r:Res α):aE c r=r:=by subst h;rfl
noncomputable def b2z(b:Bool):Int:=if b then 1 else 0
mutual
noncomputable def D.eqb:D->D->Bool
 |.non,.non=>true
 |.bl a,.bl b=>a==b
 |.bl a,.int j=>b2z a==j
 |.int i,.bl b=>i==b2z b
 |.int i,.int j=>i==j
 |.str x,.str y=>x==y
 |.tup a,.tup b=>D.eqs a b
 |.lst a,.lst b=>D.eqs a b
 |_,_=>false
noncomputable def D.eqs:List D->List D->Bool
 |[],[]=>true
 |a::r,b::q=>D.eqb a b&&D.eqs r q
 |_,_=>false
end
mutual
noncomputable def D.pl:Nat->D->Bool
 |_,.dct _=>false
 |_,.tdc _=>false
 |n,.tup a=>D.pls n a
 |n,.lst a=>D.pls n a
 |_,_=>true
noncomputable def D.pls:Nat->List D->Bool
 |_,[]=>true
 |0,_::_=>false
 |n+1,a::r=>D.pl n a&&D.pls (n+1) r
end
mutual
noncomputable def D.flat:D->Bool
 |.dct _=>false
 |.tdc _=>false
 |.lst _=>false
 |.tup a=>D.flats a
 |_=>true
noncomputable def D.flats:List D->Bool
 |[]=>true
 |a::r=>D.flat a&&D.flats r
end
theorem oJ{a b:List D}:D.eqb (.tup a) (.tup b)=D.eqs a b:=rfl
theorem oK{a b:List D}:D.eqb (.lst a) (.lst b)=D.eqs a b:=rfl
theorem tB{a b:D}{r q:List D}:D.eqs (a::r) (b::q)=(D.eqb a b&&D.eqs r q):=rfl
theorem tD{n:Nat}{a:D}{r:List D}:D.pls (n+1) (a::r)=(D.pl n a&&D.pls (n+1) r):=rfl
mutual
theorem D.eqb_refl:∀(n:Nat)(d:D),D.pl n d=true->D.eqb d d=true
 |_,.non,_=>rfl
 |_,.bl a,_=>by show(a==a)=true;simp
 |_,.int i,_=>by show(i==i)=true;simp
 |_,.str x,_=>by show(x==x)=true;simp
 |n,.tup a,h=>by rw[oJ];exact D.eqs_refl n a h
 |n,.lst a,h=>by rw[oK];exact D.eqs_refl n a h
 |_,.dct a,h=>by cases h
 |_,.tdc a,h=>by cases h
theorem D.eqs_refl:∀(n:Nat)(a:List D),D.pls n a=true->D.eqs a a=true
 |_,[],_=>rfl
 |0,a::r,h=>by cases h
 |n+1,a::r,h=>by
  rw[tD,aH]at h
  rw[tB,D.eqb_refl n a h.1,D.eqs_refl (n+1) r h.2];rfl
end
noncomputable def big:Nat:=16777216
noncomputable def sIx(n d:Nat):Option Int->Nat
 |none=>d
 |some v=>if v<0 then(v+(n:Int)).toNat else min v.toNat n
noncomputable def cut{α:Type}(xs:List α)(lo hi:Option Int):List α:=(xs.drop (sIx xs.length 0 lo)).take (sIx xs.length xs.length hi-sIx xs.length 0 lo)
noncomputable def ixN(n:Nat)(i:Int):Option Nat:=if 0<=i then(if i<n then some i.toNat else none)else if -(n:Int)<=i then some (i+n).toNat else none
noncomputable def atI{α:Type}(xs:List α)(i:Int):Option α:=(ixN xs.length i).bind λj=>xs[j]?
noncomputable def iQ(i:Int):Bool:=decide (-(2^64)<i)&&decide (i<2^64)
noncomputable def D.bin:Operator->D->D->Res D
 |.Add,.int i,.int j=>.ok (.int (i+j))
 |.Add,.str x,.str y=>aE (decide (x.length+y.length<=big)) (.ok (.str (x++y)))
 |.Add,.lst a,.lst b=>aE (decide (a.length+b.length<=big)) (.ok (.lst (a++b)))
 |.Add,.tup a,.tup b=>aE (decide (a.length+b.length<=big)) (.ok (.tup (a++b)))
 |.Sub,.int i,.int j=>.ok (.int (i-j))
 |.Mult,.int i,.int j=>aE (iQ i||iQ j) (.ok (.int (i*j)))
 |.Mult,.lst a,.int j=>aE (decide (a.length=1)&&decide (0<=j)&&decide (j<=1000)) (.ok (.lst (aW j.toNat a).flatten))
 |.FloorDiv,.int i,.int j=>aE (decide (0<j)&&decide (j<1073741824)) (.ok (.int (i/j)))
 |.Mod,.int i,.int j=>aE (decide (0<j)) (.ok (.int (i%j)))
 |.Pow,.int i,.int j=>aE (decide (0<=j)&&decide (j<=1000000)&&decide (i.natAbs<2^64)) (.ok (.int (i^j.toNat)))
 |_,_,_=>.no
noncomputable def chr1(c:Nat):Str:=⟨#[c]⟩
noncomputable def tF(x:Str)(lo hi:Option Int):Str:=⟨(cut x.cps.toList lo hi).toArray⟩
noncomputable def jJ(g:List Nat):List (List Nat)->List Nat
 |[]=>[]
 |[a]=>a
 |a::b::r=>a++g++jJ g (b::r)
noncomputable def jK(g:Str)(xs:List Str):Str:=⟨(jJ g.cps.toList (xs.map λx=>x.cps.toList)).toArray⟩
noncomputable def GL(cs:List Nat):Nat:=cs.foldl (λacc c=>acc*10+(c-48)) 0
noncomputable def GM(cs:List Nat):Bool:=!cs.isEmpty&&cs.all λc=>decide (48<=c)&&decide (c<=57)
noncomputable def iB:List D->Res (List Str)
 |[]=>.ok []
 |.str x::r=>do let q<-iB r;.ok (x::q)
 |_::_=>.no
noncomputable def tH:List D->Res (List Bool)
 |[]=>.ok []
 |.bl x::r=>do let q<-tH r;.ok (x::q)
 |_::_=>.no
noncomputable def tJ(x y:Str):Res Bool:=match x.cps.toList with
 |[c]=>.ok (decide (c∈y.cps.toList))
 |_=>.no
noncomputable def dP:D->Option (Sum Int Str)
 |.int i=>some (.inl i)
 |.str x=>some (.inr x)
 |_=>none
noncomputable def bG(kvs:List (Sum Int Str×D))(k:Sum Int Str):Option D:=(kvs.find? λkv=>decide (kv.1=k)).map (·.2)
noncomputable def dQ(kvs:List (Sum Int Str×D))(k:Sum Int Str)(v:D):List (Sum Int Str×D):=
 if(kvs.any λkv=>decide (kv.1=k))=true then kvs.map (λkv=>if kv.1=k then(kv.1,v)else kv)else kvs++[(k,v)]
noncomputable def lA:List D->Option (List (Sum Int Str))
 |[]=>some []
 |d::r=>(dP d).bind λk=>(lA r).map λq=>k::q
noncomputable def fK:List D->Option (List (Sum Int Str))
 |[]=>some []
 |.int i::r=>(fK r).map λq=>.inl i::q
 |_::_=>none
noncomputable def eV:Sum Int Str->D
 |.inl i=>.int i
 |.inr x=>.str x
noncomputable def fL(kvs:List (List (Sum Int Str)×D))(k:List (Sum Int Str)):Option D:=(kvs.find? λkv=>decide (kv.1=k)).map (·.2)
noncomputable def jZ(kvs:List (List (Sum Int Str)×D))(k:List (Sum Int Str))(v:D):List (List (Sum Int Str)×D):=
 if(kvs.any λkv=>decide (kv.1=k))=true then kvs.map (λkv=>if kv.1=k then(kv.1,v)else kv)else kvs++[(k,v)]
noncomputable def Res.of{α:Type}:Option α->Res α
 |some a=>.ok a
 |none=>.no
noncomputable def D.isNon:D->Bool
 |.non=>true
 |_=>false
noncomputable def D.eqOk(a b:D):Bool:=D.pl 30 a&&D.pl 30 b
noncomputable def D.mem(x:D):List D->Bool
 |[]=>false
 |y::r=>D.eqb y x||D.mem x r
noncomputable def D.inn(x:D):D->Res Bool
 |.lst ds=>aE (D.pls 30 ds&&D.pl 29 x) (.ok (D.mem x ds))
 |.tup ds=>aE (D.pls 30 ds&&D.pl 29 x) (.ok (D.mem x ds))
 |.dct kvs=>do let k<-Res.of (dP x);.ok (bG kvs k).isSome
 |.tdc kvs=>match x with
  |.tup ks=>do let k<-Res.of (fK ks);.ok (fL kvs k).isSome
  |_=>.no
 |.str y=>match x with
  |.str z=>tJ z y
  |_=>.no
 |_=>.no
noncomputable def D.cmp:CmpOp->D->D->Res D
 |.Eq,a,b=>aE (D.eqOk a b) (.ok (.bl (D.eqb a b)))
 |.NotEq,a,b=>aE (D.eqOk a b) (.ok (.bl (!D.eqb a b)))
 |.Lt,.int i,.int j=>.ok (.bl (decide (i<j)))
 |.LtE,.int i,.int j=>.ok (.bl (decide (i<=j)))
 |.Gt,.int i,.int j=>.ok (.bl (decide (j<i)))
 |.GtE,.int i,.int j=>.ok (.bl (decide (j<=i)))
 |.Is,a,.non=>.ok (.bl a.isNon)
 |.IsNot,a,.non=>.ok (.bl (!a.isNon))
 |.Is,.bl a,.bl b=>.ok (.bl (a==b))
 |.IsNot,.bl a,.bl b=>.ok (.bl (a != b))
 |.In,a,b=>do let k<-D.inn a b;.ok (.bl k)
 |.NotIn,a,b=>do let k<-D.inn a b;.ok (.bl (!k))
 |_,_,_=>.no
noncomputable def D.truth:D->Res Bool
 |.non=>.ok false
 |.bl b=>.ok b
 |.int i=>.ok (i != 0)
 |.str x=>aE (decide (x.length<=big)) (.ok ((x.length:Int) != 0))
 |.tup a=>.ok (!a.isEmpty)
 |.lst a=>.ok (!a.isEmpty)
 |.dct _=>.no
 |.tdc _=>.no
noncomputable def D.ix:D->D->Res D
 |.lst a,.int i=>Res.of (atI a i)
 |.tup a,.int i=>Res.of (atI a i)
 |.str x,.int i=>aE (decide (x.length<=big)) (Res.of ((atI x.cps.toList i).map λc=>.str ⟨#[c]⟩))
 |.dct kvs,y=>do let k<-Res.of (dP y);Res.of (bG kvs k)
 |.tdc kvs,.tup ks=>do let k<-Res.of (fK ks);Res.of (fL kvs k)
 |_,_=>.no
noncomputable def D.part:D->Res (Option Int)
 |.non=>.ok none
 |.int i=>.ok (some i)
 |_=>.no
noncomputable def D.sl:D->Option Int->Option Int->Res D
 |.lst a,lo,hi=>.ok (.lst (cut a lo hi))
 |.tup a,lo,hi=>.ok (.tup (cut a lo hi))
 |.str x,lo,hi=>aE (decide (x.length<=big)) (.ok (.str (tF x lo hi)))
 |_,_,_=>.no
noncomputable def D.items:D->Res (List D)
 |.lst a=>.ok a
 |.tup a=>.ok a
 |.str x=>.ok (x.cps.toList.map λc=>.str (chr1 c))
 |_=>.no
noncomputable def cN:List D->Res (List Int)
 |[]=>.ok []
 |.int i::r=>do let q<-cN r;.ok (i::q)
 |_::_=>.no
noncomputable def eA(lo:Int):Nat->List D
 |0=>[]
 |n+1=>.int lo::eA (lo+1) n
noncomputable def cR(k:Int):List D->List D
 |[]=>[]
 |d::r=>.tup [.int k,d]::cR (k+1) r
noncomputable def eP(i:Int):Bool:=decide (-(2^62)<=i)&&decide (i<2^62)
inductive Ty where
 |int|bool|str|tuple|list
 deriving DecidableEq,Inhabited
noncomputable def D.isDct:D->Bool
 |.dct _=>true
 |.tdc _=>true
 |_=>false
noncomputable def D.isTy:D->Ty->Bool
 |.int _,.int=>true
 |.bl _,.int=>true
 |.bl _,.bool=>true
 |.str _,.str=>true
 |.tup _,.tuple=>true
 |.lst _,.list=>true
 |_,_=>false
inductive Bt where
 |len|sum|tuple|list|int|str|bool|abs|min|max|all|any
 deriving DecidableEq,Inhabited
noncomputable def D.len:D->Res D
 |.lst a=>.ok (.int a.length)
 |.tup a=>.ok (.int a.length)
 |.str x=>aE (decide (x.length<=big)) (.ok (.int x.length))
 |.dct a=>.ok (.int a.length)
 |_=>.no
noncomputable def D.sum:D->Res D
 |.lst a=>do let ns<-cN a;.ok (.int ns.sum)
 |_=>.no
noncomputable def D.tuple:D->Res D
 |.lst a=>.ok (.tup a)
 |.tup a=>.ok (.tup a)
 |_=>.no
noncomputable def D.list:D->Res D
 |.lst a=>.ok (.lst a)
 |.tup a=>.ok (.lst a)
 |_=>.no
noncomputable def D.toInt:D->Res D
 |.int i=>.ok (.int i)
 |.bl b=>.ok (.int (b2z b))
 |.str x=>aE (GM x.cps.toList&&decide (x.length<=640)) (.ok (.int (GL x.cps.toList)))
 |_=>.no
noncomputable def D.toStr:D->Res D
 |.int i=>aE (decide (i.natAbs.log2<1920)) (.ok (.str (Str.ofString (toString i))))
 |_=>.no
noncomputable def D.toBool:D->Res D
 |.int i=>.ok (.bl (i != 0))
 |.bl b=>.ok (.bl b)
 |_=>.no
noncomputable def D.abs:D->Res D
 |.int i=>.ok (.int (if i<0 then -i else i))
 |_=>.no
noncomputable def D.all:D->Res D
 |.lst a=>do let q<-tH a;.ok (.bl (q.all id))
 |_=>.no
noncomputable def D.any:D->Res D
 |.lst a=>do let q<-tH a;.ok (.bl (q.any id))
 |_=>.no
noncomputable def maxI:Int->List Int->Int
 |m,[]=>m
 |m,n::r=>maxI (if n>m then n else m) r
noncomputable def minI:Int->List Int->Int
 |m,[]=>m
 |m,n::r=>minI (if n<m then n else m) r
noncomputable def D.maxL:D->Res D
 |.lst a=>do
  match<-cN a with
  |n::ns=>.ok (.int (maxI n ns))
  |[]=>.no
 |.tup a=>do
  match<-cN a with
  |n::ns=>.ok (.int (maxI n ns))
  |[]=>.no
 |_=>.no
noncomputable def D.minL:D->Res D
 |.lst a=>do
  match<-cN a with
  |n::ns=>.ok (.int (minI n ns))
  |[]=>.no
 |.tup a=>do
  match<-cN a with
  |n::ns=>.ok (.int (minI n ns))
  |[]=>.no
 |_=>.no
noncomputable def D.min2:D->D->Res D
 |.int i,.int j=>.ok (.int (if j<i then j else i))
 |_,_=>.no
noncomputable def D.max2:D->D->Res D
 |.int i,.int j=>.ok (.int (if j>i then j else i))
 |_,_=>.no
noncomputable def Bt.one:Bt->D->Res D
 |.len=>D.len
 |.sum=>D.sum
 |.tuple=>D.tuple
 |.list=>D.list
 |.int=>D.toInt
 |.str=>D.toStr
 |.bool=>D.toBool
 |.abs=>D.abs
 |.all=>D.all
 |.any=>D.any
 |.min=>D.minL
 |.max=>D.maxL
noncomputable def Bt.two:Bt->D->D->Res D
 |.min=>D.min2
 |.max=>D.max2
 |_=>λ_ _=>.no
noncomputable def Bt.run(b:Bt):List D->Res D
 |[d]=>b.one d
 |[d,d']=>b.two d d'
 |_=>.no
noncomputable def oM(ns:List Int):List D:=((aD 8).filter λi:Nat=>ns.contains (i:Int)).map λi:Nat=>D.int (i:Int)
noncomputable def oN:D->Res D
 |.lst a=>do let ns<-cN a;aE (ns.all λn=>decide (0<=n)&&decide (n<8)) (.ok (.lst (oM ns)))
 |_=>.no
noncomputable def oO:D->Res (List (Sum Int Str))
 |.tup ks=>Res.of (fK ks)
 |_=>.no
noncomputable def mL:D->Res (List D)
 |.tdc kvs=>.ok (kvs.map λkv=>.tup (kv.1.map eV))
 |.dct kvs=>.ok (kvs.map λkv=>eV kv.1)
 |_=>.no
noncomputable def fC(n:Int):List Int->List Int
 |[]=>[n]
 |m::r=>if n<=m then n::m::r else m::fC n r
noncomputable def dR:List Int->List Int
 |[]=>[]
 |n::r=>fC n (dR r)
noncomputable def srtR:D->Res D
 |.lst a=>do let ns<-cN a;aE (decide (ns.length<64)) (.ok (.lst ((dR ns).map D.int)))
 |_=>.no
inductive Mt where
 |join
 deriving DecidableEq,Inhabited
noncomputable def Mt.run:Mt->D->D->Res D
 |.join,.str g,.lst ds=>do
  let xs<-iB ds
  aE (decide (g.length<=64)&&decide ((xs.map (·.length)).sum+xs.length*64<=big)) (.ok (.str (jK g xs)))
 |_,_,_=>.no
noncomputable def iR:List D->Res (List (Sum Int Str))
 |[]=>.ok []
 |d::r=>do let k<-Res.of (dP d);let q<-iR r;.ok (k::q)
noncomputable def D.keys:D->Res (List (Sum Int Str))
 |.lst ds=>iR ds
 |.str x=>.ok (x.cps.toList.map λc=>.inr ⟨#[c]⟩)
 |_=>.no
noncomputable def kA(ks:List (Sum Int Str)):List (Sum Int Str):=ks.foldl (λacc k=>if acc.any (λx=>decide (x=k))then acc else acc++[k]) []
noncomputable def D.setN(x:D):Res D:=match x.keys with
 |.ok ks=>aE (decide (ks.length+1<4096)) (.ok (.int (kA ks).length))
 |_=>.no
noncomputable def eW:List Int->List Int->Bool
 |[],[]=>false
 |[],_::_=>true
 |_::_,[]=>false
 |a::x,b::y=>if a=b then eW x y else decide (a<b)
noncomputable def mM{α:Type}(lt:Nat->Nat->Bool):PySem.W.KasT α->α
 |.ret a=>a
 |.ask i j k=>mM lt (k (lt i j))
noncomputable def eQ(kss:List (List Int)):List Nat:=(mM (λi j=>eW (kss.getD i []) (kss.getD j [])) (PySem.W.kas_sort kss.length)).toList
noncomputable def jL:List D->Res (List (List Int))
 |[]=>.ok []
 |.tup ks::r=>do let a<-cN ks;let q<-jL r;.ok (a::q)
 |_::_=>.no
noncomputable def tK:D->Res D
 |.lst ds=>do
  match<-jL ds with
  |[]::kss=>aE (decide (2<=ds.length)&&decide (ds.length<64)) (.ok (.lst ((eQ ([]::kss)).map λi=>ds.getD i .non)))
  |_=>.no
 |_=>.no
noncomputable def dklR:D->Res D
 |.tdc kvs=>aE (decide (kvs.length<64)) (.ok (.lst (kvs.map λkv=>.tup (kv.1.map eV))))
 |_=>.no
set_option genInjectivity false in
inductive G where
 |one (i:Nat)|many (is:List Nat)
 deriving Inhabited
set_option genInjectivity false in
inductive E where
 |var (i:Nat)|rd (i:Nat)|con (d:D)|glob (g:Nat)
 |bin (o:Operator) (a b:E)|cmp (o:CmpOp) (a b:E)
 |and (a b:E)|or (a b:E)|not (a:E)|neg (a:E)|ife (c a b:E)
 |ix (a b:E)|sl (a lo hi:E)|omit
 |tup (a:E)|lst (a:E)|anil|acons (a r:E)
 |call (f:Nat) (a:E)|bt (b:Bt) (a:E)|isi (a:E) (t:Ty)
 |comp (own:Nat) (caps:List Nat) (g:G) (elt src cond:E)
 |seq (a:E)|rng (a:E)|rng2 (a b:E)|enum (a:E)
 |mth (m:Mt) (a b:E)
 |lset (a:E)
 |dck (a:E)|seqD (a:E)|srt (a:E)|srtT (a:E)|dkl (a:E)|sset (a:E)
 deriving Inhabited
set_option genInjectivity false in
inductive S where
 |nil|cons (a r:S)
 |ret (e:E)|retO (i:Nat)
 |asg (g:G) (e:E)|asgO (i:Nat) (e:E)|sealed (i:Nat)
 |ite (c:E) (a b:S)|forS (g:G) (src:E) (b:S)
 |app (i:Nat) (e:E)|rev (i:Nat)
 |ext (i:Nat) (e:E)
 |never
 |exp (e:E)
 |newD (i:Nat)|newT (i:Nat)|dputV (i:Nat) (k v:E)|asgN (i:Nat) (e:E)
 |extN (i j:Nat)|dputR (i:Nat) (k v:E)|retR (e:E) (i j:Nat)|ifR (neg:Bool) (c:E) (f:Nat) (x:E) (i j:Nat) (y:E) (a b:S)
 deriving Inhabited
inductive Sl where
 |no|v (d:D)|o (d:D)|t (ds:List D)|n (d:D)|r (a:Nat) (d:D)
 deriving Inhabited
noncomputable abbrev Nv:=List Sl
noncomputable def Nv.at(e:Nv)(i:Nat):Sl:=(e[i]?).getD .no
noncomputable def Sl.val:Sl->Res D
 |.v d=>.ok d
 |.n d=>.ok d
 |_=>.no
noncomputable def Sl.any:Sl->Res D
 |.v d=>.ok d
 |.n d=>.ok d
 |.o d=>.ok d
 |.r _ d=>.ok d
 |_=>.no
noncomputable def Sl.own:Sl->Res (List D)
 |.o (.lst a)=>.ok a
 |_=>.no
noncomputable def Sl.refD:Sl->Res (Nat×List (Sum Int Str×D))
 |.r a (.dct k)=>.ok (a,k)
 |_=>.no
noncomputable def Sl.givD:Sl->Res (List (Sum Int Str×D))
 |.o (.dct k)=>.ok k
 |.r _ (.dct k)=>.ok k
 |_=>.no
noncomputable def Sl.giv(x:Sl)(d:D):Sl:=match x with
 |.r a _=>.r a d
 |_=>.o d
noncomputable def Sl.ownT:Sl->Res (List (List (Sum Int Str)×D))
 |.o (.tdc a)=>.ok a
 |_=>.no
noncomputable def Sl.ownA:Sl->Res D
 |.o d=>.ok d
 |_=>.no
noncomputable def cY:List Nat->List D->Nv->Res Nv
 |[],[],e=>.ok e
 |i::r,d::q,e=>cY r q (e.set i (.v d))
 |_,_,_=>.no
noncomputable def G.put:G->D->Nv->Res Nv
 |.one i,d,e=>.ok (e.set i (.v d))
 |.many is,.tup ds,e=>cY is ds e
 |_,_,_=>.no
noncomputable def aQ(own:Nat)(caps:List Nat)(e:Nv):Nv:=aW own Sl.no++caps.map λi=>e.at i
noncomputable def jM:List (Sum Int Str×D)->Res (List Int)
 |[]=>.ok []
 |(.inl n,_)::r=>do let q<-jM r;.ok (n::q)
 |_=>.no
noncomputable def iC:List D->Res (List (Sum Int Str×D))
 |[]=>.ok []
 |.tup [k,v]::r=>do let k<-Res.of (dP k);let q<-iC r;.ok ((k,v)::q)
 |_=>.no
noncomputable def eR(qs kvs:List (Sum Int Str×D)):List (Sum Int Str×D):=qs.foldl (λm q=>dQ m q.1 q.2) kvs
noncomputable def mN:D->Res D
 |.lst ds=>do let qs<-iC ds;.ok (.dct (eR qs []))
 |_=>.no
noncomputable def mO:D->Res D
 |.dct kvs=>do let ns<-jM kvs;aE (decide (ns.length<64)) (.ok (.lst ((dR ns).map D.int)))
 |.lst a=>srtR (.lst a)
 |_=>.no
set_option genInjectivity false in
structure Tab where
 glob:Nat->D
 fresh:Nat->Bool
 mv:Nat->Option Nat:=λ_=>none
section
variable(T:Tab)(cf:Nat->List D->Res D)
noncomputable def mP:List D->Bool
 |.lst _::_=>true
 |.int _::r=>mP r
 |.str _::r=>mP r
 |_=>false
noncomputable def kB:D->Bool
 |.tup ds=>mP ds
 |_=>false
noncomputable def D.flatL:D->Bool
 |.lst ds=>D.flats ds
 |_=>false
noncomputable def bL:E->Bool
 |.lst _=>true
 |.sl _ _ _=>true
 |.bin .Add _ _=>true
 |.comp _ _ _ _ _ _=>true
 |.bt .list _=>true
 |.sset _=>true
 |.call f _=>T.fresh f
 |.srt _=>true
 |.srtT _=>true
 |.dkl _=>true
 |_=>false
noncomputable def A1:E->Nat->E
 |.acons a _,0=>a
 |.acons _ r,n+1=>A1 r n
 |_,_=>.omit
noncomputable def Sl.isN:Sl->Bool
 |.n _=>true
 |_=>false
noncomputable def mQ(x:E)(e:Nv):Bool:=bL T x||(match x with | .var j=>(e.at j).isN|_=>false)
noncomputable def aR(f:D->Res (Option D)):List D->Res (List D)
 |[]=>.ok []
 |d::r=>do
  let x<-f d
  let q<-aR f r
  match x with
  |some y=>.ok (y::q)
  |none=>.ok q
mutual
noncomputable def evE:E->Nv->Res D
 |.var i,e=>(e.at i).val
 |.rd i,e=>(e.at i).any
 |.con d,_=>.ok d
 |.glob g,_=>.ok (T.glob g)
 |.bin o a b,e=>do let x<-evE a e;let y<-evE b e;D.bin o x y
 |.cmp o a b,e=>do let x<-evE a e;let y<-evE b e;D.cmp o x y
 |.and a b,e=>do let x<-evE a e;let k<-x.truth;if k then evE b e else .ok x
 |.or a b,e=>do let x<-evE a e;let k<-x.truth;if k then .ok x else evE b e
 |.not a,e=>do let x<-evE a e;let k<-x.truth;.ok (.bl (!k))
 |.neg a,e=>do
  match<-evE a e with
  |.int i=>.ok (.int (-i))
  |_=>.no
 |.ife c a b,e=>do let x<-evE c e;let k<-x.truth;if k then evE a e else evE b e
 |.ix a b,e=>do let x<-evE a e;let y<-evE b e;D.ix x y
 |.sl a lo hi,e=>do let x<-evE a e;let l<-evE lo e;let l<-l.part;let h<-evE hi e;let h<-h.part;D.sl x l h
 |.omit,_=>.ok .non
 |.tup a,e=>do let xs<-evA a e;.ok (.tup xs)
 |.lst a,e=>do let xs<-evA a e;.ok (.lst xs)
 |.call f a,e=>do let xs<-evA a e;cf f xs
 |.srt a,e=>do let x<-evE a e;mO x
 |.srtT a,e=>do let x<-evE a e;tK x
 |.dkl a,e=>do let x<-evE a e;dklR x
 |.dck a,e=>do let x<-evE a e;mN x
 |.bt b a,e=>do let xs<-evA a e;b.run xs
 |.isi a t,e=>do let x<-evE a e;aE (!x.isDct) (.ok (.bl (x.isTy t)))
 |.mth m a b,e=>do let x<-evE a e;let y<-evE b e;m.run x y
 |.lset a,e=>do let x<-evE a e;x.setN
 |.sset a,e=>do let x<-evE a e;oN x
 |.comp own caps g elt src cond,e=>do
  let ds<-evI src e
  let ys<-aR (λd=>do
   let e1<-g.put d (aQ own caps e)
   let c<-evE cond e1
   let k<-c.truth
   if k then do let y<-evE elt e1;.ok (some y)else .ok none) ds
  aE (decide (ds.length<=big)) (.ok (.lst ys))
 |_,_=>.no
noncomputable def evA:E->Nv->Res (List D)
 |.anil,_=>.ok []
 |.acons a r,e=>do let x<-evE a e;let q<-evA r e;aE (decide (q.length<1000)) (.ok (x::q))
 |_,_=>.no
noncomputable def evI:E->Nv->Res (List D)
 |.seq a,e=>do let x<-evE a e;x.items
 |.rng a,e=>do
  match<-evE a e with
  |.int n=>aE (eP n) (.ok (eA 0 n.toNat))
  |_=>.no
 |.rng2 a b,e=>do
  match<-evE a e with
  |.int n=>do
   match<-evE b e with
   |.int m=>aE (eP n&&eP m) (.ok (eA n (m-n).toNat))
   |_=>.no
  |_=>.no
 |.enum a,e=>do
  match<-evE a e with
  |.lst ds=>.ok (cR 0 ds)
  |_=>.no
 |.seqD a,e=>do let x<-evE a e;mL x
 |_,_=>.no
end
noncomputable def D.isInt:D->Bool
 |.int _=>true
 |_=>false
inductive Out where
 |nx (e:Nv)|rt (d:D) (fresh:Bool)|bk (e:Nv)|ct (e:Nv)|rr (d:D) (a:Nat) (j:List (Sum Int Str×D)) (b:Nat) (k:List (Sum Int Str×D))
 deriving Inhabited
noncomputable def bC(f:D->Nv->Res Out):List D->Nv->Res Out
 |[],e=>.ok (.nx e)
 |d::r,e=>do
  match<-f d e with
  |.nx e1=>bC f r e1
  |.ct e1=>bC f r e1
  |.bk e1=>.ok (.nx e1)
  |.rt x k=>.ok (.rt x k)
  |.rr x a j b k=>.ok (.rr x a j b k)
noncomputable def fX(f:Nat)(x:D)(j k:List (Sum Int Str×D))(y:D):Res (D×List (Sum Int Str×D)×List (Sum Int Str×D)):=
 open Classical in if h:∃r:D×List (Sum Int Str×D)×List (Sum Int Str×D),∀a b:Nat,a≠b->cf f [x,.tup [.int a,.dct j],.tup [.int b,.dct k],y]=.ok (.tup [r.1,.dct r.2.1,.dct r.2.2])then .ok h.choose else .no
noncomputable def exS:S->Nv->Res Out
 |.nil,e=>.ok (.nx e)
 |.cons a r,e=>do
  match<-exS a e with
  |.nx e1=>exS r e1
  |o=>.ok o
 |.ret x,e=>do let d<-evE T cf x e;.ok (.rt d (bL T x&&!kB d))
 |.retO i,e=>do let a<-(e.at i).ownA;.ok (.rt a (!a.isDct))
 |.asg g x,e=>do let d<-evE T cf x e;let e1<-g.put d e;.ok (.nx e1)
 |.asgO i x,e=>do
  match<-evE T cf x e with
  |.lst a=>aE (bL T x) (.ok (.nx (e.set i (.o (.lst a)))))
  |.dct a=>aE (bL T x) (.ok (.nx (e.set i (.o (.dct a)))))
  |.tdc a=>aE (bL T x) (.ok (.nx (e.set i (.o (.tdc a)))))
  |_=>.no
 |.sealed i,e=>do let a<-(e.at i).ownA;.ok (.nx (e.set i (.v a)))
 |.ite c a b,e=>do let x<-evE T cf c e;let k<-x.truth;if k then exS a e else exS b e
 |.forS g src b,e=>do
  let ds<-evI T cf src e
  bC (λd e0=>do let e1<-g.put d e0;exS b e1) ds e
 |.app i x,e=>do
  let d<-evE T cf x e
  let a<-(e.at i).own
  aE (decide (a.length<big)) (.ok (.nx (e.set i (.o (.lst (a++[d]))))))
 |.rev i,e=>do
  let a<-(e.at i).own
  .ok (.nx (e.set i (.o (.lst a.reverse))))
 |.newD i,e=>.ok (.nx (e.set i (.o (.dct []))))
 |.newT i,e=>.ok (.nx (e.set i (.o (.tdc []))))
 |.dputV i k x,e=>do
  let d<-evE T cf x e
  let a<-(e.at i).ownT
  let y<-evE T cf k e
  let key<-oO y
  aE (decide (a.length<big)) (.ok (.nx (e.set i (.o (.tdc (jZ a key d))))))
 |.ext i x,e=>do
  match<-evE T cf x e with
  |.lst b=>do
   let a<-(e.at i).own
   aE (bL T x&&decide (a.length+b.length<=big)) (.ok (.nx (e.set i (.o (.lst (a++b))))))
  |_=>.no
 |.never,_=>.no
 |.exp x,e=>do let _<-evE T cf x e;.ok (.nx e)
 |.asgN i x,e=>do let d<-evE T cf x e;aE (mQ T x e&&(d.isNon||d.flatL)) (.ok (.nx (e.set i (.n d))))
 |.extN i j,e=>
  match e.at j with
  |.n (.lst b)=>do
   let a<-(e.at i).own
   aE (decide (a.length+b.length<=big)) (.ok (.nx (e.set i (.o (.lst (a++b))))))
  |_=>.no
 |.dputR i k x,e=>do
  let d<-evE T cf x e
  let a<-(e.at i).refD
  let y<-evE T cf k e
  let key<-Res.of (dP y)
  aE (decide (a.2.length<big)) (.ok (.nx (e.set i (.r a.1 (.dct (dQ a.2 key d))))))
 |.retR x i j,e=>do
  let d<-evE T cf x e
  let a<-(e.at i).refD
  let b<-(e.at j).refD
  .ok (.rr d a.1 a.2 b.1 b.2)
 |.ifR neg c f x i j y a b,e=>aE (decide (T.mv f=some 1000)&&decide (i≠j)) (do
  let k0<-(if neg then .ok false else do let z<-evE T cf c e;z.truth)
  if k0 then exS a e else do
   let d1<-evE T cf x e
   let g<-(e.at i).givD
   let h<-(e.at j).givD
   let d2<-evE T cf y e
   let r<-fX cf f d1 g h d2
   let k<-r.1.truth
   let e1:=(e.set i ((e.at i).giv (.dct r.2.1))).set j ((e.at j).giv (.dct r.2.2))
   if(k != neg)then exS a e1 else exS b e1)
noncomputable def exX(T:Tab)(cf:Nat->List D->Res D)(_:S)(_:Nv):Option (Str×D):=none
end
structure Told where
 b:S
 c:Str
 yes:D
 thr:D
 ini:D:=.non
 num:Bool:=false
 deriving Inhabited
set_option genInjectivity false in
structure Df where
 names:Nat
 pars:Nat
 body:S
 told:Option Told:=none
 deriving Inhabited
noncomputable def eG(mv:Option Nat)(ds:List D):Nv:=match mv with
 |none=>ds.map Sl.v
 |some j=>(ds.map Sl.v).set j (.n (ds.getD j .non))
noncomputable def A2:List D->Option (Nat×Nat×Nv)
 |[x,.tup [.int a,.dct j],.tup [.int b,.dct k],y]=>some (a.toNat,b.toNat,[.v x,.r a.toNat (.dct j),.r b.toNat (.dct k),.v y])
 |_=>none
noncomputable def aB(T:Tab)(defs:List Df):Nat->Nat->List D->Res D
 |0,_,_=>.no
 |n+1,f,ds=>
  match defs[f]? with
  |none=>.no
  |some d=>
   aE (ds.length==d.pars) (match d.told with
    |none=>if T.mv f=some 1000 then(match A2 ds with
     |none=>.no
     |some z=>match exS T (aB T defs n) d.body (z.2.2++aW (d.names-d.pars) Sl.no)with
      |.ok (.rr x a j b k)=>aE (a==z.1&&b==z.2.1) (.ok (.tup [x,.dct j,.dct k]))
      |_=>.no)else match exX T (aB T defs n) d.body (eG (T.mv f) ds++aW (d.names-d.pars) Sl.no)with
     |some z=>.err z.1 z.2
     |none=>match exS T (aB T defs n) d.body (eG (T.mv f) ds++aW (d.names-d.pars) Sl.no)with
      |.ok (.rt x k)=>aE (k||!T.fresh f) (.ok x)
      |.ok (.nx _)=>aE (!T.fresh f) (.ok .non)
      |_=>.no
    |some t=>match exX T (aB T defs n) t.b (ds.map Sl.v++[.v t.ini,.no])with
     |some z=>aE (z.1==t.c&&!T.fresh f) (if t.num then(match z.2 with | .int v=>.ok (.int v)|_=>.no)else .ok t.yes)
     |none=>match exS T (aB T defs n) t.b (ds.map Sl.v++[.v t.ini,.no])with
      |.ok (.nx _)=>aE (!T.fresh f) (.ok t.thr)
      |_=>.no)
theorem lB{T:Tab}{defs:List Df}{n f:Nat}{ds:List D}:aB T defs (n+1) f ds=(
 match defs[f]? with
 |none=>.no
 |some d=>
  aE (ds.length==d.pars) (match d.told with
   |none=>if T.mv f=some 1000 then(match A2 ds with
    |none=>.no
    |some z=>match exS T (aB T defs n) d.body (z.2.2++aW (d.names-d.pars) Sl.no)with
     |.ok (.rr x a j b k)=>aE (a==z.1&&b==z.2.1) (.ok (.tup [x,.dct j,.dct k]))
     |_=>.no)else match exX T (aB T defs n) d.body (eG (T.mv f) ds++aW (d.names-d.pars) Sl.no)with
    |some z=>.err z.1 z.2
    |none=>match exS T (aB T defs n) d.body (eG (T.mv f) ds++aW (d.names-d.pars) Sl.no)with
     |.ok (.rt x k)=>aE (k||!T.fresh f) (.ok x)
     |.ok (.nx _)=>aE (!T.fresh f) (.ok .non)
     |_=>.no
   |some t=>match exX T (aB T defs n) t.b (ds.map Sl.v++[.v t.ini,.no])with
    |some z=>aE (z.1==t.c&&!T.fresh f) (if t.num then(match z.2 with | .int v=>.ok (.int v)|_=>.no)else .ok t.yes)
    |none=>match exS T (aB T defs n) t.b (ds.map Sl.v++[.v t.ini,.no])with
     |.ok (.nx _)=>aE (!T.fresh f) (.ok t.thr)
     |_=>.no)):=rfl
section
variable{T:Tab}{cf:Nat->List D->Res D}{e:Nv}
theorem tL{i:Nat}:evE T cf (.var i) e=((e.at i).val):=rfl
theorem oP{i:Nat}:evE T cf (.rd i) e=((e.at i).any):=rfl
theorem tM{d:D}:evE T cf (.con d) e=(.ok d):=rfl
theorem GN{g:Nat}:evE T cf (.glob g) e=(.ok (T.glob g)):=rfl
theorem xE_cmp{o:CmpOp}{a:E}{b:E}:evE T cf (.cmp o a b) e=(do let x<-evE T cf a e;let y<-evE T cf b e;D.cmp o x y):=rfl
theorem A3{a:E}{b:E}:evE T cf (.and a b) e=(do let x<-evE T cf a e;let k<-x.truth;if k then evE T cf b e else .ok x):=rfl
theorem A4{a:E}{b:E}:evE T cf (.or a b) e=(do let x<-evE T cf a e;let k<-x.truth;if k then .ok x else evE T cf b e):=rfl
theorem A5{a:E}:evE T cf (.not a) e=(do let x<-evE T cf a e;let k<-x.truth;.ok (.bl (!k))):=rfl
theorem A6{a:E}:evE T cf (.neg a) e=(do
 match<-evE T cf a e with
 |.int i=>.ok (.int (-i))
 |_=>.no):=rfl
theorem A7{c:E}{a:E}{b:E}:evE T cf (.ife c a b) e=(do let x<-evE T cf c e;let k<-x.truth;if k then evE T cf a e else evE T cf b e):=rfl
theorem A8{a:E}{lo:E}{hi:E}:evE T cf (.sl a lo hi) e=(do let x<-evE T cf a e;let l<-evE T cf lo e;let l<-l.part;let h<-evE T cf hi e;let h<-h.part;D.sl x l h):=rfl
theorem GO  : evE T cf (.«omit») e=(.ok .non):=rfl
theorem tO{a:E}:evE T cf (.tup a) e=(do let xs<-evA T cf a e;.ok (.tup xs)):=rfl
theorem iS{a:E}:evE T cf (.lst a) e=(do let xs<-evA T cf a e;.ok (.lst xs)):=rfl
theorem A9{f:Nat}{a:E}:evE T cf (.call f a) e=(do let xs<-evA T cf a e;cf f xs):=rfl
theorem GP{a:E}:evI T cf (.seqD a) e=(do let x<-evE T cf a e;mL x):=rfl
theorem A_{a:E}:evE T cf (.srtT a) e=(do let x<-evE T cf a e;tK x):=rfl
theorem Aa{a:E}:evE T cf (.dkl a) e=(do let x<-evE T cf a e;dklR x):=rfl
theorem xE_srt{a:E}:evE T cf (.srt a) e=(do let x<-evE T cf a e;mO x):=rfl
theorem xE_dck{a:E}:evE T cf (.dck a) e=(do let x<-evE T cf a e;mN x):=rfl
theorem xE_bt{b:Bt}{a:E}:evE T cf (.bt b a) e=(do let xs<-evA T cf a e;b.run xs):=rfl
theorem xE_isi{a:E}{t:Ty}:evE T cf (.isi a t) e=(do let x<-evE T cf a e;aE (!x.isDct) (.ok (.bl (x.isTy t)))):=rfl
theorem xE_mth{m:Mt}{a:E}{b:E}:evE T cf (.mth m a b) e=(do let x<-evE T cf a e;let y<-evE T cf b e;m.run x y):=rfl
theorem GQ{a:E}:evE T cf (.lset a) e=(do let x<-evE T cf a e;x.setN):=rfl
theorem GR{a:E}:evE T cf (.sset a) e=(do let x<-evE T cf a e;oN x):=rfl
theorem Ab{own:Nat}{caps:List Nat}{g:G}{elt:E}{src:E}{cond:E}:evE T cf (.comp own caps g elt src cond) e=(do
 let ds<-evI T cf src e
 let ys<-aR (λd=>do
  let e1<-g.put d (aQ own caps e)
  let c<-evE T cf cond e1
  let k<-c.truth
  if k then do let y<-evE T cf elt e1;.ok (some y)else .ok none) ds
 aE (decide (ds.length<=big)) (.ok (.lst ys))):=rfl
theorem oQ  : evA T cf (.anil) e=(.ok []):=rfl
theorem oR{a:E}{r:E}:evA T cf (.acons a r) e=(do let x<-evE T cf a e;let q<-evA T cf r e;aE (decide (q.length<1000)) (.ok (x::q))):=rfl
theorem xI_seq{a:E}:evI T cf (.seq a) e=(do let x<-evE T cf a e;x.items):=rfl
theorem Ac{a:E}:evI T cf (.rng a) e=(do
 match<-evE T cf a e with
 |.int n=>aE (eP n) (.ok (eA 0 n.toNat))
 |_=>.no):=rfl
theorem Ad{a:E}{b:E}:evI T cf (.rng2 a b) e=(do
 match<-evE T cf a e with
 |.int n=>do
  match<-evE T cf b e with
  |.int m=>aE (eP n&&eP m) (.ok (eA n (m-n).toNat))
  |_=>.no
 |_=>.no):=rfl
theorem Ae{a:E}:evI T cf (.enum a) e=(do
 match<-evE T cf a e with
 |.lst ds=>.ok (cR 0 ds)
 |_=>.no):=rfl
theorem xS_nil  : exS T cf (.nil) e=(.ok (.nx e)):=rfl
theorem oS{a:S}{r:S}:exS T cf (.cons a r) e=(do
 match<-exS T cf a e with
 |.nx e1=>exS T cf r e1
 |o=>.ok o):=rfl
theorem xS_ret{x:E}:exS T cf (.ret x) e=(do let d<-evE T cf x e;.ok (.rt d (bL T x&&!kB d))):=rfl
theorem GS{i:Nat}:exS T cf (.retO i) e=(do let a<-(e.at i).ownA;.ok (.rt a (!a.isDct))):=rfl
theorem oT{g:G}{x:E}:exS T cf (.asg g x) e=(do let d<-evE T cf x e;let e1<-g.put d e;.ok (.nx e1)):=rfl
theorem oU{i:Nat}{x:E}:exS T cf (.asgO i x) e=(do
 match<-evE T cf x e with
 |.lst a=>aE (bL T x) (.ok (.nx (e.set i (.o (.lst a)))))
 |.dct a=>aE (bL T x) (.ok (.nx (e.set i (.o (.dct a)))))
 |.tdc a=>aE (bL T x) (.ok (.nx (e.set i (.o (.tdc a)))))
 |_=>.no):=rfl
theorem Af{i:Nat}:exS T cf (.«sealed» i) e=(do let a<-(e.at i).ownA;.ok (.nx (e.set i (.v a)))):=rfl
theorem xS_ite{c:E}{a:S}{b:S}:exS T cf (.ite c a b) e=(do let x<-evE T cf c e;let k<-x.truth;if k then exS T cf a e else exS T cf b e):=rfl
theorem GT{g:G}{src:E}{b:S}:exS T cf (.forS g src b) e=(do
 let ds<-evI T cf src e
 bC (λd e0=>do let e1<-g.put d e0;exS T cf b e1) ds e):=rfl
theorem xS_app{i:Nat}{x:E}:exS T cf (.app i x) e=(do
 let d<-evE T cf x e
 let a<-(e.at i).own
 aE (decide (a.length<big)) (.ok (.nx (e.set i (.o (.lst (a++[d]))))))):=rfl
theorem xS_rev{i:Nat}:exS T cf (.rev i) e=(do
 let a<-(e.at i).own
 .ok (.nx (e.set i (.o (.lst a.reverse))))):=rfl
theorem GU{f:Nat}{x y:D}{j k:List (Sum Int Str×D)}{r:D×List (Sum Int Str×D)×List (Sum Int Str×D)}(h:fX cf f x j k y=.ok r):∀a b:Nat,a≠b->cf f [x,.tup [.int a,.dct j],.tup [.int b,.dct k],y]=.ok (.tup [r.1,.dct r.2.1,.dct r.2.2]):=by
 unfold fX at h
 split at h
 ·rename_i hx
  injection h with h
  rw[<-h]
  exact hx.choose_spec
 ·cases h
theorem Ag{f:Nat}{x y:D}{j k:List (Sum Int Str×D)}{r:D×List (Sum Int Str×D)×List (Sum Int Str×D)}(h:∀a b:Nat,a≠b->cf f [x,.tup [.int a,.dct j],.tup [.int b,.dct k],y]=.ok (.tup [r.1,.dct r.2.1,.dct r.2.2])):fX cf f x j k y=.ok r:=by
 unfold fX
 have hx:∃r:D×List (Sum Int Str×D)×List (Sum Int Str×D),∀a b:Nat,a≠b->cf f [x,.tup [.int a,.dct j],.tup [.int b,.dct k],y]=.ok (.tup [r.1,.dct r.2.1,.dct r.2.2]):=⟨r,h⟩
 rw[dif_pos hx]
 have h1:=hx.choose_spec 0 1 (by lia)
 rw[h 0 1 (by lia)]at h1
 injection h1 with h1
 injection h1 with h1
 injection h1 with a1 h1
 injection h1 with a2 h1
 injection h1 with a3 _
 injection a2 with a2
 injection a3 with a3
 have:hx.choose=r:=Prod.ext a1.symm (Prod.ext a2.symm a3.symm)
 rw[this]
theorem Ah{i j:Nat}:exS T cf (.extN i j) e=(
 match e.at j with
 |.n (.lst b)=>do
  let a<-(e.at i).own
  aE (decide (a.length+b.length<=big)) (.ok (.nx (e.set i (.o (.lst (a++b))))))
 |_=>.no):=rfl
theorem GV{i:Nat}{k:E}{x:E}:exS T cf (.dputR i k x) e=(do
 let d<-evE T cf x e
 let a<-(e.at i).refD
 let y<-evE T cf k e
 let key<-Res.of (dP y)
 aE (decide (a.2.length<big)) (.ok (.nx (e.set i (.r a.1 (.dct (dQ a.2 key d))))))):=rfl
theorem GW{x:E}{i j:Nat}:exS T cf (.retR x i j) e=(do
 let d<-evE T cf x e
 let a<-(e.at i).refD
 let b<-(e.at j).refD
 .ok (.rr d a.1 a.2 b.1 b.2)):=rfl
theorem lC{neg:Bool}{c x y:E}{f i j:Nat}{a b:S}:exS T cf (.ifR neg c f x i j y a b) e=aE (decide (T.mv f=some 1000)&&decide (i≠j)) (do
 let k0<-(if neg then .ok false else do let z<-evE T cf c e;z.truth)
 if k0 then exS T cf a e else do
  let d1<-evE T cf x e
  let g<-(e.at i).givD
  let h<-(e.at j).givD
  let d2<-evE T cf y e
  let r<-fX cf f d1 g h d2
  let k<-r.1.truth
  let e1:=(e.set i ((e.at i).giv (.dct r.2.1))).set j ((e.at j).giv (.dct r.2.2))
  if(k != neg)then exS T cf a e1 else exS T cf b e1):=rfl
theorem GX{i:Nat}:exS T cf (.newD i) e=.ok (.nx (e.set i (.o (.dct [])))):=rfl
theorem GY{i:Nat}:exS T cf (.newT i) e=.ok (.nx (e.set i (.o (.tdc [])))):=rfl
theorem GZ{i:Nat}{k:E}{x:E}:exS T cf (.dputV i k x) e=(do
 let d<-evE T cf x e
 let a<-(e.at i).ownT
 let y<-evE T cf k e
 let key<-oO y
 aE (decide (a.length<big)) (.ok (.nx (e.set i (.o (.tdc (jZ a key d))))))):=rfl
theorem Ai{i:Nat}{x:E}:exS T cf (.ext i x) e=(do
 match<-evE T cf x e with
 |.lst b=>do
  let a<-(e.at i).own
  aE (bL T x&&decide (a.length+b.length<=big)) (.ok (.nx (e.set i (.o (.lst (a++b))))))
 |_=>.no):=rfl
theorem G0  : exS T cf (.never) e=(.no):=rfl
theorem xS_exp{x:E}:exS T cf (.exp x) e=(do let _<-evE T cf x e;.ok (.nx e)):=rfl
theorem Aj{i:Nat}{x:E}:exS T cf (.asgN i x) e=(do let d<-evE T cf x e;aE (mQ T x e&&(d.isNon||d.flatL)) (.ok (.nx (e.set i (.n d))))):=rfl
end
section
variable{T:Tab}{cf:Nat->List D->Res D}{e:Nv}
end
section
variable{T:Tab}{cf:Nat->List D->Res D}
theorem Ak{x:S}{e:Nv}{z:Str×D}(h:exX T cf x e=some z):∀o,exS T cf x e≠.ok o:=nomatch h
end
end Tr
namespace Tr
open PySem PySem.Spec PyProof.Rows L2 Builtin.Str
theorem tP{x y:Str}(h:x.cps.toList=y.cps.toList):x=y:=by
 cases x;cases y
 simp only[Str.mk.injEq]
 exact sJ.mp h
theorem G1{α:Type}(xs:List α)(a b:Nat)(hb:b<=xs.length):((aD (b-a)).map λk=>a+k).filterMap (xs[·]?)=(xs.drop a).take (b-a):=by
 generalize hn:b-a=n
 induction n generalizing a with
 |zero=>simp
 |succ n ih=>
  have ha:a<xs.length:=by lia
  rw[yX,aK,gK,cG,yY ha,List.take_succ_cons]
  simp only[Nat.add_zero,aX ha]
  congr 1
  rw[<-ih (a+1) (by lia)]
  congr 1
  apply fU
  intro k _
  simp only[Function.comp]
  lia
theorem G2{a b:Int}{p q:Nat}(ha:a=p)(hb:b=q):sliceRange a b 1=(aD (q-p)).map λk=>p+k:=by
 subst ha hb
 unfold sliceRange
 simp only[show(1:Int)>0 by decide,if_true]
 have hc:(if(p:Int)<(q:Int)then((q:Int)-(p:Int)+1-1)/1 else 0).toNat=q-p:=by
  rw[Int.ediv_one]
  split<;>lia
 rw[hc]
 apply fU
 intro k _
 lia
theorem G3(n:Nat)(lo hi:Option Int):strSliceIndices lo hi 1 n=(aD (sIx n n hi-sIx n 0 lo)).map λk=>sIx n 0 lo+k:=by
 unfold strSliceIndices
 refine G2 ?_ ?_
 ·cases lo with
  |none=>rfl
  |some v=>
   simp only[show(1:Int)>0 by decide,if_true,sIx]
   split<;>lia
 ·cases hi with
  |none=>rfl
  |some v=>
   simp only[show(1:Int)>0 by decide,if_true,sIx]
   split<;>lia
theorem Al(n d:Nat)(hd:d<=n)(o:Option Int):sIx n d o<=n:=by
 cases o with
 |none=>exact hd
 |some v=>
  simp only[sIx]
  split<;>lia
theorem G4(x:Str)(lo hi:Option Int):Txt.slice x lo hi=tF x lo hi:=by
 have hl:x.cps.toList.length=x.length:=by simp[Str.length]
 unfold Txt.slice
 rw[G3]
 have e:(List.filterMap (x.cps[·]?) ((aD (sIx x.length x.length hi-sIx x.length 0 lo)).map λk=>sIx x.length 0 lo+k))=cut x.cps.toList lo hi:=by
  have:=G1 x.cps.toList (sIx x.length 0 lo) (sIx x.length x.length hi) (by rw[hl];exact Al _ _ (aN _) _)
  unfold cut
  rw[hl,<-this]
  congr 1
  funext k
  simp
 split
 ·rename_i c
  simp only[beq_self_eq_true,Bool.true_and,aF,bQ,beq_iff_eq]at c
  refine tP ?_
  show _=(cut x.cps.toList lo hi).toArray.toList
  have h1:=Al x.length x.length (aN _) hi
  unfold cut
  by_cases hz:x.length=0
  ·have:x.cps.toList=[]:=Ei (by lia)
   rw[this];simp
  ·have h0:sIx x.length 0 lo=0:=by lia
   have h2:sIx x.length x.length hi=x.length:=by lia
   rw[hl,h0,h2,Ej,Ek,<-hl,sL (aN _)]
 ·rw[e];rfl
theorem Am{x y:Str}{b:Bool}(h:tJ x y=.ok b):(!(occurrences y x 0 y.length 1).isEmpty)=b:=by
 unfold tJ at h
 split at h
 ·rename_i c hc
  cases h
  have ex:x=⟨#[c]⟩:=tP (by rw[hc])
  rw[ex]
  exact StrLaws.found_one y c
 ·cases h
section
variable{X:Cx}
theorem An{v:Value}{o:Option Int}(h:IsPart v o):∃p:Option (Int×Tok),v=partValue p/\p.map (·.1)=o:=by
 cases h with
 |none=>exact⟨none,rfl,rfl⟩
 |int i t=>exact⟨some (i,t),rfl,rfl⟩
theorem sl_str:SlR X (λx lo hi H Q=>∃z,x=.str z/\z.length<=sizeLine/\Q (.str (tF z lo hi)) H):=by
 intro pins s σ H x v vl vu lo hi sl Q I rx hs pl pu h
 obtain⟨z,rfl,hz,q⟩:=h
 obtain⟨t,rfl⟩:=rx
 obtain⟨p,rfl,rfl⟩:=An pl
 obtain⟨p',rfl,rfl⟩:=An pu
 refine⟨"str", _,PySem.F.slot_str_getitem.lookup,typeIs_str _ _ _,wpAny_getItem_str_slice (l:=p) (u:=p') (st:=none) hs rfl ?_⟩
 refine post_val_or_str ⟨bV (Txt.slice_le z _ _) hz,λt' k=>?_⟩
 refine⟨.str _,H,I.tok k,⟨t',?_⟩,q⟩
 rw[<-G4]
 rfl
theorem Ao:∀{xs:List Str} {us:List Value},Vals (xs.map V.str) us->StrsAre us xs
 |[],_,h=>by cases h;exact .nil
 |x::r,_,h=>by
  rw[aK]at h
  cases h with
  |cons r1 r2=>
   obtain⟨t,rfl⟩:=r1
   exact .cons x t (Ao r2)
theorem Ap(g:List Nat):∀(xs:List (List Nat))(acc:List Nat),xs.foldl (λacc p=>acc++g++p) acc=acc++(match xs with|[]=>[]|x::r=>g++jJ g (x::r))
 |[],acc=>by simp
 |[x],acc=>by simp[jJ,kQ]
 |x::y::r,acc=>by
  rw[nZ,Ap g (y::r)]
  simp[jJ,kQ]
theorem G5(g:Str)(xs:List Str):Builtin.Str.glued g xs=jK g xs:=by
 refine tP ?_
 unfold Builtin.Str.glued jK
 have fold:∀(ys:List Str)(acc:Array Nat),(ys.foldl (λacc p=>acc++g.cps++p.cps) acc).toList=(ys.map λx=>x.cps.toList).foldl (λacc p=>acc++g.cps.toList++p) acc.toList:=by
  intro ys
  induction ys with
  |nil=>intro acc;rfl
  |cons y r ih=>intro acc;rw[nZ,ih,aK,nZ];simp
 show(Ef (λacc p=>acc++g.cps++p.cps) (xs.headD Str.empty).cps (xs.drop 1)).toList=(jJ g.cps.toList (xs.map λx=>x.cps.toList)).toArray.toList
 rw[fold,Ap]
 cases xs with
 |nil=>rfl
 |cons x r=>
  cases r with
  |nil=>simp[jJ]
  |cons y r=>simp[jJ]
theorem G6:MtR X "str.join" (λx vs H Q=>∃g a xs,x=.str g/\vs=[.ref a]/\SqL X.K H a (xs.map V.str)/\g.length<=64/\(xs.map (·.length)).sum+xs.length*64<=16777216/\Q (.str (jK g xs)) H):=by
 intro pins s σ H x vs v us Q I rx rv h
 obtain⟨g,a,xs,rfl,rfl,hq,hg,hz,q⟩:=h
 obtain⟨t,rfl⟩:=rx
 obtain⟨u,rfl,ru⟩:=jH rv
 cases ru
 obtain⟨its,r,pl,hz'⟩:=I.list hq
 refine join_listC pl.isList (ys:=xs) (by simpa using Ao r) hg hz λt' k=>?_
 refine⟨.str _,H,I.tok k,⟨t',?_⟩,q⟩
 rw[<-G5]
 rfl
noncomputable def Its(x:Str):It:=⟨λi _=>i<x.cps.size,λi H v H'=>H'=H/\∃c,x.cps[i]?=some c/\v=.str ⟨#[c]⟩,λi _=>x.cps.size<=i⟩
theorem Aq{P:Program}{w:World}{K:PySem.W.Frag}{tg:Expr}(ty:String)(it:Addr)(x:Str)(t:Tok)
 (hty:["enumerate", "zip", "dict_itemiterator", "dict_reverseitemiterator", "odict_iterator", "itertools.zip_longest", "itertools.pairwise"].contains ty=false)
 (W:∀A:Around,A.handled=none->Walks P w A it [it] [it] x.cps.size (SignAt x) (λi h=>h.IsStrIter it ty x t i))
 (en:∀(A:Around)(s:Shared)(i:Nat)(Q:Option Value->Shared->Prop)(E:Value->Shared->Prop),A.handled=none->s.heap.IsStrIter it ty x t i->x.cps[i]?=none->(∀h',Heap.ExtBut it s.heap h'->Q none {s with heap:=h' })->wpAny (model P w) A (pyNext (.ref it)) Q E s)
 (sf:∀(A:Around)(s:Shared)(i:Nat)(Q:Value->Shared->Prop)(E:Value->Shared->Prop),s.heap.IsStrIter it ty x t i->Q (.ref it) s->wpAny (model P w) A (pyIter (.ref it)) Q E s) :
 Turn P w K tg (Its x) [it] it (λi h=>h.IsStrIter it ty x t i) where
 mem:=by simp
 obj:=λi h st b hb=>by
  have e:b=it:=by simpa using hb
  subst e
  obtain⟨o,e,c,d⟩:=st
  exact⟨o,e,λv z=>by rw[d]at z;cases z⟩
 keep:=λi h h' st k=>let ⟨o,e,c⟩:=st;⟨o,k it (by simp) o e,c⟩
 item:=by
  intro X hP hw hK hc i pins s σ H E I hf st hg
  subst hP hw hK
  obtain⟨f0,f1,f2,f3,f4,f5⟩:=hf it (by simp)
  refine(W X.A (I.ok.hd hc)).item i s _ _ hg st λv h' tk hv st' kk=>?_
  obtain⟨c,u,hx,rfl⟩:=hv
  have I1:Inv X pins σ H {s with heap:=h',toks:=tk}:=I.turned (λb o hb e=>kk b o (by simpa using hb) e) f0 f1 f3 f4 f5
  obtain⟨o,e,cc,d⟩:=id st'
  exact⟨_,rfl,lY (s:={s with heap:=h',toks:=tk}) e cc d hty ⟨.str ⟨#[c]⟩,H,I1,⟨u,rfl⟩,⟨rfl,c,hx,rfl⟩,st',λb hb=>(hf b hb).1⟩⟩
 done:=by
  intro X hP hw hK hc i pins s σ H E I hf st hg
  subst hP hw hK
  obtain⟨f0,f1,f2,f3,f4,f5⟩:=hf it (by simp)
  have hn:x.cps[i]?=none:=by
   have:x.cps.size<=i:=hg
   simpa using this
  exact en X.A s i _ _ (I.ok.hd hc) st hn λh' eb=>⟨rfl,I.turned (t':=s.toks) (λb o hb e=>eb b o hb e) f0 f1 f3 f4 f5⟩
 self:=λA i s Q E st h=>sf A s i Q E st h
theorem pi_str{pins:List (Addr×Obj)}{s:Shared}{σ:L2.St}{H:Hp}{tg:Expr}{R:It->Hp->Prop}{x:Str}{t:Tok}(I:Inv X pins σ H s)(h:R (Its x) H) :
 wpAny (model X.prog X.w) X.A (pyIter (.str x t)) (PIE X pins σ tg R) X.xe s:=by
 have fp:∀b∈[s.heap.objs.size],gO X pins H b:=λb hb=>by
  rcases aO.mp hb with rfl|hb
  ·exact I.fpOk (aN _) (I.hok.fresh (aN _))
  ·cases hb
 cases ha:x.cps.all (· < 128)
 ·refine wpAny_pyIter_wide ha ?_
  exact⟨s.heap.objs.size,[s.heap.objs.size],_,Its x,H,rfl,I.kept (t':=s.toks) λb u e=>Heap.get?_push_of_some _ e,Aq "str_iterator" _ x t (by decide) (λA hA=>Walks.strWide hA _ x t) (λA s i Q E hA st hx k=>wpAny_pyNext_wide_end hA st hx k) (λA s i Q E st k=>wpAny_pyIter_striter_wide st k),⟨_,Heap.get?_push_size _ rfl,rfl,rfl⟩,fp,h⟩
 ·refine wpAny_pyIter_ascii ha ?_
  exact⟨s.heap.objs.size,[s.heap.objs.size],_,Its x,H,rfl,I.kept (t':=s.toks) λb u e=>Heap.get?_push_of_some _ e,Aq "str_ascii_iterator" _ x t (by decide) (λA hA=>Walks.strAscii hA _ x t) (λA s i Q E hA st hx k=>wpAny_pyNext_ascii_end hA st hx k) (λA s i Q E st k=>wpAny_pyIter_striter_ascii st k),⟨_,Heap.get?_push_size _ rfl,rfl,rfl⟩,fp,h⟩
end
end Tr
namespace Tr
open PySem PySem.Spec PyProof.Rows L2
section
variable{prog:Program}{w:World}{A:Around}{E:Value->Shared->Prop}{s:Shared}
end
end Tr
namespace Tr
open PySem PySem.Spec PyProof.Rows L2 PySem.SeqAt
noncomputable def ModS (K:PySem.W.Frag) (a:Addr) (ss:List Str):Prop:=∃(o:Obj) (its:Array Value) (n:Nat),K.lookup a=some o/\o.cls=.type "tuple" /\ o.dict=none/\o.data=.seq its n/\Vals (ss.map V.str) its.toList
end Tr
namespace Tr
open PySem PySem.Spec PyProof.Rows L2
noncomputable def met(val:Nat->Key):Nat->List Key
 |0=>[]
 |i+1=>if(met val i).any (λx=>decide (x=val i))then met val i else met val i++[val i]
theorem Ar(val:Nat->Key):∀i,(met val i).length<=i
 |0=>aN _
 |i+1=>by
  have ih:=Ar val i
  rw[met]
  split
  ·lia
  ·rw[bR,fG];lia
theorem G7(val:Nat->Key)(i:Nat)(k:Key):(met val (i+1)).any (λx=>decide (x=k))=((met val i).any (λx=>decide (x=k))||decide (k=val i)):=by
 rw[met]
 split
 ·rename_i h
  by_cases e:k=val i
  ·subst e;rw[h];simp
  ·simp[e]
 ·rw[Lf]
  by_cases e:k=val i
  ·subst e;simp
  ·have e':¬val i=k:=λh=>e h.symm
   simp[e,e']
theorem G8(val:Nat->Key)(i:Nat):(met val (i+1)).length=if(met val i).any (λx=>decide (x=val i))then(met val i).length else(met val i).length+1:=by
 rw[met];split<;>simp
section
variable{prog:Program}{w:World}{A:Around}{R:Result->Shared->Prop}{I:Addr}{fp wr:List Addr}{G:Array GenState->Array GenState->Prop}{n:Nat}{P:Nat->Value->Prop}{St:Nat->Shared->Prop}
theorem As(W:WalksS prog w A.in1 I fp wr G n P St)(S:Addr)(hSf:S∉fp)(val:Nat->Key)(hval:∀i v,P i v->(aY prog w).is (val i) v=true/\v.scannable=true)(hb:n+1<scanBound) :
 ∀(k i:Nat)(s:Shared),n-i=k->i<=n->St i s ->
  s.heap.SetOf (aY prog w) S (λk'=>(met val i).any (λx=>decide (x=k'))) (met val i).length ->
  (∀s',Moved (S::wr) G s s'->s'.heap.SetOf (aY prog w) S (λk'=>(met val n).any (λx=>decide (x=k'))) (met val n).length->R (.ok (.ret .none)) s') ->
  codeAny (model prog w) A (.builtin "set.update.loop" ⟨[.ref S,.ref I],[]⟩) R s:=by
 have hSw:S∉wr:=λh=>hSf (W.sub _ h)
 have hsub:∀b∈wr,b∈S::wr:=λb hb=>bB _ hb
 intro k
 induction k with
 |zero=>
  intro i s hk hi hst hS hR
  have hin:i=n:=by lia
  subst hin
  refine codeAny_builtin PyProof.Rows.F.entry_set_update_loop ?_
  rw[Around.under_plainId PyProof.Rows.F.plain_set_update_loop _]
  show wpAny _ A.in1 (pyNext (.ref I)>>=_) _ _ s
  refine wpAny_bind (W.done s _ _ hst λs' hm=>?_)
  show wpAny _ A.in1 (ret Value.none) _ _ s'
  exact wpAny_pure (hR s' (hm.mono hsub) (by
   obtain⟨o,es,ep,t,ho,rest⟩:=hS
   exact⟨o,es,ep,t,hm.heap S _ hSw ho,rest⟩))
 |succ k ih=>
  intro i s hk hi hst hS hR
  have hlt:i<n:=by lia
  refine codeAny_builtin PyProof.Rows.F.entry_set_update_loop ?_
  rw[Around.under_plainId PyProof.Rows.F.plain_set_update_loop _]
  show wpAny _ A.in1 (pyNext (.ref I)>>=_) _ _ s
  refine wpAny_bind (W.item i s _ _ hlt hst λv s' hP hst' hm=>?_)
  obtain⟨hv,hsc⟩:=hval i v hP
  have hS':s'.heap.SetOf (aY prog w) S (λk'=>(met val i).any (λx=>decide (x=k'))) (met val i).length:=by
   obtain⟨o,es,ep,tb,ho,rest⟩:=hS
   exact⟨o,es,ep,tb,hm.heap S _ hSw ho,rest⟩
  show wpAny _ A.in1 (holding [v] (setAdd S v)>>=_) _ _ s'
  refine wpAny_bind (wpAny_holding ?_)
  unfold setAdd
  refine wpAny_holding ?_
  refine wpAny_bind ((aY prog w).pyHash (k:=val i) hv ?_)
  have hroom:(met val i).length+1<scanBound:=by have:=Ar val i;lia
  refine wpAny_setAddHashed_of (knd:=aY prog w) (s:={s' with toks:=s'.toks+1}) hv hsc hS' hroom λh' hsb hS2=>?_
  have hSi:h'.SetOf (aY prog w) S (λk'=>(met val (i+1)).any (λx=>decide (x=k'))) (met val (i+1)).length:=by
   have e1:(λk'=>(met val (i+1)).any (λx=>decide (x=k')))=(λk'=>(met val i).any (λx=>decide (x=k'))||decide (k'=val i)):=funext λk'=>G7 val i k'
   rw[e1,G8]
   exact hS2
  refine wpAny_pure ⟨plainId_quiet PyProof.Rows.F.plain_set_update_loop _,ih (i+1) _ (by lia) hlt (W.frame _ s' _ _ hst' (jG _) λb hb o e=>?_) hSi λs'' hm'' hS''=>?_⟩
  ·rw[hsb.2 b (λh:b=S=>hSf (by rw[<-h];exact hb))];exact e
  ·refine hR s'' (Moved.trans W.gtrans ((hm.mono hsub).then_heap (jG _) λb o hb e=>?_) hm'') hS''
   rw[hsb.2 b (λh:b=S=>hb (by rw[h];exact bF))];exact e
end
section
variable{prog:Program}{w:World}{A:Around}{E:Value->Shared->Prop}{s:Shared}
set_option maxHeartbeats 3200000 in
theorem G9{l:Addr}{items:Array Value}{val:Nat->Key}{Q:Value->Shared->Prop}(hh:A.handled=none)(hl:s.heap.IsList l items)(hval:∀i v,items[i]?=some v->(aY prog w).is (val i) v=true/\v.scannable=true)(hb:items.size+1<scanBound)
 (h:∀(h':Heap)(tk:Nat),h'.SetOf (aY prog w) s.heap.objs.size (λk'=>(met val items.size).any (λx=>decide (x=k'))) (met val items.size).length ->
  (∀b o,b<s.heap.objs.size->s.heap.get? b=some o->h'.get? b=some o)->Q (.ref s.heap.objs.size) {s with heap:=h',toks:=tk}) :
 wpAny (model prog w) A (call (.type "set") [.ref l]) Q E s:=by
 obtain⟨c,tl,hmro⟩:=F.called_set.mro
 have hmade:=F.called_set.made
 have hsub:=F.called_set.sub
 refine wpAny_call (codeAny_of_tree ?_)
 show wpAny _ _ (callAny (.type "set") _) _ _ _
 refine wpAny_pure ⟨Code.quiet_builtin _ (by decide +kernel),codeAny_builtin F.entry_type_call ?_⟩
 rw[Around.under_plain (weight_type_call_type "set" [.ref l] []) rfl]
 have h1:=F.called_set.notType
 have h2:=F.called_set.canCreate
 have hct:=F.typeCall_set_1 (.ref l)
 repeat(any_goals(first|assumption|wp_step))
 refine codeAny_mono (code_set_new_1 (.ref l) (E:=E) (Q₁:=λobj s₁=>∃led:Bool,obj=.ref s.heap.objs.size/\s₁={s with heap:=s.heap.push {cls:=.type "set", dict:=none,data:=.set #[] 0 (.fresh 0 0 led) } }) λled=>⟨led,rfl,rfl⟩) λr s₁ hr=>?_
 cases r with
 |error e=>exact hr
 |ok fl=>
  cases fl with
  |ret obj=>
   obtain⟨led,rfl,rfl⟩:=hr
   have hS:(s.heap.push {cls:=.type "set", dict:=none,data:=.set #[] 0 (.fresh 0 0 led) }).get? s.heap.objs.size=some {cls:=.type "set", dict:=none,data:=.set #[] 0 (.fresh 0 0 led) }:=Heap.get?_push_size _ rfl
   have hT:Shared.TypeIs {s with heap:=s.heap.push {cls:=.type "set", dict:=none,data:=.set #[] 0 (.fresh 0 0 led) } } (.ref s.heap.objs.size) "set" := ⟨_,hS,rfl⟩
   have hli:=F.called_set.init.lookup
   have hbi:=F.called_set.init.bind (.ref s.heap.objs.size)
   repeat(any_goals(first|assumption|wp_step))
   refine codeAny_mono (codeAny_call_builtin (R:=wants (λr s₂=>r=.none/\∃h' tk,s₂={s with heap:=h',toks:=tk} /\
    h'.SetOf (aY prog w) s.heap.objs.size (λk'=>(met val items.size).any (λx=>decide (x=k'))) (met val items.size).length /\
    (∀b o,b<s.heap.objs.size->s.heap.get? b=some o->h'.get? b=some o)) E) F.called_set.init.plain F.entry_set_init (check_set_init_1 hT ?_)) λr₂ s₂ hr₂=>?_
   ·generalize hpu:s.heap.push {cls:=.type "set", dict:=none,data:=.set #[] 0 (.fresh 0 0 led) }=hp1 at *
    have hz:hp1.objs.size=s.heap.objs.size+1:=by rw[<-hpu];exact Heap.size_push ..
    have hold:∀b o,s.heap.get? b=some o->hp1.get? b=some o:=λb o e=>by rw[<-hpu];exact Heap.get?_push_of_some _ e
    obtain⟨ol,hol,hcl,nl,hdl⟩:=hl
    obtain⟨ocls,odict,odata,oslots⟩:=ol
    simp only at hcl hdl
    subst hcl;subst hdl
    have hol':hp1.get? l=some {cls:=.type "list", dict:=odict,data:=.seq items nl,slots:=oslots}:=hold _ _ hol
    have hsls:=F.sub_list_set
    have hslf:=F.sub_list_frozenset
    have hne:(Value.type "list" == Value.type "dict")=false:=by decide
    have hl1:hp1.IsList l items:=⟨_,hol',rfl,nl,rfl⟩
    have hlS:l<s.heap.objs.size:=Heap.lt_size hol
    have hneI:l≠hp1.objs.size:=by rw[hz];exact aT (gY hlS)
    unfold Builtin.«set.__init__» noKeywords Builtin.Frozenset.updateFrom
    generalize hPI:pyIter=PI
    wp_walk
    subst hPI
    refine wpAny_pyIter_list hl1 ?_
    refine wpAny_bind (wpAny_runValue ?_)
    have hh3:A.in1.in1.in1.handled=none:=by simp[hh]
    refine As ((Walks.list hh3 _ l hneI items).toS) s.heap.objs.size (by rw[hz];simp only[aO,bX,fH,or_false,not_or];exact⟨aT (oA _),iK hlS⟩) val hval hb (items.size-0) 0 _ (by lia) (eM _) ⟨⟨_,Heap.get?_push_size _ rfl,rfl,rfl⟩,(hl1.push _)⟩ ?hS0 ?hR
    case hS0=>
     have hget:(hp1.push {cls:=.type "list_iterator", data:=.fields #[.ref l,.int 0 0] }).get? s.heap.objs.size
      = some {cls:=.type "set", dict:=none,data:=.set #[] 0 (.fresh 0 0 led) }:=Heap.get?_push_of_some _ hS
     letI:BEq Key:=instBEqOfDecidableEq
     haveI:LawfulBEq Key:=inferInstance
     exact(PyProof.Rows.setObjOf_fresh (knd:=aY prog w) led).setOf hget (by unfold scanBound;lia)
    case hR=>
     intro s' hm hS'
     obtain⟨h',g',d',tk',os'⟩:=s'
     have eg:g'=s.gens:=hm.gens
     have ed:d'=s.drawn:=hm.drawn
     have eo:os'=s.os:=hm.os
     subst eg;subst ed;subst eo
     show wpAny _ _ _ _ _ _
     refine wpAny_pure ?_
     show wpAny _ _ (ret Value.none) _ _ _
     refine wpAny_pure ⟨rfl,h',tk',rfl,hS',λb o hb e=>?_⟩
     have hb1:b≠s.heap.objs.size:=aT hb
     have hb2:b≠hp1.objs.size:=by rw[hz];exact aT (gY hb)
     exact hm.heap b o (by simp only[aO,bX,fH,or_false,not_or];exact⟨hb1,hb2⟩) (Heap.get?_push_of_some _ (hold _ _ e))
   ·cases r₂ with
    |error e=>exact hr₂
    |ok fl₂=>
     cases fl₂ with
     |ret r=>
      obtain⟨rfl,h',tk,rfl,hS',hk'⟩:=hr₂
      repeat(any_goals(first|assumption|wp_step))
      exact h _ _ hS' hk'
     |_=>exact hr₂.elim
  |_=>exact hr.elim
end
section
variable{prog:Program}{w:World}{A:Around}{E:Value->Shared->Prop}{s:Shared}
set_option maxHeartbeats 3200000 in
theorem G_{x:Str}{t:Tok}{val:Nat->Key}{Q:Value->Shared->Prop}(hh:A.handled=none)(hval:∀i v,SignAt x i v->(aY prog w).is (val i) v=true/\v.scannable=true)(hb:x.cps.size+1<scanBound)
 (h:∀(h':Heap)(tk:Nat),h'.SetOf (aY prog w) s.heap.objs.size (λk'=>(met val x.cps.size).any (λx=>decide (x=k'))) (met val x.cps.size).length ->
  (∀b o,b<s.heap.objs.size->s.heap.get? b=some o->h'.get? b=some o)->Q (.ref s.heap.objs.size) {s with heap:=h',toks:=tk}) :
 wpAny (model prog w) A (call (.type "set") [.str x t]) Q E s:=by
 obtain⟨c,tl,hmro⟩:=F.called_set.mro
 have hmade:=F.called_set.made
 have hsub:=F.called_set.sub
 refine wpAny_call (codeAny_of_tree ?_)
 show wpAny _ _ (callAny (.type "set") _) _ _ _
 refine wpAny_pure ⟨Code.quiet_builtin _ (by decide +kernel),codeAny_builtin F.entry_type_call ?_⟩
 rw[Around.under_plain (weight_type_call_type "set" [.str x t] []) rfl]
 have h1:=F.called_set.notType
 have h2:=F.called_set.canCreate
 have hct:=F.typeCall_set_1 (.str x t)
 repeat(any_goals(first|assumption|wp_step))
 refine codeAny_mono (code_set_new_1 (.str x t) (E:=E) (Q₁:=λobj s₁=>∃led:Bool,obj=.ref s.heap.objs.size/\s₁={s with heap:=s.heap.push {cls:=.type "set", dict:=none,data:=.set #[] 0 (.fresh 0 0 led) } }) λled=>⟨led,rfl,rfl⟩) λr s₁ hr=>?_
 cases r with
 |error e=>exact hr
 |ok fl=>
  cases fl with
  |ret obj=>
   obtain⟨led,rfl,rfl⟩:=hr
   have hS:(s.heap.push {cls:=.type "set", dict:=none,data:=.set #[] 0 (.fresh 0 0 led) }).get? s.heap.objs.size=some {cls:=.type "set", dict:=none,data:=.set #[] 0 (.fresh 0 0 led) }:=Heap.get?_push_size _ rfl
   have hT:Shared.TypeIs {s with heap:=s.heap.push {cls:=.type "set", dict:=none,data:=.set #[] 0 (.fresh 0 0 led) } } (.ref s.heap.objs.size) "set" := ⟨_,hS,rfl⟩
   have hli:=F.called_set.init.lookup
   have hbi:=F.called_set.init.bind (.ref s.heap.objs.size)
   repeat(any_goals(first|assumption|wp_step))
   refine codeAny_mono (codeAny_call_builtin (R:=wants (λr s₂=>r=.none/\∃h' tk,s₂={s with heap:=h',toks:=tk} /\
    h'.SetOf (aY prog w) s.heap.objs.size (λk'=>(met val x.cps.size).any (λx=>decide (x=k'))) (met val x.cps.size).length /\
    (∀b o,b<s.heap.objs.size->s.heap.get? b=some o->h'.get? b=some o)) E) F.called_set.init.plain F.entry_set_init (check_set_init_1 hT ?_)) λr₂ s₂ hr₂=>?_
   ·generalize hpu:s.heap.push {cls:=.type "set", dict:=none,data:=.set #[] 0 (.fresh 0 0 led) }=hp1 at *
    have hz:hp1.objs.size=s.heap.objs.size+1:=by rw[<-hpu];exact Heap.size_push ..
    have hold:∀b o,s.heap.get? b=some o->hp1.get? b=some o:=λb o e=>by rw[<-hpu];exact Heap.get?_push_of_some _ e
    have hsls:=PySem.F.sub_str_set
    have hslf:=PySem.F.sub_str_frozenset
    have hne:(Value.type "str" == Value.type "dict")=false:=by decide
    unfold Builtin.«set.__init__» noKeywords Builtin.Frozenset.updateFrom
    generalize hPI:pyIter=PI
    wp_walk
    subst hPI
    refine wpAny_pyIter_str λito St hW st0=>?_
    refine wpAny_bind (wpAny_runValue ?_)
    have hh3:A.in1.in1.in1.handled=none:=by simp[hh]
    refine As ((hW _ hh3).toS) s.heap.objs.size (by show s.heap.objs.size∉[hp1.objs.size];rw[hz];simp only[bX];exact aT (oA _)) val hval hb (x.cps.size-0) 0 _ (by lia) (eM _) st0 ?hS0 ?hR
    case hS0=>
     have hget:(hp1.push ito).get? s.heap.objs.size
      = some {cls:=.type "set", dict:=none,data:=.set #[] 0 (.fresh 0 0 led) }:=Heap.get?_push_of_some _ hS
     letI:BEq Key:=instBEqOfDecidableEq
     haveI:LawfulBEq Key:=inferInstance
     exact(PyProof.Rows.setObjOf_fresh (knd:=aY prog w) led).setOf hget (by unfold scanBound;lia)
    case hR=>
     intro s' hm hS'
     obtain⟨h',g',d',tk',os'⟩:=s'
     have eg:g'=s.gens:=hm.gens
     have ed:d'=s.drawn:=hm.drawn
     have eo:os'=s.os:=hm.os
     subst eg;subst ed;subst eo
     show wpAny _ _ _ _ _ _
     refine wpAny_pure ?_
     show wpAny _ _ (ret Value.none) _ _ _
     refine wpAny_pure ⟨rfl,h',tk',rfl,hS',λb o hb e=>?_⟩
     have hb1:b≠s.heap.objs.size:=aT hb
     have hb2:b≠hp1.objs.size:=by rw[hz];exact aT (gY hb)
     exact hm.heap b o (by simp only[aO,bX,fH,or_false,not_or];exact⟨hb1,hb2⟩) (Heap.get?_push_of_some _ (hold _ _ e))
   ·cases r₂ with
    |error e=>exact hr₂
    |ok fl₂=>
     cases fl₂ with
     |ret r=>
      obtain⟨rfl,h',tk,rfl,hS',hk'⟩:=hr₂
      repeat(any_goals(first|assumption|wp_step))
      exact h _ _ hS' hk'
     |_=>exact hr₂.elim
  |_=>exact hr.elim
end
noncomputable def KeysV(K:PySem.W.Frag)(H:Hp)(v:V)(ks:List Key):Prop:=(∃a,v=.ref a/\SqL K H a (ks.map kV))\/∃x:Str,v=.str x/\ks=x.cps.toList.map λc=>.inr ⟨#[c]⟩
theorem Au(ks:List Key):∀n,n<=ks.length->met (λi=>ks.getD i (.inl 0)) n=kA (ks.take n)
 |0,_=>by rw[List.take_zero];rfl
 |n+1,h=>by
  have ih:=Au ks n (by lia)
  have e:ks.take (n+1)=ks.take n++[ks.getD n (.inl 0)]:=by
   rw[List.take_succ,eU,aX (by lia:n<ks.length)]
   rfl
  rw[met,ih,e]
  unfold kA
  rw[List.foldl_append]
  rfl
theorem Av(ks:List Key):met (λi=>ks.getD i (.inl 0)) ks.length=kA ks:=by rw[Au ks _ (aN _),List.take_length]
theorem Ga{P:Program}{w:World}{k:Key}{v:Value}(r:RelV (kV k) v):(aY P w).is k v=true/\v.scannable=true:=by
 cases k with
 |inl i=>obtain⟨t,rfl⟩:=(show ∃t,v=.int i t from r);exact⟨zP P w i t,rfl⟩
 |inr x=>obtain⟨t,rfl⟩:=(show ∃t,v=.str x t from r);exact⟨sU P w x t,rfl⟩
theorem vals_ints:∀{ns:List Int} {its:List Value},Vals (ns.map V.int) its->∃xs:List (Int×Tok),its=xs.map (λp=>Value.int p.1 p.2)/\xs.map (·.1)=ns
 |[],_,h=>by cases h;exact⟨[],rfl,rfl⟩
 |n::ns,_,h=>by
  cases h with
  |cons r rr=>
   obtain⟨t,rfl⟩:=r
   obtain⟨xs,rfl,e⟩:=vals_ints rr
   exact⟨(n,t)::xs,rfl,by rw[aK,e]⟩
section
variable{prog:Program}{w:World}{A:Around}{R:Result->Shared->Prop}{it:Addr}{fp wr:List Addr}{n:Nat}{P:Nat->Value->Prop}{St:Nat->Heap->Prop}
end
noncomputable def aJ(m:Nat):List Nat:=(aD 8).filter λi=>m.testBit i
noncomputable def cO(led:Bool)(ns:List Nat):SetTable:={mask:=if ns.length<5 then 7 else 31,place:=ns.toArray,dummies:=#[],finger:=0,led:=led,moves:=if ns.length<5 then 0 else 1,plain:=true}
noncomputable def lo8(ns:List Nat)(n:Nat):List Nat:=ns.filter λi=>decide (i<n)
noncomputable def hi8(ns:List Nat)(n:Nat):List Nat:=ns.filter λi=>decide (n<i)
noncomputable def chk8(led:Bool)(m n:Nat):Bool:=
 let ns:=aJ m
 let t:=cO led ns
 let ms:=aJ (m ||| 2^n)
 let p:=(lo8 ns n).length
 let t1:=(t.put n).1
 decide (t.freeSlot (n:Int)=some (n,false))&&decide ((t.put n).2=p)&&decide (lo8 ns n++hi8 ns n=ns)&&decide (ms=lo8 ns n++n::hi8 ns n)&&t1.fits (ns.length+1)&&t1.plain
  && (if t1.tooFull then decide (t1.relaid (ms.toArray.map fun i : Nat => (i : Int)) (SetTable.grown (ns.length + 1)) = some (cO led ms, yZ (ns.length + 1))) && coversAll (yZ (ns.length + 1)) (ns.length + 1) && (cO led ms).fits (ns.length + 1)
     else decide (t1=cO led ms))
theorem Gb:((aD 256).all λm=>(aD 8).all λn=>[true,false].all λled=>m.testBit n||chk8 led m n)=true:=by decide +kernel
theorem Gc:((aD 256).all λm=>decide ((aJ m).length<=8)&&(cO true (aJ m)).fits (aJ m).length&&(cO false (aJ m)).fits (aJ m).length&&(aD 8).all (λn=>(aJ m).contains n==m.testBit n)&&(aD ((aJ m).length+1)).all (λi=>SetTable.below (aJ m).toArray (if i=0 then 0 else(aJ m).getD (i-1) 0+1)==i))=true:=by decide +kernel
noncomputable def EL(ns:List Nat)(l:List (Int×Value)):Prop:=l.map (·.1)=ns.map (λi:Nat=>(i:Int))/\∀e∈l,∃tk,e.2=.int e.1 tk
noncomputable def SetB(led:Bool)(h:Heap)(a:Addr)(m:Nat):Prop:=
 ∃o es ep,h.get? a=some o/\o.ExactSet/\o.data=.set es ep (cO led (aJ m))/\EL (aJ m) es.toList/\m<256
theorem Gd{led:Bool}{m n:Nat}(hm:m<256)(hn:n<8)(h:m.testBit n=false):chk8 led m n=true:=by
 have:=dN.mp (dN.mp (dN.mp Gb m (bO.mpr hm)) n (bO.mpr hn)) led (by cases led<;>simp)
 rw[h]at this
 simpa using this
theorem lD{m:Nat}(hm:m<256):(aJ m).length<=8/\(∀led,(cO led (aJ m)).fits (aJ m).length=true)/\(∀n,n<8->(aJ m).contains n=m.testBit n)/\∀i,i<=(aJ m).length->SetTable.below (aJ m).toArray (if i=0 then 0 else(aJ m).getD (i-1) 0+1)=i:=by
 have h:=dN.mp Gc m (bO.mpr hm)
 simp only[aH,decide_eq_true_eq]at h
 obtain⟨⟨⟨⟨h1,h2⟩,h3⟩,h4⟩,h5⟩:=h
 refine⟨h1,λled=>by cases led<;>assumption,λn hn=>?_,λi hi=>?_⟩
 ·have:=dN.mp h4 n (bO.mpr hn)
  simpa using this
 ·have:=dN.mp h5 i (bO.mpr (by lia))
  simpa using this
theorem Aw{P:Program}{w:World}{n:Nat}(hn:n<8):(intKind P w).hash (n:Int)=(n:Int):=by
 have:n=0\/n=1\/n=2\/n=3\/n=4\/n=5\/n=6\/n=7:=by lia
 rcases this with rfl|rfl|rfl|rfl|rfl|rfl|rfl|rfl<;>rfl
theorem EL.size{ns:List Nat}{es:Array (Int×Value)}(h:EL ns es.toList):es.size=ns.length:=by
 have:=congrArg yV h.1
 simpa using this
theorem EL.elems{P:Program}{w:World}{m:Nat}{es:List (Int×Value)}(h:EL (aJ m) es):ElemsOf (intKind P w) es:=by
 intro e he
 obtain⟨tk,e2⟩:=h.2 e he
 have h1:e.1∈es.map (·.1):=zA he
 rw[h.1,bJ]at h1
 obtain⟨n,hn,e1⟩:=h1
 have hn8:n<8:=by
  unfold aJ at hn
  exact bO.mp (cP.mp hn).1
 refine⟨⟨e.1,?_,?_⟩,by rw[e2];rfl⟩
 ·rw[e2];exact intKind_is _ _ _ _
 ·rw[<-e1,Aw hn8]
section
variable{prog:Program}{w:World}{A:Around}{E:Value->Shared->Prop}{s:Shared}
theorem Ax{α:Type}(xs:Array α)(p:Nat)(x:α)(hp:p<=xs.size):(SetTable.insertAt xs p x).toList=xs.toList.take p++x::xs.toList.drop p:=by
 unfold SetTable.insertAt
 simp[Array.toList_extract,sL]
theorem Ge{α:Type}(es:Array α):(yZ es.size).filterMap (λi=>es[i]?)=es:=by
 apply sJ.mp
 rw[Array.toList_filterMap,Array.toList_range]
 exact filterMap_getElem?_range es
theorem Ay{h:Heap}{a:Addr}{o:Obj}{es:Array (Int×Value)}{ep:Nat}{t:SetTable}(ho:h.get? a=some o)(hd:o.data=.set es ep t)(es':Array (Int×Value))(t':SetTable) :
 (h.update a (Obj.putSet es' t')).get? a=some {o with data:=.set es' (ep+1) t' }:=by
 have:=Heap.get?_update_self (Obj.putSet es' t') ho (by rw[putSet_of es' t' hd];rfl)
 rw[putSet_of es' t' hd]at this;exact this
set_option maxHeartbeats 1600000 in
theorem addB{led:Bool}{a:Addr}{m n:Nat}{tk:Tok}{Q:Bool->Shared->Prop}(hS:SetB led s.heap a m)(hn:n<8)
 (h:∀h' b,Heap.SameBut a s.heap h'->SetB led h' a (m ||| 2^n)->Q b {s with heap:=h' }) :
 wpAny (model prog w) A (setAddHashed a (.int (n:Int) tk) ((intKind prog w).hash (n:Int))) Q E s:=by
 obtain⟨o,es,ep,ho,hex,hd,hel,hm⟩:=hS
 obtain⟨b1,b2,b3,b4⟩:=lD hm
 have hsz:=hel.size
 have hE:ElemsOf (intKind prog w) es.toList:=hel.elems
 have hf:(cO led (aJ m)).fits es.size=true:=by rw[hsz];exact b2 led
 have hsc:(Value.int (n:Int) tk).scannable=true:=rfl
 have hkey:(intKind prog w).is (n:Int) (.int (n:Int) tk)=true:=intKind_is _ _ _ _
 unfold setAddHashed setAddHashedIn
 refine wpAny_holding (wpAny_bind (wpAny_setState_of ho hd hf ?_))
 dsimp only
 rw[byScan_of hsc (by rw[hsz];unfold scanBound;lia) hE]
 simp only[↓reduceIte]
 unfold setAddByScan
 refine wpAny_bind ?_
 refine wpAny_bind (wpAny_rule ?_)
 refine wpAny_bind (wpAny_setScan_of hkey ho hd hf hE ?_)
 cases hr:List.findIdx? (λe=>(intKind prog w).is (n:Int) e.2) es.toList with
 |some j=>
  dsimp only
  obtain⟨hj,hpj,_⟩:=List.findIdx?_eq_some_iff_getElem.mp hr
  have hmem:n∈aJ m:=by
   have he:es.toList[j]∈es.toList:=eF hj
   obtain⟨tk',e2⟩:=hel.2 _ he
   rw[e2]at hpj
   have e3:=(intKind prog w).inj _ _ _ hpj (intKind_is _ _ _ _)
   have h1:es.toList[j].1∈es.toList.map (·.1):=zA he
   rw[hel.1,bJ]at h1
   obtain⟨k,hk,ek⟩:=h1
   rw[<-ek]at e3
   have:k=n:=by lia
   rw[<-this];exact hk
  have htb:m.testBit n=true:=by rw[<-b3 n hn];exact jQ.mpr hmem
  have hmm:m ||| 2^n=m:=by
   apply Nat.eq_of_testBit_eq
   intro i
   rw[Lg,Lh]
   by_cases e:n=i
   ·subst e;simp[htb]
   ·simp[e]
  refine wpAny_pure (wpAny_pure ?_)
  have e:s={s with heap:=s.heap}:=by cases s;rfl
  rw[e]
  exact h s.heap _ (Heap.SameBut.refl a s.heap) (by rw[hmm];exact⟨o,es,ep,ho,hex,hd,hel,hm⟩)
 |none=>
  dsimp only
  have htb:m.testBit n=false:=by
   cases hk:m.testBit n with
   |false=>rfl
   |true=>
    rw[<-b3 n hn]at hk
    have hmem:=jQ.mp hk
    have h1:(n:Int)∈es.toList.map (·.1):=by rw[hel.1];exact zA hmem
    obtain⟨e,he,e1⟩:=bJ.mp h1
    have:=List.findIdx?_eq_none_iff.mp hr e he
    obtain⟨tk',e2⟩:=hel.2 _ he
    rw[e2,e1,intKind_is]at this
    cases this
  have hc:=Gd (led:=led) hm hn htb
  unfold chk8 at hc
  simp only[aH,decide_eq_true_eq]at hc
  obtain⟨⟨⟨⟨⟨⟨c1,c2⟩,c3⟩,c4⟩,c5⟩,c6⟩,c7⟩:=hc
  have hm':m ||| 2^n<256:=by
   have:2^n<2^8:=Nat.pow_lt_pow_right (by decide) hn
   exact Nat.or_lt_two_pow (n:=8) hm this
  have hh:(intKind prog w).hash (n:Int)=(n:Int):=Aw hn
  have hp:(lo8 (aJ m) n).length<=es.size:=by rw[hsz];exact fJ _ _
  have hL:layNew (cO led (aJ m)) es ((intKind prog w).hash (n:Int)) (.int (n:Int) tk)=(SetTable.insertAt es (lo8 (aJ m) n).length ((n:Int),.int (n:Int) tk),((cO led (aJ m)).put n).1,false,false):=by
   unfold layNew
   rw[hh,c1]
   dsimp only
   rw[show(cO led (aJ m)).put n=(((cO led (aJ m)).put n).1,((cO led (aJ m)).put n).2)from rfl]
   dsimp only
   rw[c2]
   have hz:(SetTable.insertAt es (lo8 (aJ m) n).length ((n:Int),Value.int (n:Int) tk)).size=(aJ m).length+1:=by
    rw[<-jP,Ax _ _ _ hp]
    simp
    lia
   rw[hz,SetTable.orStandIn,if_pos c5,c5]
   rfl
  rw[hL]
  dsimp only
  have hel1:EL (aJ (m ||| 2^n)) (SetTable.insertAt es (lo8 (aJ m) n).length ((n:Int),.int (n:Int) tk)).toList:=by
   rw[Ax _ _ _ hp,c4]
   refine⟨?_,λe he=>?_⟩
   ·have e1:es.toList.map (·.1)=(lo8 (aJ m) n).map (λi:Nat=>(i:Int))++(hi8 (aJ m) n).map (λi:Nat=>(i:Int)):=by
     rw[hel.1,<-dF,c3]
    rw[dF,aK,sM,sN,e1]
    have e2:(lo8 (aJ m) n).length=((lo8 (aJ m) n).map (λi:Nat=>(i:Int))).length:=by simp
    rw[e2,List.take_left,List.drop_left]
    simp
   ·rcases eY.mp he with h1|h1
    ·exact hel.2 e (zB h1)
    ·rcases aO.mp h1 with h1|h1
     ·subst h1;exact⟨tk,rfl⟩
     ·exact hel.2 e (zC h1)
  have hz1:=hel1.size
  have hln:(aJ (m ||| 2^n)).length=(aJ m).length+1:=by
   rw[c4,bR,aP]
   have:=congrArg yV c3
   rw[bR]at this
   lia
  generalize hI:SetTable.insertAt es (lo8 (aJ m) n).length ((n:Int),Value.int (n:Int) tk)=es1 at *
  refine wpAny_bind (wpAny_pure ?_)
  simp only[c6,↓reduceIte]
  refine wpAny_bind ?_
  rw[hashByValue_scannable 8 hsc]
  refine wpAny_pure ?_
  simp only[plainKind,↓reduceIte]
  refine wpAny_bind (wpAny_storeSet_of ho hd ?_ (by rw[hz1,hln];rw[sizeLine_eq];lia))
  have hg1:=Ay ho hd es1 ((cO led (aJ m)).put n).1
  have hsb1:=Heap.SameBut.update s.heap a (Obj.putSet es1 ((cO led (aJ m)).put n).1)
  cases htf:((cO led (aJ m)).put n).1.tooFull with
  |true=>
   rw[htf]at c7
   simp only[↓reduceIte,aH,decide_eq_true_eq]at c7
   obtain⟨⟨d1,d2⟩,d3⟩:=c7
   have hmap:es1.map (·.1)=((aJ (m ||| 2^n)).toArray.map λi:Nat=>(i:Int)):=by
    apply sJ.mp
    rw[El,El,hel1.1]
   have hR:relayAll ((cO led (aJ m)).put n).1 es1 (SetTable.grown es1.size)=(es1,cO led (aJ (m ||| 2^n)),false):=by
    unfold relayAll
    rw[hmap,hz1,hln,d1]
    dsimp only
    have e4:(yZ ((aJ m).length+1)).filterMap (λi=>es1[i]?)=es1:=by
     rw[<-hln,<-hz1];exact Ge es1
    rw[e4,hz1,hln,d2,d3]
    rfl
   simp only[Em,Bool.true_and,↓reduceIte]
   rw[hR]
   dsimp only
   refine wpAny_bind (wpAny_pure ?_)
   refine wpAny_bind (wpAny_storeSet_of hg1 rfl ?_ (by rw[hz1,hln];rw[sizeLine_eq];lia))
   have hg2:=Ay hg1 rfl es1 (cO led (aJ (m ||| 2^n)))
   refine wpAny_pure (wpAny_pure ?_)
   exact h _ _ (hsb1.trans (Heap.SameBut.update _ a _)) ⟨_,es1,_,hg2,hex,rfl,hel1,hm'⟩
  |false=>
   rw[htf]at c7
   simp only[iO,↓reduceIte,decide_eq_true_eq]at c7
   simp only[Eg,iO,↓reduceIte]
   rw[c7]at hg1 hsb1⊢
   refine wpAny_pure (wpAny_pure ?_)
   exact h _ _ hsb1 ⟨_,es1,_,hg1,hex,rfl,hel1,hm'⟩
end
noncomputable def mk8(val:Nat->Nat):Nat->Nat
 |0=>0
 |i+1=>mk8 val i ||| 2^val i
noncomputable def cF (w:World):Bool:=w.params.followText "set-order"
section
variable{prog:Program}{w:World}{A:Around}{R:Result->Shared->Prop}{I:Addr}{fp wr:List Addr}{G:Array GenState->Array GenState->Prop}{n:Nat}{P:Nat->Value->Prop}{St:Nat->Shared->Prop}
theorem Gf(W:WalksS prog w A.in1 I fp wr G n P St)(S:Addr)(hSf:S∉fp)(val:Nat->Nat)(hval:∀i v,P i v->(∃tk,v=.int (val i:Int) tk)/\val i<8) :
 ∀(k i:Nat)(s:Shared),n-i=k->i<=n->St i s ->
  SetB (!cF w) s.heap S (mk8 val i) ->
  (∀s',Moved (S::wr) G s s'->SetB (!cF w) s'.heap S (mk8 val n)->R (.ok (.ret .none)) s') ->
  codeAny (model prog w) A (.builtin "set.update.loop" ⟨[.ref S,.ref I],[]⟩) R s:=by
 have hSw:S∉wr:=λh=>hSf (W.sub _ h)
 have hsub:∀b∈wr,b∈S::wr:=λb hb=>bB _ hb
 intro k
 induction k with
 |zero=>
  intro i s hk hi hst hS hR
  have hin:i=n:=by lia
  subst hin
  refine codeAny_builtin PyProof.Rows.F.entry_set_update_loop ?_
  rw[Around.under_plainId PyProof.Rows.F.plain_set_update_loop _]
  show wpAny _ A.in1 (pyNext (.ref I)>>=_) _ _ s
  refine wpAny_bind (W.done s _ _ hst λs' hm=>?_)
  show wpAny _ A.in1 (ret Value.none) _ _ s'
  exact wpAny_pure (hR s' (hm.mono hsub) (by
   obtain⟨o,es,ep,ho,rest⟩:=hS
   exact⟨o,es,ep,hm.heap S _ hSw ho,rest⟩))
 |succ k ih=>
  intro i s hk hi hst hS hR
  have hlt:i<n:=by lia
  refine codeAny_builtin PyProof.Rows.F.entry_set_update_loop ?_
  rw[Around.under_plainId PyProof.Rows.F.plain_set_update_loop _]
  show wpAny _ A.in1 (pyNext (.ref I)>>=_) _ _ s
  refine wpAny_bind (W.item i s _ _ hlt hst λv s' hP hst' hm=>?_)
  obtain⟨⟨tkv,rfl⟩,hv8⟩:=hval i v hP
  have hv:(intKind prog w).is (val i:Int) (.int (val i:Int) tkv)=true:=intKind_is _ _ _ _
  have hS':SetB (!cF w) s'.heap S (mk8 val i):=by
   obtain⟨o,es,ep,ho,rest⟩:=hS
   exact⟨o,es,ep,hm.heap S _ hSw ho,rest⟩
  show wpAny _ A.in1 (holding [Value.int (val i:Int) tkv] (setAdd S (Value.int (val i:Int) tkv))>>=_) _ _ s'
  refine wpAny_bind (wpAny_holding ?_)
  unfold setAdd
  refine wpAny_holding ?_
  refine wpAny_bind ((intKind prog w).pyHash (k:=(val i:Int)) hv ?_)
  refine addB (s:={s' with toks:=s'.toks+1}) hS' hv8 λh' bb hsb hSi=>?_
  refine wpAny_pure ⟨plainId_quiet PyProof.Rows.F.plain_set_update_loop _,ih (i+1) _ (by lia) hlt (W.frame _ s' _ _ hst' (jG _) λb hb o e=>?_) hSi λs'' hm'' hS''=>?_⟩
  ·rw[hsb.2 b (λh:b=S=>hSf (by rw[<-h];exact hb))];exact e
  ·refine hR s'' (Moved.trans W.gtrans ((hm.mono hsub).then_heap (jG _) λb o hb e=>?_) hm'') hS''
   rw[hsb.2 b (λh:b=S=>hb (by rw[h];exact bF))];exact e
theorem Gg{E:Value->Shared->Prop}{s:Shared}(a:Value){Q₁:Value->Shared->Prop}
 (h:Q₁ (.ref s.heap.objs.size) {s with heap:=s.heap.push {cls:=.type "set", dict:=none,data:=.set #[] 0 (.fresh 0 0 (!cF w)) } }) :
 codeAny (model prog w) A (.call (.builtin "set.__new__") ⟨[.type "set", a],[]⟩) (wants Q₁ E) s:=by
 refine codeAny_of_tree ?_
 show wpAny _ A.in1 (do checkBuiltinCall "set.__new__" ⟨[.type "set", a],[]⟩;again (.builtin "set.__new__" ⟨[.type "set", a],[]⟩)) _ _ s
 refine wpAny_bind (wpAny_of_eq (F.newCall_set_1 a) (wpAny_pure ⟨plainId_quiet F.plain_set_new _,codeAny_builtin F.entry_set_new ?_⟩))
 rw[Around.under_plainId F.plain_set_new _]
 unfold Builtin.«set.__new__» Builtin.Frozenset.newClass
 have hsub:=sub_set_self
 obtain⟨hp,g,d,tk,os⟩:=s
 dsimp only
 wp_walk
 refine wpAny_askSetting (wpAny_pure ?_)
 dsimp only
 simp only[newObj]
 refine wpAny_bind (wpAny_alloc (wpAny_pure ?_))
 exact wpAny_pure h
end
section
variable{prog:Program}{w:World}{A:Around}{E:Value->Shared->Prop}{s:Shared}
set_option maxHeartbeats 3200000 in
theorem Gh{l:Addr}{items:Array Value}{val:Nat->Nat}{Q:Value->Shared->Prop}(hh:A.handled=none)(hl:s.heap.IsList l items)(hval:∀i v,items[i]?=some v->(∃tk,v=.int (val i:Int) tk)/\val i<8)
 (h:∀(h':Heap)(tk:Nat),SetB (!cF w) h' s.heap.objs.size (mk8 val items.size) ->
  (∀b o,b<s.heap.objs.size->s.heap.get? b=some o->h'.get? b=some o)->Q (.ref s.heap.objs.size) {s with heap:=h',toks:=tk}) :
 wpAny (model prog w) A (call (.type "set") [.ref l]) Q E s:=by
 obtain⟨c,tl,hmro⟩:=F.called_set.mro
 have hmade:=F.called_set.made
 have hsub:=F.called_set.sub
 refine wpAny_call (codeAny_of_tree ?_)
 show wpAny _ _ (callAny (.type "set") _) _ _ _
 refine wpAny_pure ⟨Code.quiet_builtin _ (by decide +kernel),codeAny_builtin F.entry_type_call ?_⟩
 rw[Around.under_plain (weight_type_call_type "set" [.ref l] []) rfl]
 have h1:=F.called_set.notType
 have h2:=F.called_set.canCreate
 have hct:=F.typeCall_set_1 (.ref l)
 repeat(any_goals(first|assumption|wp_step))
 refine codeAny_mono (Gg (.ref l) (E:=E) (Q₁:=λobj s₁=>obj=.ref s.heap.objs.size/\s₁={s with heap:=s.heap.push {cls:=.type "set", dict:=none,data:=.set #[] 0 (.fresh 0 0 (!cF w)) } }) ⟨rfl,rfl⟩) λr s₁ hr=>?_
 cases r with
 |error e=>exact hr
 |ok fl=>
  cases fl with
  |ret obj=>
   obtain⟨rfl,rfl⟩:=hr
   have hS:(s.heap.push {cls:=.type "set", dict:=none,data:=.set #[] 0 (.fresh 0 0 (!cF w)) }).get? s.heap.objs.size=some {cls:=.type "set", dict:=none,data:=.set #[] 0 (.fresh 0 0 (!cF w)) }:=Heap.get?_push_size _ rfl
   have hT:Shared.TypeIs {s with heap:=s.heap.push {cls:=.type "set", dict:=none,data:=.set #[] 0 (.fresh 0 0 (!cF w)) } } (.ref s.heap.objs.size) "set" := ⟨_,hS,rfl⟩
   have hli:=F.called_set.init.lookup
   have hbi:=F.called_set.init.bind (.ref s.heap.objs.size)
   repeat(any_goals(first|assumption|wp_step))
   refine codeAny_mono (codeAny_call_builtin (R:=wants (λr s₂=>r=.none/\∃h' tk,s₂={s with heap:=h',toks:=tk} /\
    SetB (!cF w) h' s.heap.objs.size (mk8 val items.size) /\
    (∀b o,b<s.heap.objs.size->s.heap.get? b=some o->h'.get? b=some o)) E) F.called_set.init.plain F.entry_set_init (check_set_init_1 hT ?_)) λr₂ s₂ hr₂=>?_
   ·generalize hpu:s.heap.push {cls:=.type "set", dict:=none,data:=.set #[] 0 (.fresh 0 0 (!cF w)) }=hp1 at *
    have hz:hp1.objs.size=s.heap.objs.size+1:=by rw[<-hpu];exact Heap.size_push ..
    have hold:∀b o,s.heap.get? b=some o->hp1.get? b=some o:=λb o e=>by rw[<-hpu];exact Heap.get?_push_of_some _ e
    obtain⟨ol,hol,hcl,nl,hdl⟩:=hl
    obtain⟨ocls,odict,odata,oslots⟩:=ol
    simp only at hcl hdl
    subst hcl;subst hdl
    have hol':hp1.get? l=some {cls:=.type "list", dict:=odict,data:=.seq items nl,slots:=oslots}:=hold _ _ hol
    have hsls:=F.sub_list_set
    have hslf:=F.sub_list_frozenset
    have hne:(Value.type "list" == Value.type "dict")=false:=by decide
    have hl1:hp1.IsList l items:=⟨_,hol',rfl,nl,rfl⟩
    have hlS:l<s.heap.objs.size:=Heap.lt_size hol
    have hneI:l≠hp1.objs.size:=by rw[hz];exact aT (gY hlS)
    unfold Builtin.«set.__init__» noKeywords Builtin.Frozenset.updateFrom
    generalize hPI:pyIter=PI
    wp_walk
    subst hPI
    refine wpAny_pyIter_list hl1 ?_
    refine wpAny_bind (wpAny_runValue ?_)
    have hh3:A.in1.in1.in1.handled=none:=by simp[hh]
    refine Gf ((Walks.list hh3 _ l hneI items).toS) s.heap.objs.size (by rw[hz];simp only[aO,bX,fH,or_false,not_or];exact⟨aT (oA _),iK hlS⟩) val hval (items.size-0) 0 _ (by lia) (eM _) ⟨⟨_,Heap.get?_push_size _ rfl,rfl,rfl⟩,(hl1.push _)⟩ ?hS0 ?hR
    case hS0=>
     have hget:(hp1.push {cls:=.type "list_iterator", data:=.fields #[.ref l,.int 0 0] }).get? s.heap.objs.size
      = some {cls:=.type "set", dict:=none,data:=.set #[] 0 (.fresh 0 0 (!cF w)) }:=Heap.get?_push_of_some _ hS
     show SetB (!cF w) _ _ 0
     exact⟨_,#[],0,hget,⟨rfl,rfl,rfl⟩,rfl,⟨rfl,λe he=>by simp at he⟩,by decide⟩
    case hR=>
     intro s' hm hS'
     obtain⟨h',g',d',tk',os'⟩:=s'
     have eg:g'=s.gens:=hm.gens
     have ed:d'=s.drawn:=hm.drawn
     have eo:os'=s.os:=hm.os
     subst eg;subst ed;subst eo
     show wpAny _ _ _ _ _ _
     refine wpAny_pure ?_
     show wpAny _ _ (ret Value.none) _ _ _
     refine wpAny_pure ⟨rfl,h',tk',rfl,hS',λb o hb e=>?_⟩
     have hb1:b≠s.heap.objs.size:=aT hb
     have hb2:b≠hp1.objs.size:=by rw[hz];exact aT (gY hb)
     exact hm.heap b o (by simp only[aO,bX,fH,or_false,not_or];exact⟨hb1,hb2⟩) (Heap.get?_push_of_some _ (hold _ _ e))
   ·cases r₂ with
    |error e=>exact hr₂
    |ok fl₂=>
     cases fl₂ with
     |ret r=>
      obtain⟨rfl,h',tk,rfl,hS',hk'⟩:=hr₂
      repeat(any_goals(first|assumption|wp_step))
      exact h _ _ hS' hk'
     |_=>exact hr₂.elim
  |_=>exact hr.elim
end
theorem Gi:entryFor table "set.__iter__" = some Builtin.«frozenset.__iter__» :=
 entryFor_alias (id' := "frozenset.__iter__") (by kernel_rfl) rfl (by decide +kernel) (by kernel_rfl)
theorem slot_set_iterator_next:Slot "set_iterator" "__next__" "set_iterator.__next__" :=
 .of (owner := "set_iterator") (n := "__next__") (by rw[typeLookup_type,builtinLookup_eq_fast];kernel_rfl) (by decide +kernel) (by decide +kernel) (by decide +kernel)
  (by first|exact .inl (by decide +kernel)|exact .inr (by decide +kernel)) (by rw[isSubtype_type];kernel_rfl)
theorem Az:entryFor table "set_iterator.__next__" = some Builtin.«set_iterator.__next__»:=entryFor_of_tree (by kernel_rfl)
theorem BA (a:Value):argsOk "set_iterator.__next__" ⟨[a],[]⟩:=by unfold argsOk;kernel_rfl
noncomputable def IsSetIter(h:Heap)(it a:Addr)(sl i n ep:Nat):Prop:=
 ∃o,h.get? it=some o/\o.cls=.type "set_iterator" /\ o.data=.fields #[.int (sl:Int) 0,.int (i:Int) 0,.ref a,.int (n:Int) 0,.int (ep:Int) 0]
noncomputable def SetE(led:Bool)(h:Heap)(a:Addr)(m:Nat)(es:Array (Int×Value))(ep:Nat):Prop:=
 ∃o,h.get? a=some o/\o.ExactSet/\o.data=.set es ep (cO led (aJ m))/\EL (aJ m) es.toList/\m<256
theorem SetB.e{led:Bool}{h:Heap}{a:Addr}{m:Nat}(x:SetB led h a m):∃es ep,SetE led h a m es ep:=let ⟨o,es,ep,r⟩:=x;⟨es,ep,o,r⟩
theorem SetE.typeIs {led:Bool} {s:Shared} {a:Addr} {m:Nat} {es:Array (Int×Value)} {ep:Nat} (x:SetE led s.heap a m es ep):s.TypeIs (.ref a) "set" :=
 let ⟨o,ho,hc,_⟩:=x;⟨o,ho,hc.1⟩
theorem SetE.fits{led:Bool}{h:Heap}{a:Addr}{m:Nat}{es:Array (Int×Value)}{ep:Nat}(x:SetE led h a m es ep):(cO led (aJ m)).fits es.size=true:=by
 obtain⟨o,_,_,_,hel,hm⟩:=x
 rw[hel.size];exact(lD hm).2.1 led
theorem SetE.at{led:Bool}{h h':Heap}{a:Addr}{m:Nat}{es:Array (Int×Value)}{ep:Nat}(x:SetE led h a m es ep)(k:∀o,h.get? a=some o->h'.get? a=some o):SetE led h' a m es ep:=
 let ⟨o,ho,r⟩:=x;⟨o,k o ho,r⟩
theorem IsSetIter.at{h h':Heap}{it a:Addr}{sl i n ep:Nat}(x:IsSetIter h it a sl i n ep)(k:∀o,h.get? it=some o->h'.get? it=some o):IsSetIter h' it a sl i n ep:=
 let ⟨o,ho,r⟩:=x;⟨o,k o ho,r⟩
theorem IsSetIter.typeIs {s:Shared} {it a:Addr} {sl i n ep:Nat} (x:IsSetIter s.heap it a sl i n ep):s.TypeIs (.ref it) "set_iterator" := let ⟨o,ho,hc,_⟩:=x;⟨o,ho,hc⟩
noncomputable def dS(w:World)(a:Addr)(es:Array (Int×Value))(ep:Nat):List Value:=
 (if cF w then pickOrder (w.params.setOrder a ep) es else es).toList.map (·.2)
section
variable{prog:Program}{w:World}{A:Around}{E:Value->Shared->Prop}{s:Shared}
theorem Gj{a:Addr}{m:Nat}{es:Array (Int×Value)}{ep:Nat}{Q:Value->Shared->Prop}(hS:SetE (!cF w) s.heap a m es ep)
 (hQ:Q (.ref s.heap.objs.size) {s with heap:=s.heap.push {cls:=.type "set_iterator", data:=.fields #[.int 0 0,.int 0 0,.ref a,.int es.size 0,.int ep 0] } }) :
 wpAny (model prog w) A (pyIter (.ref a)) Q E s:=by
 have hT:=hS.typeIs
 have hf:=hS.fits
 obtain⟨o,ho,hex,hd,hel,hm⟩:=hS
 refine wpAny_pyIter_slot hT F.slot_set_iter (wpAny_call_entry F.slot_set_iter hT Gi ?_ (F.args_set_iter_1 _))
 unfold Builtin.«frozenset.__iter__»
 refine wpAny_bind (m:=Builtin.Frozenset.slot0 "__iter__" ⟨[.ref a],[]⟩) (wpAny_pure ?_)
 refine wpAny_bind ?_
 unfold Builtin.Frozenset.sizeOf setEntries
 refine wpAny_bind (wpAny_bind (wpAny_setState_of ho hd hf (wpAny_pure (wpAny_pure ?_))))
 refine wpAny_bind ?_
 unfold setDrawn
 refine wpAny_bind (wpAny_setState_of ho hd hf ?_)
 dsimp only
 unfold setsByText
 refine wpAny_bind (wpAny_bind (wpAny_askSetting (wpAny_pure (wpAny_pure ?_))))
 rw[if_neg (by
  show ¬((!_&&(!true&&_))=true)
  simp)]
 refine wpAny_bind (wpAny_pure ?_)
 unfold setEpoch
 refine wpAny_bind (wpAny_bind (wpAny_setState_of ho hd hf (wpAny_pure ?_)))
 exact wpAny_bind (wpAny_newObj_type (wpAny_pure ⟨_,rfl, "set_iterator", _,⟨_,Heap.get?_push_size _ rfl,rfl⟩,slot_set_iterator_next.lookup,hQ⟩))
end
theorem BB{α:Type}(f:Nat->Nat):∀(n k:Nat)(l:List α)(out:Array α),l.length=n->((pickOrder.go f n k l out).toList).Perm (out.toList++l)
 |0,k,l,out,h=>by
  rw[Li.mp h]
  simp[pickOrder.go]
 |n+1,k,l,out,h=>by
  have hlt:f k%l.length<l.length:=Nat.mod_lt _ (by lia)
  rw[pickOrder.go,aX hlt]
  refine(BB f n (k+1) _ _ (by rw[List.length_eraseIdx];simp[hlt];lia)).trans ?_
  rw[Array.toList_push,kQ]
  refine sO.append_left _ ?_
  rw[List.eraseIdx_eq_take_drop_succ]
  have e:=List.take_append_drop (f k%l.length) l
  rw[yY hlt]at e
  have p:=List.perm_middle (l₁:=l.take (f k%l.length)) (a:=l[f k%l.length]) (l₂:=l.drop (f k%l.length+1))
  rw[e]at p
  exact p.symm
theorem Gk{α:Type}(f:Nat->Nat)(xs:Array α):(pickOrder f xs).toList.Perm xs.toList:=by
 unfold pickOrder
 exact BB f xs.size 0 xs.toList #[] rfl
theorem tQ(w:World)(a:Addr)(es:Array (Int×Value))(ep:Nat):(dS w a es ep).Perm (es.toList.map (·.2)):=by
 unfold dS
 split
 ·exact(Gk _ es).map _
 ·exact sO.refl _
noncomputable def cS(w:World)(m i:Nat):Nat:=if cF w then 0 else if i=0 then 0 else(aJ m).getD (i-1) 0+1
section
variable{prog:Program}{w:World}{A:Around}{E:Value->Shared->Prop}{s:Shared}
theorem BC{a:Addr}{m i:Nat}{es:Array (Int×Value)}{ep:Nat}{Q:Option (Value×Nat)->Shared->Prop}(hS:SetE (!cF w) s.heap a m es ep)(hi:i<=es.size)
 (h:Q ((dS w a es ep)[i]?.map λv=>(v,cS w m (i+1))) s) :
 wpAny (model prog w) A (setNext a (cS w m i) i ep) Q E s:=by
 have hf:=hS.fits
 obtain⟨o,ho,hex,hd,hel,hm⟩:=hS
 unfold setNext
 refine wpAny_bind (wpAny_setState_of ho hd hf ?_)
 dsimp only
 unfold setsByText
 refine wpAny_bind (wpAny_bind (wpAny_askSetting (wpAny_pure ?_)))
 show wpAny _ _ (if cF w=true then _ else _) _ _ _
 cases hb:cF w with
 |true=>
  rw[if_pos rfl,if_neg (by simp)]
  refine wpAny_bind ?_
  unfold setWalk
  refine wpAny_bind (wpAny_setState_of ho hd hf ?_)
  dsimp only
  unfold setsByText
  refine wpAny_bind (wpAny_bind (wpAny_askSetting (wpAny_pure ?_)))
  show wpAny _ _ (if cF w=true then _ else _) _ _ _
  rw[hb,if_pos rfl]
  refine wpAny_bind (wpAny_askSetting (wpAny_pure (wpAny_pure ?_)))
  unfold dS cS at h
  rw[hb]at h
  simp only[↓reduceIte]at h
  unfold cS
  rw[hb]
  simp only[↓reduceIte]
  have e:((pickOrder (w.params.setOrder a ep) es).toList.map (·.2))[i]?.map (λv=>(v,0))=((pickOrder (w.params.setOrder a ep) es)[i]?).map λe=>(e.2,0):=by
   rw[bK,jR]
   cases (pickOrder (w.params.setOrder a ep) es)[i]?<;>rfl
  rw[e]at h
  exact h
 |false=>
  rw[if_neg (by simp)]
  rw[if_neg (by show ¬((!true&&_)=true);simp)]
  refine wpAny_bind ?_
  show wpAny _ _ (if(!true&&_)=true then _ else _) _ _ _
  rw[if_neg (by simp)]
  refine wpAny_pure (wpAny_pure ?_)
  have hsl:cS w m i=if i=0 then 0 else(aJ m).getD (i-1) 0+1:=by unfold cS;rw[hb];rfl
  have hbl:SetTable.below (cO (!false) (aJ m)).place (cS w m i)=i:=by
   rw[hsl];exact(lD hm).2.2.2 i (by rw[<-hel.size];exact hi)
  rw[hbl]
  have hz:=hel.size
  have hw:dS w a es ep=es.toList.map (·.2):=by unfold dS;rw[hb];rfl
  rw[hw]at h
  have hpl:(cO (!false) (aJ m)).place[i]?=(aJ m)[i]?:=by show(aJ m).toArray[i]?=_;simp
  rcases zD i es.size with c|c
  ·have c':i<(aJ m).length:=by lia
   rw[hpl,kS c,aX c']
   have e1:cS w m (i+1)=(aJ m)[i]+1:=by
    unfold cS
    rw[hb]
    simp only[iO,↓reduceIte,Nat.add_eq_zero_iff,zE,and_false,Nat.add_sub_cancel]
    rw[eU,aX c']
    rfl
   have e2:((es.toList.map (·.2))[i]?.map λv=>(v,cS w m (i+1)))=some (es[i].2,(aJ m)[i]+1):=by
    rw[bK,jR,kS c,e1]
    rfl
   rw[e2]at h
   exact h
  ·have e2:((es.toList.map (·.2))[i]?.map λv=>(v,cS w m (i+1)))=none:=by
    rw[bK,jR,sP c]
    rfl
   rw[e2]at h
   rw[sP c]
   exact h
end
theorem BD:Slot "set_iterator" "__iter__" "set_iterator.__iter__" :=
 .of (owner := "set_iterator") (n := "__iter__") (by rw[typeLookup_type,builtinLookup_eq_fast];kernel_rfl) (by decide +kernel) (by decide +kernel) (by decide +kernel)
  (by first|exact .inl (by decide +kernel)|exact .inr (by decide +kernel)) (by rw[isSubtype_type];kernel_rfl)
theorem Gm:entryFor table "set_iterator.__iter__" = some Builtin.«dict_keyiterator.__iter__» :=
 entryFor_alias (id' := "dict_keyiterator.__iter__") (by kernel_rfl) rfl (by decide +kernel) (by kernel_rfl)
theorem Gn (a:Value):argsOk "set_iterator.__iter__" ⟨[a],[]⟩:=by unfold argsOk;kernel_rfl
section
variable{prog:Program}{w:World}{A:Around}{E:Value->Shared->Prop}{s:Shared}
theorem IsSetIter.put{h:Heap}{it a:Addr}{sl i n ep:Nat}(x:IsSetIter h it a sl i n ep)(sl' i':Nat) :
 IsSetIter ((h.update it (Obj.mapFields (·.setIfInBounds 0 (rawInt (sl':Int))))).update it (Obj.mapFields (·.setIfInBounds 1 (rawInt (i':Int))))) it a sl' i' n ep:=by
 obtain⟨o,ho,hc,hd⟩:=x
 have h1:=Heap.get?_update_self (Obj.mapFields (·.setIfInBounds 0 (rawInt (sl':Int)))) ho (Obj.isFreed_of_fields (Obj.data_mapFields hd _))
 have d1:=Obj.data_mapFields hd (·.setIfInBounds 0 (rawInt (sl':Int)))
 refine⟨_,Heap.get?_update_self _ h1 (Obj.isFreed_of_fields (Obj.data_mapFields d1 _)),(Obj.cls_mapFields ..).trans ((Obj.cls_mapFields ..).trans hc),?_⟩
 rw[Obj.data_mapFields d1]
 simp[rawInt]
theorem oV(w:World)(a:Addr)(es:Array (Int×Value))(ep:Nat):(dS w a es ep).length=es.size:=by
 rw[(tQ w a es ep).length_eq];simp
theorem Walks.set8(hh:A.handled=none)(I a:Addr)(hne:a≠I)(m:Nat)(es:Array (Int×Value))(ep:Nat) :
 Walks prog w A I [I,a] [I] es.size (λi v=>(dS w a es ep)[i]?=some v) (λi h=>IsSetIter h I a (cS w m i) i es.size ep/\SetE (!cF w) h a m es ep) where
 sub:=λb hb=>by simp at hb;simp[hb]
 frame:=λ_ _ _ st hk=>⟨st.1.at λo e=>hk I (by simp) o e,st.2.at λo e=>hk a (by simp) o e⟩
 item:=λi s Q E hi st hQ=>by
  obtain⟨hit,hS⟩:=st
  obtain⟨o,ho,hc,hd⟩:=id hit
  have hf:=hS.fits
  obtain⟨os,hos,hexs,hds,_⟩:=id hS
  unfold pyNext
  refine wpAny_bind (wpAny_attempt (wpAny_callSpecial?_slot (name:=Str.ofString "__next__") hit.typeIs slot_set_iterator_next
   (wpAny_call_entry slot_set_iterator_next hit.typeIs Az ?_ (BA _))))
  unfold Builtin.«set_iterator.__next__»
  refine wpAny_bind (m:=slotArgs "__next__" 0 ⟨[.ref I],[]⟩) (wpAny_pure ?_)
  refine wpAny_bind (wpAny_fieldsOf ho hd ?_)
  dsimp only
  unfold setEntries
  refine wpAny_bind (wpAny_bind (wpAny_setState_of hos hds hf (wpAny_pure ?_)))
  dsimp only
  rw[if_neg (by simp)]
  refine wpAny_bind ?_
  rw[show(lU ((cS w m i:Nat):Int))=cS w m i from gZ _,show(lU ((i:Nat):Int))=i from gZ _,show(lU ((ep:Nat):Int))=ep from gZ _]
  refine BC hS (iJ hi) ?_
  have hlt:i<(dS w a es ep).length:=by rw[oV];exact hi
  rw[aX hlt]
  show wpAny _ _ (setField (.ref I) 0 (rawInt ((cS w m (i+1):Nat):Int))>>=_) _ _ s
  refine wpAny_bind (wpAny_setField ho hd (by simp) ?_)
  have h1:=Heap.get?_update_self (Obj.mapFields (·.setIfInBounds 0 (rawInt ((cS w m (i+1):Nat):Int)))) ho (Obj.isFreed_of_fields (Obj.data_mapFields hd _))
  refine wpAny_bind (wpAny_setField h1 (Obj.data_mapFields hd _) (by simp) ?_)
  refine wpAny_pure ⟨_,rfl,wpAny_pure (hQ _ _ s.toks (aX hlt) ⟨?_,?_⟩ λb o' hb e=>?_)⟩
  ·exact hit.put (cS w m (i+1)) (i+1)
  ·refine hS.at λo' e=>?_
   rw[Heap.get?_update_other _ _ (λh=>hne h.symm),Heap.get?_update_other _ _ (λh=>hne h.symm)]
   exact e
  ·have hb':I≠b:=λh=>hb (by simp[h])
   show Heap.get? _ b=some o'
   rw[Heap.get?_update_other _ _ hb',Heap.get?_update_other _ _ hb']
   exact e
 done:=λs Q E st hQ=>by
  obtain⟨hit,hS⟩:=st
  obtain⟨o,ho,hc,hd⟩:=id hit
  have hf:=hS.fits
  obtain⟨os,hos,hexs,hds,_⟩:=id hS
  unfold pyNext
  refine wpAny_bind (wpAny_attempt (wpAny_callSpecial?_slot (name:=Str.ofString "__next__") hit.typeIs slot_set_iterator_next
   (wpAny_call_entry slot_set_iterator_next hit.typeIs Az ?_ (BA _))))
  unfold Builtin.«set_iterator.__next__»
  refine wpAny_bind (m:=slotArgs "__next__" 0 ⟨[.ref I],[]⟩) (wpAny_pure ?_)
  refine wpAny_bind (wpAny_fieldsOf ho hd ?_)
  dsimp only
  unfold setEntries
  refine wpAny_bind (wpAny_bind (wpAny_setState_of hos hds hf (wpAny_pure ?_)))
  dsimp only
  rw[if_neg (by simp)]
  refine wpAny_bind ?_
  rw[show(lU ((cS w m es.size:Nat):Int))=cS w m es.size from gZ _,show(lU ((es.size:Nat):Int))=es.size from gZ _,show(lU ((ep:Nat):Int))=ep from gZ _]
  refine BC hS (aN _) ?_
  rw[jS (by rw[oV];exact aN _)]
  show wpAny _ _ (setField (.ref I) 2 .none>>=_) _ _ s
  refine wpAny_bind (wpAny_setField ho hd (by simp) ?_)
  show wpAny _ _ (newExc (.type "StopIteration") []>>=_) _ _ _
  refine wpAny_bind ?_
  simp only[newExc,newTuple]
  refine wpAny_bind (wpAny_newObj_type ?_ (by size_fits))
  refine wpAny_bind (m:=firstArgMember _ _) (wpAny_of_eq (a:=Value.none) (by first|rfl|(simp only[firstArgMember];rfl)) ?_)
  refine wpAny_newObj_type ?_ (by size_fits)
  simp only[raiseNew]
  refine wpAny_bind (wpAny_handled ?_)
  rw[show A.in1.handled=none from hh]
  refine wpAny_bind (wpAny_pure (wpAny_throw ?_))
  refine wpAny_bind (wpAny_isInstance (T := "StopIteration") (b:=true) ⟨_,Heap.get?_push_size _ rfl,rfl⟩ isSubtype_stop ?_)
  refine wpAny_pure (hQ _ s.toks λb o' hb e=>?_)
  exact((((Heap.SameBut.update s.heap I _).extBut).push _).push _) b o' (λh=>hb (by simp[h])) e
 self:=λi s Q E st hQ=>by
  have hT:=st.1.typeIs
  refine wpAny_pyIter_slot hT BD (wpAny_call_entry BD hT Gm ?_ (Gn _))
  show wpAny _ _ (ret (.ref I)) _ _ s
  exact wpAny_pure ⟨_,rfl, "set_iterator", _,hT,slot_set_iterator_next.lookup,hQ⟩
set_option maxHeartbeats 1600000 in
theorem Gp{a:Addr}{m:Nat}{es:Array (Int×Value)}{ep:Nat}{Q:List Value->Shared->Prop}(hh:A.handled=none)(hS:SetE (!cF w) s.heap a m es ep)
 (hQ:∀h' tk,s.heap.objs.size<=h'.objs.size->(∀b o,b<s.heap.objs.size->s.heap.get? b=some o->h'.get? b=some o)->Q (dS w a es ep) {s with heap:=h',toks:=tk}) :
 wpAny (model prog w) A (collect (.ref a)) Q E s:=by
 have hz8:es.size<=8:=by
  obtain⟨o,_,_,_,hel,hm⟩:=hS
  rw[hel.size];exact(lD hm).1
 have hT:=hS.typeIs
 have hlt:a<s.heap.objs.size:=by obtain⟨o,ho,_⟩:=hS;exact Heap.lt_size ho
 unfold collect
 refine wpAny_bind (wpAny_runValue (codeAny_builtin PySem.F.entry_proto_collect ?_))
 rw[Around.under_plainId PySem.F.plain_proto_collect _]
 show wpAny _ A.in1 (newList []>>=λl=>again (.builtin "list.__iadd__" ⟨[l,.ref a],[]⟩)) _ _ s
 refine wpAny_bind (wpAny_newObj_type ?_)
 refine wpAny_pure ⟨plainId_quiet PySem.F.plain_list_iadd _,codeAny_builtin PySem.F.entry_list_iadd ?_⟩
 rw[Around.under_plainId PySem.F.plain_list_iadd _]
 have hS₁:(s.heap.push {cls:=.type "list", data:=.seq ([]:List Value).toArray}).get? s.heap.objs.size=some {cls:=.type "list", data:=.seq ([]:List Value).toArray}:=Heap.get?_push_size _ rfl
 have hE₁:SetE (!cF w) (s.heap.push {cls:=.type "list", data:=.seq ([]:List Value).toArray}) a m es ep:=hS.at λo e=>Heap.get?_push_of_some _ e
 have hsz₁:(s.heap.push {cls:=.type "list", data:=.seq ([]:List Value).toArray}).objs.size=s.heap.objs.size+1:=size_push' _ _
 have hk₁:∀b o,s.heap.get? b=some o->(s.heap.push {cls:=.type "list", data:=.seq ([]:List Value).toArray}).get? b=some o:=λb o e=>Heap.get?_push_of_some _ e
 generalize s.heap.push {cls:=.type "list", data:=.seq ([]:List Value).toArray}=H1 at *
 have h1:Builtin.List.listSameRef (.ref s.heap.objs.size) (.ref a)=false:=by simp[Builtin.List.listSameRef,iK hlt]
 show wpAny _ A.in1 (Builtin.List.listExtendWith (.ref s.heap.objs.size) (.ref a) (.ref s.heap.objs.size)) _ _ _
 unfold Builtin.List.listExtendWith
 have hT1:Shared.TypeIs {s with heap:=H1} (.ref a) "set" := hE₁.typeIs (s:={s with heap:=H1})
 refine wpAny_bind (wpAny_typeOf hT1 ?_)
 rw[if_neg (by rw[h1];decide)]
 refine wpAny_bind (Gj (s:={s with heap:=H1}) hE₁ ?_)
 show wpAny _ _ _ _ _ {s with heap:=H1.push {cls:=.type "set_iterator", data:=.fields #[.int 0 0,.int 0 0,.ref a,.int es.size 0,.int ep 0] } }
 have hI2:(H1.push {cls:=.type "set_iterator", data:=.fields #[.int 0 0,.int 0 0,.ref a,.int es.size 0,.int ep 0] }).get? H1.objs.size=some {cls:=.type "set_iterator", data:=.fields #[.int 0 0,.int 0 0,.ref a,.int es.size 0,.int ep 0] }:=Heap.get?_push_size _ rfl
 have hk₂:∀b o,H1.get? b=some o->(H1.push {cls:=.type "set_iterator", data:=.fields #[.int 0 0,.int 0 0,.ref a,.int es.size 0,.int ep 0] }).get? b=some o:=λb o e=>Heap.get?_push_of_some _ e
 generalize H1.push {cls:=.type "set_iterator", data:=.fields #[.int 0 0,.int 0 0,.ref a,.int es.size 0,.int ep 0] }=H2 at *
 have hE₂:SetE (!cF w) H2 a m es ep:=hE₁.at λo e=>hk₂ _ o e
 have hT2:Shared.TypeIs {s with heap:=H2} (.ref a) "set" := hE₂.typeIs (s:={s with heap:=H2})
 refine wpAny_bind (wpAny_holding ?_)
 unfold Builtin.List.listLengthHint
 refine wpAny_bind (wpAny_specialOf hT2 PySem.F.slot_set_len.lookup ?_)
 (generalize hid:("set.__len__" : String)=id0;(fail_if_success (clear hid id0));wp_delta;rw[show splitId id0=some ("set", "__len__")from by subst hid;decide +kernel];subst hid)
 refine wpAny_bind (wpAny_isInstance (b:=true) hT2 (by rw[isSubtype_type];kernel_rfl) ?_)
 rw[if_neg (by decide)]
 show wpAny _ A.in1 (typeOf (Value.ref a)>>=_) _ _ _
 refine wpAny_bind (wpAny_typeOf hT2 ?_)
 refine wpAny_pure ?_
 rw[if_pos (by decide +kernel)]
 refine wpAny_bind (wpAny_rule ?_)
 have hL2:H2.get? s.heap.objs.size=some (seqObj "list" #[] 0):=hk₂ _ _ hS₁
 unfold Builtin.List.listTouch
 refine wpAny_bind ?_
 refine wpAny_bind (listUpdate_at (s:={s with heap:=H2}) hL2 rfl ?_)
 have hL3:=get?_update_seq hL2 (·.push Value.none)
 refine listUpdate_at (s:={s with heap:=H2.update s.heap.objs.size (Obj.mapSeq (·.push Value.none)) }) hL3 rfl ?_
 have hL4:∃c,((H2.update s.heap.objs.size (Obj.mapSeq (·.push Value.none))).update s.heap.objs.size (Obj.mapSeq (·.pop))).get? s.heap.objs.size=some (seqObj "list" #[] c):=⟨_,(get?_update_seq hL3 (·.pop)).trans (by rw[show((#[]:Array Value).push Value.none).pop=#[]from rfl])⟩
 obtain⟨c4,hL4⟩:=hL4
 have hk₃:∀b o,b≠s.heap.objs.size->H2.get? b=some o->((H2.update s.heap.objs.size (Obj.mapSeq (·.push Value.none))).update s.heap.objs.size (Obj.mapSeq (·.pop))).get? b=some o:=λb o hb e=>by
  rw[Heap.get?_update_other _ _ (λh=>hb h.symm),Heap.get?_update_other _ _ (λh=>hb h.symm)];exact e
 dsimp only
 generalize (H2.update s.heap.objs.size (Obj.mapSeq (·.push Value.none))).update s.heap.objs.size (Obj.mapSeq (·.pop))=H3 at *
 have hIs:IsSetIter H3 H1.objs.size a (cS w m 0) 0 es.size ep:=by
  refine⟨_,hk₃ _ _ (by rw[hsz₁];exact zE _) hI2,rfl,?_⟩
  have:cS w m 0=0:=by unfold cS;split<;>rfl
  rw[this];rfl
 have hE₃:SetE (!cF w) H3 a m es ep:=hE₂.at λo e=>hk₃ _ o (aT hlt) e
 have W:=(Walks.set8 (prog:=prog) (w:=w) (A:=A.in1) hh H1.objs.size a (by rw[hsz₁];exact aT (gY hlt)) m es ep).toS
 refine wpAny_pure ⟨plainId_quiet PySem.F.plain_extend_loop _,codeAny_extend_loopS W (by rw[sizeLine_eq];lia) s.heap.objs.size ?_ _ es.size 0 _ #[] c4 (by lia) (eM _) ⟨hIs,hE₃⟩ hL4 (ItemsOf.nil _) λs' acc' c' hm hS' hacc=>?_⟩
 ·rw[hsz₁]
  simp only[aO,fH,or_false,not_or]
  exact⟨aT (oA _),iK hlt⟩
 ·show wpAny _ A (load s.heap.objs.size>>=_) _ _ s'
  refine wpAny_bind (wpAny_load hS' ?_)
  obtain⟨h',g',d',tk',os'⟩:=s'
  have eg:g'=s.gens:=hm.gens
  have ed:d'=s.drawn:=hm.drawn
  have eo:os'=s.os:=hm.os
  subst eg;subst ed;subst eo
  have hv:acc'.toList=dS w a es ep:=by
   apply Lj
   intro i
   rcases zD i es.size with c|c
   ·have c':i<acc'.size:=by rw[hacc.1];exact c
    have:=hacc.2 i acc'[i] (kS c')
    rw[jR,kS c',this]
   ·rw[jS (by rw[jP,hacc.1];exact c),jS (by rw[oV];exact c)]
  refine wpAny_pure ?_
  rw[hv]
  have hge:s.heap.objs.size<=h'.objs.size:=iJ (Heap.lt_size hS')
  refine hQ h' tk' hge λb o hb e=>?_
  refine hm.heap b o ?_ (hk₃ b o (aT hb) (hk₂ b o (hk₁ b o e)))
  rw[hsz₁]
  simp only[aO,fH,or_false,not_or]
  exact⟨aT hb,aT (gY hb)⟩
end
theorem Gq(m:Nat):((aJ m).map λi:Nat=>(i:Int)).Pairwise (·<=·):=by
 rw[zF]
 unfold aJ
 refine iL.filter _ ?_
 exact iL.imp (λh=>by lia) Lk
theorem Gr{a b:List Int}(hp:a.Perm b)(ha:a.Pairwise (·<=·))(hb:b.Pairwise (·<=·)):a=b:=
 hp.eq_of_pairwise (λx y _ _ h1 h2=>Ll h1 h2) ha hb
theorem BE(val:Nat->Nat):∀n i,(mk8 val n).testBit i=((aD n).any λj=>decide (val j=i))
 |0,i=>by simp[mk8]
 |n+1,i=>by
  rw[mk8,Lg,BE val n i,Lh,List.range_succ,Lf]
  simp
section
variable{prog:Program}{w:World}{A:Around}{E:Value->Shared->Prop}{s:Shared}
set_option maxHeartbeats 1600000 in
theorem Gs{a:Addr}{m:Nat}{Q:Value->Shared->Prop}(hh:A.handled=none)(hS:SetB (!cF w) s.heap a m)
 (h:∀h' tk l its c,(∀b o,b<s.heap.objs.size->s.heap.get? b=some o->h'.get? b=some o)->s.heap.objs.size<=l->h'.get? l=some (seqObj "list" its c)->IntsAre its.toList ((aJ m).map λi:Nat=>(i:Int))->Q (.ref l) {s with heap:=h',toks:=tk}) :
 wpAny (model prog w) A (call (.builtin "sorted") [.ref a]) Q E s:=by
 obtain⟨es,ep,hE⟩:=hS.e
 have hel:EL (aJ m) es.toList:=by obtain⟨o,_,_,_,q,_⟩:=hE;exact q
 have hm:m<256:=by obtain⟨o,_,_,_,_,q⟩:=hE;exact q
 have hI:IntsAre (dS w a es ep) ((dS w a es ep).map numOf):=intsAre_map _ λv hv=>by
  have hv':=(tQ w a es ep).mem_iff.mp hv
  obtain⟨e,he,rfl⟩:=bJ.mp hv'
  obtain⟨tk,e2⟩:=hel.2 e he
  exact⟨_,_,e2⟩
 have hP:((dS w a es ep).map numOf).Perm ((aJ m).map λi:Nat=>(i:Int)):=by
  refine((tQ w a es ep).map numOf).trans ?_
  rw[cG,<-hel.1]
  refine sO.of_eq (fU λe he=>?_)
  obtain⟨tk,e2⟩:=hel.2 e he
  show numOf e.2=e.1
  rw[e2];rfl
 have h64:(dS w a es ep).length<64:=by
  rw[oV,hel.size]
  have:=(lD hm).1
  lia
 refine Calls.call_function_entry kind_sorted plain_sorted entry_sorted (args_sorted1 _) ?_
 unfold Builtin.«sorted»
 refine wpAny_bind (m:=checkCount "sorted" 1 1 _) (wpAny_pure ?_)
 refine wpAny_bind (Gp (A:=A.in1) hh hE λH1 tk hsz hk1=>?_)
 refine wpAny_bind (wpAny_newList ?_ (by rw[sizeLine_eq];lia))
 have hoL:(H1.push (seqObj "list" (dS w a es ep).toArray 0)).get? H1.objs.size=some (seqObj "list" (dS w a es ep).toArray 0):=Heap.get?_push_size _ rfl
 refine wpAny_bind (wpAny_holding (wpAny_call_entry slot_list_sort ⟨_,hoL,rfl⟩ entry_list_sort (list_sort_tree (s:={s with heap:=H1.push (seqObj "list" (dS w a es ep).toArray 0),toks:=tk}) hoL hI h64 λout ns' a1 a2 a3=>⟨_,rfl,?_⟩) (args_list_sort _)))
 obtain⟨c,hc⟩:=sortedHeap_at (out:=out) (vs:=dS w a es ep) hoL
 have e:ns'=(aJ m).map λi:Nat=>(i:Int):=Gr (a2.trans hP) a3 (Gq m)
 subst e
 refine wpAny_pure ⟨_,rfl,h _ _ _ out c (λb o hb q=>?_) hsz hc a1⟩
 have hb1:b<H1.objs.size:=dM hb hsz
 rw[sortedHeap_old (aT hb1) (by rw[size_push'];exact gY hb1),Heap.get?_push_ne _ _ _ (aT hb1)]
 exact hk1 b o hb q
end
section
variable{prog:Program}{w:World}{A:Around}{E:Value->Shared->Prop}{s:Shared}{l:Addr}{xs:Array (Int×Tok)}
end
noncomputable def tU(w:World)(p:Addr)(m:Nat):HO:=.ext λh=>SetB (!cF w) h p m
noncomputable def m8(ns:List Int):Nat:=mk8 (λi=>(ns.getD i 0).toNat) ns.length
theorem Gu{ns:List Int}(h:∀n∈ns,0<=n/\n<8):aJ (m8 ns)=(aD 8).filter λi:Nat=>ns.contains (i:Int):=by
 unfold aJ
 apply En
 intro i hi
 unfold m8
 rw[BE,Bool.eq_iff_iff,sQ,jQ]
 constructor
 ·rintro⟨j,hj,e⟩
  have hj:=bO.mp hj
  rw[decide_eq_true_eq,eU,aX hj]at e
  have e':ns[j].toNat=i:=e
  have:=h _ (eF hj)
  have:(i:Int)=ns[j]:=by lia
  rw[this];exact eF hj
 ·intro hm
  obtain⟨j,hj,e⟩:=List.getElem_of_mem hm
  refine⟨j,bO.mpr hj,?_⟩
  rw[decide_eq_true_eq,eU,aX hj]
  show ns[j].toNat=i
  rw[e];lia
theorem Gv {X:Cx} (hc:X.calm=true):dH X (.type "set") (λvs H Q=>∃a ns,vs=[.ref a]/\SqL X.K H a (ns.map V.int)/\(∀n∈ns,0<=n/\n<8)/\∀p,H p=none->Q (.ref p) (upd H p (tU X.w p (m8 ns)))):=by
 intro pins s σ H vs us Q I rv h
 obtain⟨a,ns,rfl,hq,hb,q⟩:=h
 obtain⟨u,rfl,ru⟩:=rv.one
 cases ru
 obtain⟨its,r,pl,hz⟩:=I.list hq
 have hl:its.toArray.size=ns.length:=by rw[bP,<-r.length,aF]
 refine Gh (val:=λi=>(ns.getD i 0).toNat) (I.ok.hd hc) pl.isList (λi v hv=>?_) λh' tk hS' hkeep=>?_
 ·have hi:i<ns.length:=by
   rw[<-hl]
   rcases zD i its.toArray.size with z|z
   ·exact z
   ·rw[sP z]at hv;cases hv
  have h1:(ns.map V.int)[i]?=some (V.int ns[i]):=by rw[bK,aX hi];rfl
  obtain⟨u,h2,h3⟩:=r.get h1
  have h4:u=v:=by
   have:its[i]?=some v:=by simpa using hv
   rw[h2]at this;cases this;rfl
  subst h4
  obtain⟨t,rfl⟩:=h3
  have hn:=hb _ (eF hi)
  have eg:(ns.getD i 0)=ns[i]:=by rw[eU,aX hi];rfl
  refine⟨⟨t,?_⟩,?_⟩
  ·show Value.int ns[i] t=Value.int ((ns.getD i 0).toNat:Int) t
   rw[eg,sR hn.1]
  ·show(ns.getD i 0).toNat<8
   rw[eg];lia
 ·rw[hl]at hS'
  have fr:H s.heap.objs.size=none:=I.hok.fresh (aN _)
  refine⟨.ref s.heap.objs.size,_,I.laid (t':=tk) (λb o e=>hkeep b o (Heap.lt_size e) e) (aN _) ?_,rfl,q _ fr⟩
  refine⟨hS',?_,λh1 h2 p1 k=>?_⟩
  ·obtain⟨o,_,_,e,_⟩:=hS'
   exact⟨o,e⟩
  ·obtain⟨o,es,ep,e,r⟩:=p1
   exact⟨o,es,ep,k o e,r⟩
theorem oW:∀{vs:List Value} {ns:List Int},IntsAre vs ns->Vals (ns.map V.int) vs
 |_,_,.nil=>.nil
 |_,_,.cons n t h=>.cons ⟨t,rfl⟩ (oW h)
theorem Gw {X:Cx} (hc:X.calm=true):dH X (.builtin "sorted") (λvs H Q=>∃p m,vs=[.ref p]/\H p=some (tU X.w p m)/\∀l,H l=none->Q (.ref l) (upd H l (.lst ((aJ m).map λi:Nat=>V.int (i:Int))))):=by
 intro pins s σ H vs us Q I rv h
 obtain⟨p,m,rfl,hH,q⟩:=h
 obtain⟨u,rfl,ru⟩:=rv.one
 cases ru
 obtain⟨hS,_⟩:=I.hok p _ hH
 refine Gs (I.ok.hd hc) hS λh' tk l its c hk hge hl hI=>?_
 have hlen:(aJ m).length<=8:=by
  obtain⟨_,_,_,_,_,_,_,hm⟩:=hS
  exact(lD hm).1
 refine⟨.ref l,_,I.laid (t':=tk) (λb o e=>hk b o (Heap.lt_size e) e) hge ?_,rfl,q _ (I.hok.fresh hge)⟩
 have hv:=oW hI
 rw[cG]at hv
 refine⟨by rw[aF,sizeLine_eq];lia,its.toList,c,hv,by simpa using hl⟩
section
variable{prog:Program}{w:World}{A:Around}{E:Value->Shared->Prop}{s:Shared}{l:Addr}{its:List Value}
end
end Tr
namespace Tr
open PySem
noncomputable def BF(k:List Nat):Int:=reduceHash (Builtin.Tuple.tupleHashOf ((k.map λa:Nat=>(a:Int)).map hashInt))
noncomputable def advM(m:Nat)(p:SetTable.Probe):SetTable.Probe:=
 if p.more>0 then {p with j:=p.j+1,more:=p.more-1}else
 {p with j:=(SetTable.leap m p.i p.perturb).1,more:=SetTable.runEnd m (SetTable.leap m p.i p.perturb).1-(SetTable.leap m p.i p.perturb).1,i:=(SetTable.leap m p.i p.perturb).1,perturb:=(SetTable.leap m p.i p.perturb).2}
noncomputable def BG(m:Nat)(h:Int):SetTable.Probe:=
 {j:=SetTable.bits h%(m+1),more:=SetTable.runEnd m (SetTable.bits h%(m+1))-SetTable.bits h%(m+1),i:=SetTable.bits h%(m+1),perturb:=SetTable.bits h,dummy:=none}
noncomputable def Asc(xs:Array Nat):Prop:=xs.toList.Pairwise (· < ·)
theorem Asc.lt{xs:Array Nat}(h:Asc xs){i j a b:Nat}(hi:xs[i]?=some a)(hj:xs[j]?=some b)(l:i<j):a<b:=by
 obtain⟨p,rfl⟩:=Lm.mp hi
 obtain⟨q,rfl⟩:=Lm.mp hj
 have:=List.pairwise_iff_getElem.mp h i j (by simpa using p) (by simpa using q) l
 simpa using this
noncomputable def Hits(m:Nat)(L:Nat->Prop)(j:Nat):Nat->SetTable.Probe->Prop
 |0,_=>False
 |n+1,p=>p.j=j\/(L p.j/\Hits m L j n (advM m p))
theorem Hits.mono{m:Nat}{L L':Nat->Prop}(hl:∀x,L x->L' x){j:Nat}:∀{n:Nat} {p:SetTable.Probe},Hits m L j n p->Hits m L' j n p
 |0,_,h=>h
 |n+1,p,h=>by
  rcases h with e|⟨h1,h2⟩
  ·exact .inl e
  ·exact .inr ⟨hl _ h1,Hits.mono hl h2⟩
theorem Hits.more{m:Nat}{L:Nat->Prop}{j:Nat}:∀{n k:Nat} {p:SetTable.Probe},n<=k->Hits m L j n p->Hits m L j k p
 |0,_,_,_,h=>h.elim
 |n+1,0,_,hk,_=>by lia
 |n+1,k+1,p,hk,h=>by
  rcases h with e|⟨h1,h2⟩
  ·exact .inl e
  ·exact .inr ⟨h1,Hits.more (Nat.le_of_succ_le_succ hk) h2⟩
noncomputable def Own(m:Nat)(owner:Array (Option Nat))(x:Nat):Prop:=x<=m/\(owner.getD x none).isSome=true
structure LayOk(m:Nat)(H:Nat->Int)(owner:Array (Option Nat))(k:Nat):Prop where
 size:owner.size=m+1
 hit:∀x v,x<=m->owner.getD x none=some v->Hits m (Own m owner) x (10*SetTable.turns m) (BG m (H v))
 lt:∀x v,owner.getD x none=some v->v<k
 inj:∀x y v,owner.getD x none=some v->owner.getD y none=some v->x=y
end Tr
namespace Tr
open PySem PySem.Spec PyProof.Rows L2
noncomputable def PSet(h:Heap)(S:Addr)(ks:List (List Nat)):Prop:=
 ∃o es ep t,h.get? S=some o/\o.ExactSet/\o.data=.set es ep t/\t.dummies=#[]/\t.place.size=es.size/\es.size=ks.length/\(∀e∈es.toList,e.1∈ks.map λk=>BF k)/\(t.mask=7/\es.size<5\/t.mask=31/\es.size<19\/t.mask=127)
section
variable{prog:Program}{w:World}{A:Around}{E:Value->Shared->Prop}{s:Shared}
end
section
variable{prog:Program}{w:World}{A:Around}{E:Value->Shared->Prop}{s:Shared}
end
section
variable{prog:Program}{w:World}{A:Around}{E:Value->Shared->Prop}{s:Shared}
noncomputable def PSetB(h:Heap)(S:Addr)(ks:List (List Nat))(B:Int×Value->Prop):Prop:=
 ∃o es ep t,h.get? S=some o/\o.ExactSet/\o.data=.set es ep t/\t.dummies=#[]/\t.place.size=es.size/\es.size=ks.length/\(∀e∈es.toList,e.1∈ks.map λk=>BF k)/\(t.mask=7/\es.size<5\/t.mask=31/\es.size<19\/t.mask=127) /\
  Asc t.place/\(∀z∈t.place.toList.zip es.toList,Hits t.mask (·∈t.place.toList) z.1 (10*SetTable.turns t.mask) (BG t.mask z.2.1))/\(es.toList.map (·.1)).Nodup/\∀e∈es.toList,B e
theorem PSetB.set{h:Heap}{S:Addr}{ks:List (List Nat)}{B:Int×Value->Prop}(x:PSetB h S ks B):PSet h S ks:=by
 obtain⟨o,es,ep,t,h1,h2,h3,h4,h5,h6,h7,h8,_⟩:=x
 exact⟨o,es,ep,t,h1,h2,h3,h4,h5,h6,h7,h8⟩
end
section
variable{prog:Program}{w:World}{A:Around}{R:Result->Shared->Prop}{I:Addr}{fp wr:List Addr}{G:Array GenState->Array GenState->Prop}{n:Nat}{P:Nat->Value->Prop}{St:Nat->Shared->Prop}
end
section
variable{prog:Program}{w:World}{A:Around}{E:Value->Shared->Prop}{s:Shared}
end
section
variable{prog:Program}{w:World}{A:Around}{E:Value->Shared->Prop}{s:Shared}
end
noncomputable def SetY(P:Program)(w:World)(p:Addr)(n:Nat):HO:=.ext λh=>∃S,h.SetOf (aY P w) p S n
noncomputable def PairsAt(K:PySem.W.Frag)(H:Hp):List Addr->List (List Nat)->Prop
 |[],ps=>ps=[]
 |a::r,ps=>∃p q,ps=p::q/\SqT K H a (p.map λn:Nat=>V.int (n:Int))/\PairsAt K H r q
theorem PairsAt.get{K:PySem.W.Frag}{H:Hp}:∀{as:List Addr} {ps:List (List Nat)} {i:Nat} {a:Addr},PairsAt K H as ps->as[i]?=some a->SqT K H a ((ps.getD i []).map λn:Nat=>V.int (n:Int))
 |[],_,i,a,_,e=>by simp at e
 |b::r,ps,i,a,h,e=>by
  obtain⟨p,q,rfl,h1,h2⟩:=h
  cases i with
  |zero=>simp at e;subst e;exact h1
  |succ i=>exact h2.get (by simpa using e)
theorem PairsAt.length{K:PySem.W.Frag}{H:Hp}:∀{as:List Addr} {ps:List (List Nat)},PairsAt K H as ps->as.length=ps.length
 |[],_,h=>by cases h;rfl
 |b::r,ps,h=>by
  obtain⟨p,q,rfl,h1,h2⟩:=h
  rw[aP,aP,h2.length]
noncomputable def BH(K:PySem.W.Frag)(H:Hp)(v:V)(n:Nat):Prop:=
 ∃ks,KeysV K H v ks/\ks.length+1<scanBound/\n=(kA ks).length
theorem BI:∀{as:List Addr} {its:List Value},Vals (as.map V.ref) its->its=as.map Value.ref
 |[],its,r=>by cases r;rfl
 |a::as,its,r=>by
  cases r with
  |cons r1 r=>rw[BI r,show _=Value.ref a from r1];rfl
theorem Gx {X:Cx} (hc:X.calm=true) (hr:X.A.units+64<cLine):dH X (.type "set") (λvs H Q=>∃v n,vs=[v]/\BH X.K H v n/\∀p,H p=none->Q (.ref p) (upd H p (SetY X.prog X.w p n))):=by
 intro pins s σ H vs us Q I rv h
 obtain⟨v,n,rfl,hk,q⟩:=h
 obtain⟨u,rfl,ru⟩:=rv.one
 have fin:∀(h':Heap)(tk:Nat),(∃S,h'.SetOf (aY X.prog X.w) s.heap.objs.size S n)->(∀b o,b<s.heap.objs.size->s.heap.get? b=some o->h'.get? b=some o)->EP X pins σ Q (.ref s.heap.objs.size) {s with heap:=h',toks:=tk}:=by
  intro h' tk hS hkeep
  have fr:H s.heap.objs.size=none:=I.hok.fresh (aN _)
  refine⟨.ref s.heap.objs.size,_,I.laid (t':=tk) (λb o e=>hkeep b o (Heap.lt_size e) e) (aN _) ?_,rfl,q _ fr⟩
  refine⟨hS,?_,λh1 h2 p1 k=>?_⟩
  ·obtain⟨S,o,_,_,_,e,_⟩:=hS
   exact⟨o,e⟩
  ·obtain⟨S,o,es,ep,t,e,r⟩:=p1
   exact⟨S,o,es,ep,t,k o e,r⟩
 rcases hk with⟨ks,⟨a,rfl,hS⟩|⟨x,rfl,rfl⟩,hb,rfl⟩
 ·cases ru
  obtain⟨its,r,pl,hz⟩:=I.list hS
  have hl:its.toArray.size=ks.length:=by rw[bP,<-r.length,aF]
  refine G9 (val:=λi=>ks.getD i (.inl 0)) (I.ok.hd hc) pl.isList (λi v hv=>?_) (by rw[hl];exact hb) λh' tk hS' hkeep=>?_
  ·have hi:i<ks.length:=by
    rw[<-hl]
    rcases zD i its.toArray.size with z|z
    ·exact z
    ·rw[sP z]at hv;cases hv
   have h1:(ks.map kV)[i]?=some (kV ks[i]):=by rw[bK,aX hi];rfl
   obtain⟨u,h2,h3⟩:=r.get h1
   have h4:u=v:=by
    have:its[i]?=some v:=by simpa using hv
    rw[h2]at this;cases this;rfl
   subst h4
   show(aY X.prog X.w).is (ks.getD i (.inl 0)) u=true/\_
   rw[eU,aX hi]
   exact Ga h3
  ·rw[hl,Av]at hS'
   exact fin h' tk ⟨_,hS'⟩ hkeep
 ·obtain⟨t,rfl⟩:=ru
  have hl:x.cps.size=(x.cps.toList.map λc=>(Sum.inr ⟨#[c]⟩:Key)).length:=by rw[aF,jP]
  refine G_ (val:=λi=>(x.cps.toList.map λc=>(Sum.inr ⟨#[c]⟩:Key)).getD i (.inl 0)) (I.ok.hd hc) (λi v hv=>?_) (by rw[hl];exact hb) λh' tk hS' hkeep=>?_
  ·obtain⟨c,u,h1,rfl⟩:=hv
   have h2:x.cps.toList[i]?=some c:=by rw[jR];exact h1
   show(aY X.prog X.w).is ((x.cps.toList.map λc=>(Sum.inr ⟨#[c]⟩:Key)).getD i (.inl 0)) _=true/\_
   rw[eU,bK,h2]
   exact⟨sU _ _ _ _,rfl⟩
  ·rw[hl,Av]at hS'
   exact fin h' tk ⟨_,hS'⟩ hkeep
theorem Gy {X:Cx}:dH X (.builtin "len") (λvs H Q=>∃p n,vs=[.ref p]/\H p=some (SetY X.prog X.w p n)/\Q (.int (n:Nat)) H):=by
 intro pins s σ H vs us Q I rv h
 obtain⟨p,n,rfl,hH,q⟩:=h
 obtain⟨u,rfl,ru⟩:=rv.one
 cases ru
 obtain⟨hz,_⟩:=I.hok p _ hH
 rcases hz with⟨S,o,es,ep,t,e,hex,hd,_,_,hb,hf,hn⟩
 ·refine call_len_set e hex hd hf (by unfold scanBound at hb;lia) ?_
  exact⟨.int (n:Nat),H,I.kept (t':=s.toks+1+1) (λb o e=>e),⟨_,by rw[hn]⟩,q⟩
end Tr
namespace Tr
open PySem PySem.Spec PyProof.Rows L2 PySem.SeqAt
end Tr
namespace Tr
open PySem PySem.Spec PyProof.Rows L2
theorem tV:∀{ns:List Int} {vs:List Value},Vals (ns.map V.int) vs->IntsAre vs ns
 |[],vs,r=>by cases r;exact .nil
 |n::ns,vs,r=>by
  cases r with
  |cons r1 r=>
   obtain⟨t,rfl⟩:=r1
   exact .cons _ _ (tV r)
theorem Gz {X:Cx}:dH X (.builtin "sorted") (λvs H Q=>∃(a:Addr) (ns:List Int),vs=[.ref a]/\SqL X.K H a (ns.map V.int)/\ns.length<64/\∀(l:Addr) (ns':List Int),H l=none->ns'.Perm ns->ns'.Pairwise (·<=·)->Q (.ref l) (upd H l (.lst (ns'.map V.int)))):=by
 intro pins s σ H vs us Q I rv h
 obtain⟨a,ns,rfl,hS,h64,q⟩:=h
 obtain⟨u,rfl,ru⟩:=rv.one
 cases ru
 obtain⟨its,r,pl,hz⟩:=I.list hS
 have hI:=tV r
 have hl:its.length=ns.length:=by rw[<-r.length,aF]
 refine sorted_ints pl.isList hI (by lia) λout ns' a1 a2 a3=>?_
 obtain⟨e,he⟩:=sortedAll_at s.heap its out
 have hge:s.heap.objs.size<=s.heap.objs.size+1:=jG _
 refine⟨.ref (s.heap.objs.size+1),_,I.laid (t':=s.toks) (λb o x=>sortedAll_old x) hge ?_,rfl,q _ ns' (I.hok.fresh hge) a2 a3⟩
 have hv:=oW a1
 refine⟨by rw[aF,a2.length_eq,sizeLine_eq];lia,out.toList,e,hv,by simpa using he⟩
theorem kv_get{ps:List (Key×V)}{vs:List (Key×Value)}(r:KV ps vs){i:Nat}{k:Key}{v:V}(h:ps[i]?=some (k,v)):∃u,vs[i]?=some (k,u):=by
 have e:=congrArg (λl=>l[i]?) r.keys
 simp only[bK,h]at e
 cases hv:vs[i]? with
 |none=>rw[hv]at e;cases e
 |some q=>
  rw[hv]at e
  injection e with e
  exact⟨q.2,by rw[show k=q.1 from e]⟩
theorem HA{P:Program}{w:World}{k:Key}{u:Value}(h:(aY P w).is k u=true):RelV (kV k) u:=by
 rcases hV h with⟨i,t,rfl,rfl⟩|⟨x,t,rfl,rfl⟩
 ·exact⟨t,rfl⟩
 ·exact⟨t,rfl⟩
theorem BJ{X:Cx}{pins:List (Addr×Obj)}{σ:L2.St}{H:Hp}{s:Shared}{a:Addr}{ps:List (Key×V)}(I:Inv X pins σ H s)(h:H a=some (.dK ps)) :
 ∃o es ep,o.data=.dict es ep/\Inv X pins σ (L2.upd H a (.frz o (.dK ps))) s:=by
 have hk:=(show ObjOk X.prog X.w H s.heap a (.dK ps)from I.hok a _ h)
 obtain⟨e2,e3,vs,e4,o,es,ep,g1,g2,g3,g4⟩:=id hk
 have ne:∀{b u},H b=some u->u≠.dK ps->b≠a:=λx1 x2 z=>by rw[z,h]at x1;cases x1;exact x2 rfl
 refine⟨o,es,ep,g3,?_⟩
 refine I.step (h':=s.heap) (g':=s.gens) (d':=s.drawn) (t':=s.toks) (ch:=[]) (λb hb=>by cases hb) (λb u _ _ _ x1 _=>x1) (λb u _ _ _ x1 _=>⟨u.slots,x1⟩) (λb u _ x1 x2=>?_) (λb u _ x1=>⟨u,x1⟩) (λb xs x1=>?_) (λb v w x1=>?_) (λb ps x1=>⟨#[],?_⟩) (λm x1=>x1) (λb v x1=>?_) I.bare
 ·rw[aL (λz=>by rw[z,h]at x2;cases x2)];exact x2
 ·rw[aL (ne x1 (λz=>by cases z))];exact x1
 ·rw[aL (ne x1 (λz=>by cases z))];exact x1
 ·rw[aL (ne x1 (λz=>by cases z))];simpa using x1
 ·by_cases z:b=a
  ·rw[z,bS]at x1
   cases x1
   rw[z]
   exact⟨g1,e2,e3,vs,e4,o,es,ep,g1,g2,g3,g4⟩
  ·rw[aL z]at x1
   exact(I.hok b v x1).stay (λc u _ y1=>y1) (λc y1=>by rw[aL (ne y1 (λz=>by cases z))];exact y1) λc xs y1=>by rw[aL (ne y1 (λz=>by cases z))];exact y1
noncomputable def RawD(h:Heap)(d:Addr)(es:Array DictEntry)(ep:Nat):Prop:=∃o,h.get? d=some o/\o.ExactDict/\o.data=.dict es ep
section
variable{prog:Program}{w:World}{A:Around}{E:Value->Shared->Prop}{s:Shared}{d it:Addr}{es:Array DictEntry}{ep i:Nat}
theorem RawD.ty (h:RawD s.heap d es ep):s.TypeIs (.ref d) "dict" := let ⟨o,a,b,_⟩:=h;⟨o,a,b.1⟩
theorem BL{Q:Value->Shared->Prop}(nd:(d==sysModules)=false)(h:RawD s.heap d es ep)
 (q:Q (.ref s.heap.objs.size) {s with heap:=s.heap.push {cls:=.type "dict_keyiterator", data:=.fields #[.ref d,.int 0 0,.int es.size 0,.int ep 0] } }):wpAny (model prog w) A (pyIter (.ref d)) Q E s:=by
 have ty:=h.ty
 obtain⟨o,g1,g2,g3⟩:=h
 apply wpAny_pyIter_slot ty F.slot_dict_iter
 apply wpAny_call_entry F.slot_dict_iter ty F.entry_dict_iter _ (F.args_dict_iter_1 _)
 unfold Builtin.«dict.__iter__»;apply wpAny_bind;unfold Builtin.Dict.dictSlotNone;apply wpAny_bind;apply wpAny_notOrdered_dict ty
 apply(wpAny_pure _:wpAny _ _ (pure (Value.ref d)) _ _ s);show wpAny _ _ (Builtin.Dict.showsAll d>>=_) _ _ s
 unfold Builtin.Dict.showsAll;rw[if_neg (by rw[nd];exact aU)];apply wpAny_bind;apply wpAny_pure
 apply wpAny_bind;apply wpAny_dictEntries g1 g3;apply wpAny_bind;apply wpAny_dictEpoch g1 g3
 refine wpAny_bind (wpAny_newObj_type ?_ (by size_fits));apply wpAny_pure
 exact⟨_,rfl, "dict_keyiterator", _,⟨_,Heap.get?_push_size _ rfl,rfl⟩,F.slot_dict_keyiterator_next.lookup,by simpa[rawInt]using q⟩
theorem BM{Q:Option Value->Shared->Prop}{en:DictEntry}(hi:s.heap.IsKeyIter it d i es.size ep)(h:RawD s.heap d es ep)(hx:es[i]?=some en)
 (q:∀h',h'.IsKeyIter it d (i+1) es.size ep->Heap.SameBut it s.heap h'->Q (some en.key) {s with heap:=h' }):wpAny (model prog w) A (pyNext (.ref it)) Q E s:=by
 obtain⟨u,k1,k2,k3⟩:=id hi
 obtain⟨o,g1,g2,g3⟩:=h
 unfold pyNext;apply wpAny_bind;apply wpAny_attempt;apply wpAny_callSpecial?_slot (name:=Str.ofString "__next__") hi.typeIs F.slot_dict_keyiterator_next
 apply wpAny_call_entry F.slot_dict_keyiterator_next hi.typeIs F.entry_dict_keyiterator_next _ (F.args_dict_keyiterator_next_1 _)
 apply wpAny_bind;apply wpAny_pure;apply wpAny_bind;apply wpAny_bind
 first|(apply wpAny_bind;apply wpAny_typeNameOfWhole_keyiter hi.typeIs;apply wpAny_pure)|(apply wpAny_bind;apply wpAny_typeNameOf_keyiter hi.typeIs;apply wpAny_pure)
 apply wpAny_bind;apply wpAny_fieldsOf k1 k3
 have no:Builtin.Dict_items.ownsTuple "dict_keyiterator" = false:=by decide
 simp only[no,iO,if_false];show wpAny _ _ (if(Value.ref d==Value.none)=true then _ else _) _ _ s
 rw[if_neg (show ¬((Value.ref d==Value.none)=true)from aU)];apply wpAny_bind;apply wpAny_pure
 apply wpAny_bind;apply wpAny_dictEntries g1 g3;rw[if_neg (by simp)];apply wpAny_bind;apply wpAny_pure
 apply wpAny_bind;apply wpAny_dictEpoch g1 g3;rw[if_neg (by simp)];apply wpAny_pure
 simp only[show ¬((i:Int)<0)from by lia,if_false,gZ,hx]
 apply wpAny_bind
 first|(apply wpAny_bind;apply wpAny_typeNameOfWhole_keyiter hi.typeIs;apply wpAny_pure)|(apply wpAny_bind;apply wpAny_typeNameOf_keyiter hi.typeIs;apply wpAny_pure)
 apply wpAny_bind;apply wpAny_isOneOf_keyiter hi.typeIs;show wpAny _ _ (setField (.ref it) 1 (rawInt ((i:Int)+1))>>=_) _ _ s
 apply wpAny_bind;apply wpAny_setField k1 k3 (by simp)
 have hi2:(s.heap.update it (Obj.mapFields (·.setIfInBounds 1 (rawInt ((i:Int)+1))))).IsKeyIter it d (i+1) es.size ep:=⟨_,Heap.get?_update_self _ k1 (Obj.isFreed_of_fields (Obj.data_mapFields k3 _)),(Obj.cls_mapFields ..).trans k2,by rw[Obj.data_mapFields k3];simp[rawInt]⟩
 apply wpAny_bind;apply wpAny_holding;apply wpAny_bind
 apply wpAny_isOneOf_keyiter (s:={s with heap:=s.heap.update it (Obj.mapFields (·.setIfInBounds 1 (rawInt ((i:Int)+1)))) }) hi2.typeIs
 show wpAny _ _ (pure en.key) _ _ _;apply wpAny_pure;apply wpAny_pure;exact⟨_,rfl,wpAny_pure (q _ hi2 (Heap.SameBut.update ..))⟩
theorem BN{Q:Option Value->Shared->Prop}(hh:A.handled=none)(hi:s.heap.IsKeyIter it d i es.size ep)(h:RawD s.heap d es ep)(hx:es[i]?=none)
 (q:∀h',Heap.ExtBut it s.heap h'->Q none {s with heap:=h' }):wpAny (model prog w) A (pyNext (.ref it)) Q E s:=by
 obtain⟨u,k1,k2,k3⟩:=id hi
 obtain⟨o,g1,g2,g3⟩:=h
 unfold pyNext;apply wpAny_bind;apply wpAny_attempt;apply wpAny_callSpecial?_slot (name:=Str.ofString "__next__") hi.typeIs F.slot_dict_keyiterator_next
 apply wpAny_call_entry F.slot_dict_keyiterator_next hi.typeIs F.entry_dict_keyiterator_next _ (F.args_dict_keyiterator_next_1 _)
 apply wpAny_bind;apply wpAny_pure;apply wpAny_bind;apply wpAny_bind
 first|(apply wpAny_bind;apply wpAny_typeNameOfWhole_keyiter hi.typeIs;apply wpAny_pure)|(apply wpAny_bind;apply wpAny_typeNameOf_keyiter hi.typeIs;apply wpAny_pure)
 apply wpAny_bind;apply wpAny_fieldsOf k1 k3
 have no:Builtin.Dict_items.ownsTuple "dict_keyiterator" = false:=by decide
 simp only[no,iO,if_false];show wpAny _ _ (if(Value.ref d==Value.none)=true then _ else _) _ _ s
 rw[if_neg (show ¬((Value.ref d==Value.none)=true)from aU)];apply wpAny_bind;apply wpAny_pure
 apply wpAny_bind;apply wpAny_dictEntries g1 g3;rw[if_neg (by simp)];apply wpAny_bind;apply wpAny_pure
 apply wpAny_bind;apply wpAny_dictEpoch g1 g3;rw[if_neg (by simp)];apply wpAny_pure
 simp only[show ¬((i:Int)<0)from by lia,if_false,gZ,hx]
 apply wpAny_bind
 first|(apply wpAny_bind;apply wpAny_typeNameOfWhole_keyiter hi.typeIs;apply wpAny_pure)|(apply wpAny_bind;apply wpAny_typeNameOf_keyiter hi.typeIs;apply wpAny_pure)
 show wpAny _ _ (setField (.ref it) 0 .none>>=_) _ _ s;apply wpAny_bind;apply wpAny_setField k1 k3 (by simp)
 show wpAny _ _ (newExc (.type "StopIteration") []>>=_) _ _ _;apply wpAny_bind;simp only[newExc,newTuple]
 refine wpAny_bind (wpAny_newObj_type ?_ (by size_fits));refine wpAny_bind (m:=firstArgMember _ _) (wpAny_of_eq (a:=Value.none) (by first|rfl|(simp only[firstArgMember];rfl)) ?_)
 refine wpAny_newObj_type ?_ (by size_fits);simp only[raiseNew];apply wpAny_bind;apply wpAny_handled;rw[show A.in1.handled=none from hh]
 refine wpAny_bind (wpAny_pure (wpAny_throw ?_));refine wpAny_bind (wpAny_isInstance (b:=true) (T := "StopIteration") ⟨_,Heap.get?_push_size _ rfl,rfl⟩ isSubtype_stop ?_)
 exact wpAny_pure (q _ (((Heap.SameBut.update ..).extBut.push _).push _))
end
theorem HB{X:Cx}{pins:List (Addr×Obj)}{σ:L2.St}{H:Hp}{s:Shared}{a:Addr}{ps:List (List Key×V)}(I:Inv X pins σ H s)(h:H a=some (.dT ps)) :
 ∃o es ep,o.data=.dict es ep/\Inv X pins σ (L2.upd H a (.frz o (.dT ps))) s:=by
 have hk:=(show ObjOk X.prog X.w H s.heap a (.dT ps)from I.hok a _ h)
 obtain⟨e2,e3,xs,e4,o,es,ep,g1,g2,g3,g4⟩:=id hk
 have ne:∀{b u},H b=some u->u≠.dT ps->b≠a:=λx1 x2 z=>by rw[z,h]at x1;cases x1;exact x2 rfl
 refine⟨o,es,ep,g3,?_⟩
 refine I.step (h':=s.heap) (g':=s.gens) (d':=s.drawn) (t':=s.toks) (ch:=[]) (λb hb=>by cases hb) (λb u _ _ _ x1 _=>x1) (λb u _ _ _ x1 _=>⟨u.slots,x1⟩) (λb u _ x1 x2=>?_) (λb u _ x1=>⟨u,x1⟩) (λb xs x1=>?_) (λb v w x1=>?_) (λb ps x1=>⟨#[],?_⟩) (λm x1=>x1) (λb v x1=>?_) I.bare
 ·rw[aL (λz=>by rw[z,h]at x2;cases x2)];exact x2
 ·rw[aL (ne x1 (λz=>by cases z))];exact x1
 ·rw[aL (ne x1 (λz=>by cases z))];exact x1
 ·rw[aL (ne x1 (λz=>by cases z))];simpa using x1
 ·by_cases z:b=a
  ·rw[z,bS]at x1
   cases x1
   rw[z]
   exact⟨g1,e2,e3,xs,KT.keeps e4 λc ys ec=>by rw[aL (ne ec (λz=>by cases z))];exact ec,o,es,ep,g1,g2,g3,g4⟩
  ·rw[aL z]at x1
   exact(I.hok b v x1).stay (λc u _ y1=>y1) (λc y1=>by rw[aL (ne y1 (λz=>by cases z))];exact y1) λc xs y1=>by rw[aL (ne y1 (λz=>by cases z))];exact y1
noncomputable def BO(H:Hp)(a:Addr)(o:Obj)(n:Nat)(i:Nat)(x:Option V):Prop:=
 (∃ps:List (Key×V),H a=some (.frz o (.dK ps))/\ps.length=n/\x=(ps[i]?).map λq=>kV q.1) \/
 (∃ps:List (List Key×V),H a=some (.frz o (.dT ps))/\ps.length=n/\((ps[i]?=none/\x=none)\/∃q b,ps[i]?=some q/\x=some (.ref b)/\H b=some (.tup (q.1.map kV))))
noncomputable def Itk(a:Addr)(o:Obj)(n:Nat):It:=
 ⟨λi H=>(∃ps:List (Key×V),H a=some (.frz o (.dK ps))/\ps.length=n/\i<n)\/∃ps:List (List Key×V),H a=some (.frz o (.dT ps))/\ps.length=n/\i<n,λi H x H'=>H'=H/\BO H a o n i (some x),
  λi H=>((∃ps:List (Key×V),H a=some (.frz o (.dK ps))/\ps.length=n)\/∃ps:List (List Key×V),H a=some (.frz o (.dT ps))/\ps.length=n)/\n<=i⟩
section
variable{X:Cx}{pins:List (Addr×Obj)}{σ:L2.St}{H:Hp}{s:Shared}{a:Addr}{o:Obj}{es:Array DictEntry}{ep:Nat}
theorem tW{ps:List (Key×V)}(I:Inv X pins σ H s)(h:H a=some (.frz o (.dK ps)))(hd:o.data=.dict es ep):RawD s.heap a es ep/\(a==sysModules)=false/\es.size=ps.length/\∀(i:Nat)(q:Key×V),ps[i]?=some q->∃en:DictEntry,es[i]?=some en/\RelV (kV q.1) en.key:=by
 obtain⟨e1,e2,e3,vs,e4,o',es',ep',g1,g2,g3,g4,g5,g6⟩:=(show ObjOk X.prog X.w H s.heap a (.frz o (.dK ps))from I.hok a _ h)
 rw[e1]at g1
 cases g1
 rw[hd]at g3
 cases g3
 have hl:=e4.length
 have hs:es.size=ps.length:=by rw[hl,<-g5.length];simp
 refine⟨⟨o,e1,g2,hd⟩,e3,hs,λi q hq=>?_⟩
 obtain⟨u,hu⟩:=kv_get e4 (k:=q.1) (v:=q.2) hq
 have hi:i<es.size:=by
  rw[hs]
  by_cases z:i<ps.length
  ·exact z
  ·rw[jS (by lia)]at hq;cases hq
 exact⟨es[i],kS hi,HA (g5.get? (e:=es[i]) (by simp[hi]) hu).1⟩
theorem oX{ps:List (List Key×V)}(I:Inv X pins σ H s)(h:H a=some (.frz o (.dT ps)))(hd:o.data=.dict es ep):RawD s.heap a es ep/\(a==sysModules)=false/\es.size=ps.length/\∀(i:Nat)(q:List Key×V),ps[i]?=some q->∃(en:DictEntry)(b:Addr),es[i]?=some en/\en.key=.ref b/\H b=some (.tup (q.1.map kV)):=by
 obtain⟨e1,e2,e3,xs,e4,o',es',ep',g1,g2,g3,g4,g5⟩:=(show ObjOk X.prog X.w H s.heap a (.frz o (.dT ps))from I.hok a _ h)
 rw[e1]at g1
 cases g1
 rw[hd]at g3
 cases g3
 have hl:=Paired.length e4
 have hs:es.size=ps.length:=by rw[hl,<-jP,g4,aF]
 refine⟨⟨o,e1,g2,hd⟩,e3,hs,λi q hq=>?_⟩
 have get:∀{l:List (List Key×V)} {m:List (List Key×Addr×Value)},KT H l m->∀{i:Nat} {q:List Key×V},l[i]?=some q->∃z,m[i]?=some z/\H z.2.1=some (.tup (q.1.map kV)):=by
  intro l m k
  induction k with
  |nil=>intro i q z;simp at z
  |cons hq t ih=>
   intro i q z
   cases i with
   |zero=>cases z;exact⟨_,rfl,hq.2.1⟩
   |succ j=>exact ih (by simpa using z)
 obtain⟨z,hz,ht⟩:=get e4 hq
 refine⟨entryOfKey (tupleKind (aY X.prog X.w)) z,z.2.1,?_,rfl,ht⟩
 rw[<-jR,g4,bK,hz];rfl
end
theorem HC{P:Program}{w:World}{K:PySem.W.Frag}{tg:Expr}{o:Obj}{es:Array DictEntry}{ep:Nat}(hd:o.data=.dict es ep)(a it:Addr)(n:Nat)(hn:es.size=n) :
 Turn P w K tg (Itk a o n) [it] it (λi h=>h.IsKeyIter it a i n ep) where
 mem:=by simp
 obj:=λi h st b hb=>by
  have e:b=it:=by simpa using hb
  subst e
  obtain⟨o,e,c,d⟩:=st
  exact⟨o,e,λv z=>by rw[d]at z;cases z⟩
 keep:=λi h h' st k=>by
  obtain⟨u,h1,h2⟩:=st
  exact⟨u,k it (by simp) u h1,h2⟩
 item:=by
  intro X hP hw hK hc i pins s σ H E I hf st hg
  subst hP hw hK hn
  obtain⟨f0,f1,f2,f3,f4,f5⟩:=hf it (by simp)
  have fin:∀en,RawD s.heap a es ep->es[i]?=some en->(∃x,RelV x en.key/\BO H a o es.size i (some x))->wpAny (model X.prog X.w) X.A (pyNext (.ref it)) (λr s1=>∃u,r=some u /\
   wpAny (model X.prog X.w) X.A (letOwnedTupleGo tg (.ref it) u) (λ_ s2=>∃x H',Inv X pins σ H' s2/\RelV x u/\(Itk a o es.size).yld i H x H'/\s2.heap.IsKeyIter it a (i+1) es.size ep/\∀b∈[it],H' b=none) E s1) E s:=by
   intro en rw' hx ⟨x,r1,r2⟩
   refine BM st rw' hx λh' st2 sb=>?_
   have I1:Inv X pins σ H {s with heap:=h' }:=I.turned (t':=s.toks) (λb o hb e=>(sb.2 b hb).trans e) f0 f1 f3 f4 f5
   obtain⟨o',e,c,d⟩:=id st2
   exact⟨_,rfl,lY (s:={s with heap:=h' }) e c d (by decide) ⟨x,H,I1,r1,⟨rfl,r2⟩,st2,λb hb=>(hf b hb).1⟩⟩
  rcases hg with⟨ps,h1,h2,h3⟩|⟨ps,h1,h2,h3⟩
  ·obtain⟨x1,x2,x3,x4⟩:=tW I h1 hd
   obtain⟨en,y1,y2⟩:=x4 i ps[i] (aX (by lia))
   exact fin en x1 y1 ⟨_,y2,.inl ⟨ps,h1,h2,by rw[aX (by lia)];rfl⟩⟩
  ·obtain⟨x1,x2,x3,x4⟩:=oX I h1 hd
   obtain⟨en,b,y1,y2,y3⟩:=x4 i ps[i] (aX (by lia))
   exact fin en x1 y1 ⟨.ref b,by rw[y2];rfl,.inr ⟨ps,h1,h2,.inr ⟨_,b,aX (by lia),rfl,y3⟩⟩⟩
 done:=by
  intro X hP hw hK hc i pins s σ H E I hf st hg
  subst hP hw hK hn
  obtain⟨f0,f1,f2,f3,f4,f5⟩:=hf it (by simp)
  obtain⟨hg,hi⟩:=hg
  have rw':RawD s.heap a es ep:=by
   rcases hg with⟨ps,h1,h2⟩|⟨ps,h1,h2⟩
   ·exact(tW I h1 hd).1
   ·exact(oX I h1 hd).1
  exact BN (I.ok.hd hc) st rw' (sP hi) λh' eb=>⟨rfl,I.turned (t':=s.toks) (λb o hb e=>eb b o hb e) f0 f1 f3 f4 f5⟩
 self:=λ_ _ _ _ _ st h=>wpAny_pyIter_keyiter st h
section
variable{prog:Program}{w:World}{A:Around}{E:Value->Shared->Prop}{s:Shared}{l:Addr}{its:List Value}{n:Nat}
theorem HD {k:Int} {t:Tok} {Q:Value->Shared->Prop} {dd:Option Addr} {sl:Array (Option Value)} (hl:s.heap.get? l=some {cls:=.type "list", dict:=dd,data:=.seq its.toArray n,slots:=sl}) (h1:its.length=1) (hk:0<=k/\k<=1000)
 (h:Q (.ref s.heap.objs.size) {s with heap:=s.heap.push {cls:=.type "list", data:=.seq (aW k.toNat its).flatten.toArray} }):wpAny (model prog w) A (binaryOp .Mult (.ref l) (.int k t)) Q E s:=by
 have hsz:its.toArray.size=1:=by rw[bP];exact h1
 have hne:its.toArray.isEmpty=false:=by
  cases its with
  |nil=>cases h1
  |cons _ _=>rfl
 have hf:Ef (λx1 x2=>x1++x2) #[] (aW (if its.toArray.isEmpty=true then 0 else k.toNat) its.toArray)=(aW k.toNat its).flatten.toArray:=by
  rw[hne,if_neg aU]
  have:=AQ its k.toNat []
  rw[sS]at this
  exact this
 have ty:s.TypeIs (.ref l) "list" := ⟨_,hl,rfl⟩
 apply wpAny_binaryOp_repeat_ref (T := "list") (U := "int") (by decide) ty (λs'=>typeIs_int s' k t) PySem.noFill_list_mul PySem.F.fills_int_mul PySem.F.slot_int_rmul PySem.repeat_list PySem.F.slot_int_index.lookup
 apply call_meets PySem.F.slot_int_rmul (typeIs_int s k t) PySem.F.entry_int_rmul (PySem.F.args_int_rmul_2 _ _) (lm_int_rmul_list_any k t l its.toArray n dd sl)
 refine⟨hl,rfl,ty,call_meets PySem.F.slot_list_mul ty PySem.F.entry_list_mul (PySem.F.args_list_mul_2 _ _) (lm_list_mul_any l its.toArray n dd sl k t (by simp[Builtin.List.listFitsIndex];lia) (by rw[hsz];lia) (by rw[hsz];simp[Builtin.List.listTooLong,sizeLine];lia)) ⟨hl,?_⟩⟩
 rw[hf]
 exact h
end
section
variable{prog:Program}{w:World}{A:Around}{E:Value->Shared->Prop}{s:Shared}{r:Addr}{a b c:Int}{t u v:Tok}{n:Nat}
end
end Tr
namespace Tr
open PySem PySem.Spec PyProof.Rows L2 PySem.W
section
variable{α β:Type}
end
section
variable{P:Program}{w:World}{H H':Hp}{h h':Heap}{a:Addr}{o:HO}
end
noncomputable def CXE(P:Program)(w:World):CXT:=λouter H s E ev s'=>∃(ea:Addr)(cls a0:Value)(H':Hp)(B:Heap),ev=.ref ea/\s'.os=s.os/\AllBare s'.gens/\Un (frs outer) [] H H' s.heap s'.heap/\HOk P w H' s'.heap /\
 s.heap.get? ea=none/\H' ea=none/\Heap.FlyingW B outer ea cls a0 s'.heap/\(∀b o,s.heap.get? b=some o->b∉frs outer->∃u,B.get? b=some u)/\(∀b o,H' b=some o->∃u,B.get? b=some u)/\∃od,(∃oe,s'.heap.get? ea=some oe/\oe.dict=od)/\E cls od H'
theorem tX{P:Program}{w:World}{X:Cx}:oH (CXE P w) X E0:=by
 intro _ _ _ _ _ _ _ h
 obtain⟨_,_,_,_,_,_,_,_,_,_,_,_,_,_,_,_,_,z⟩:=h
 exact z.elim
section
variable{P:Program}{w:World}{K:PySem.W.Frag}{mg:Str->Option Value}{base:Heap}{N:List Str}{qual:Str}{scope:Scope}{f:Addr}{cd:Value}{A:Around}{outer:List Env}{s₀:Shared}{H₀:Hp}{E:XK}
end
noncomputable abbrev bmV:List Value:=[.type "ValueError", .type "Exception", .type "BaseException", .type "object"]
section
variable{M:Model}{A:Around}{E:Value->Shared->Prop}{h:Heap}{g:Array GenState}{d:Drawn}{t:Nat}{os:OsState}
variable{nm q:Str}{C N:Addr}{bs bm:List Value}{hdct:Bool}{sn:List Str}{sub:List Value}{ab:Bool}{col:Option Bool}{dd:Option Addr}{k0 k1 k2 k3 k5:Option Value}{newId:String}
variable{nm' q':Str}{C' N':Addr}{bs' bm':List Value}{hdct':Bool}{sn':List Str}{sub':List Value}{ab':Bool}{col':Option Bool}{dd':Option Addr}{k0' k1' k2' k3' k5':Option Value}{newId':String}
end
section
variable{X:Cx}{pins:List (Addr×Obj)}{σ:L2.St}{H:Hp}{s:Shared}
end
section
variable{X:Cx}{pins:List (Addr×Obj)}{σ:L2.St}{H:Hp}{s s':Shared}
end
noncomputable abbrev newV:String := "ValueError.__new__"
noncomputable def cvK(K:PySem.W.Frag)(c:Str):Value:=match nsIn K mainGlobals c with
 |some (some v)=>v
 |_=>.none
structure ClsIs(K:PySem.W.Frag)(mg:Str->Option Value)(c:Str)(C:Addr):Prop where
 bound:mg c=some (.ref C)
 cv:cvK K c=.ref C
 exc:excIn K C bmV newV=true
end Tr
namespace Tr
open PySem PySem.Spec PyProof.Rows L2 PySem.W Builtin Builtin.ObjectAttr Builtin.Getset_descriptor
section
variable{prog:Program}{w:World}{A:Around}{E:Value->Shared->Prop}{K:PySem.W.Frag}{a C:Addr}{o:Obj}
end
end Tr
namespace Tr
open PySem PySem.Spec PyProof.Rows L2 PySem.W
section
variable{X:Cx}{pins:List (Addr×Obj)}{σ:L2.St}{H:Hp}{s:Shared}
end
section
variable{X:Cx}{body:List Stmt}{pos:Pos}{h₀:ExceptHandler}{hs:List ExceptHandler}
end
section
variable{prog:Program}{w:World}{A:Around}{E:Value->Shared->Prop}{h:Heap}{g:Array GenState}{d:Drawn}{t:Nat}{os:OsState}
variable{nm q:Str}{C N:Addr}{bs bm bmB:List Value}{hdct:Bool}{sn:List Str}{sub:List Value}{ab:Bool}{col:Option Bool}{dd:Option Addr}{k0 k1 k2 k3 k5:Option Value}{B Bn newId nid initId inN:String}{bmN:List Value}
end
section
variable{prog:Program}{w:World}{A:Around}{E:Value->Shared->Prop}{s:Shared}{env:Env}
variable{nm q:Str}{C N:Addr}{bs bm bmB:List Value}{hdct:Bool}{sn:List Str}{sub:List Value}{ab:Bool}{col:Option Bool}{dd:Option Addr}{k0 k1 k2 k3 k5:Option Value}{B Bn newId nid initId inN:String}{bmN:List Value}
end
end Tr
namespace Tr
open PySem PySem.Spec PyProof.Rows L2 PySem.W Builtin Builtin.ObjectAttr
section
variable{prog:Program}{w:World}{A:Around}{E:Value->Shared->Prop}{K:PySem.W.Frag}{h:Heap}{g:Array GenState}{d:Drawn}{tok:Nat}{os:OsState}
variable{nm q:Str}{C N x t:Addr}{bs bm:List Value}{sn:List Str}{sub:List Value}{ab:Bool}{col:Option Bool}{dd:Option Addr}{k0 k1 k2 k3 k5:Option Value}{newId:String}{name:Str}{v:Value}
end
end Tr
namespace Tr
open PySem PySem.Spec PyProof.Rows L2 PySem.W Builtin Builtin.ObjectAttr Builtin.Getset_descriptor
section
variable{prog:Program}{w:World}{A:Around}{E:Value->Shared->Prop}{K:PySem.W.Frag}{a C dx:Addr}{o:Obj}{name:Str}{v:Value}{m:Str->Option Value}
variable{nm q:Str}{N:Addr}{bs bm:List Value}{sn:List Str}{sub:List Value}{ab:Bool}{col:Option Bool}{dd:Option Addr}{k0 k1 k2 k3 k5:Option Value}{newId:String}
end
end Tr
namespace Tr
open PySem PySem.Spec PyProof.Rows L2 PySem.W
noncomputable def initIn(K:PySem.W.Frag)(C fI:Addr):Bool:=match K.lookup C with
 |some ⟨.type "type", _,.cls cd,sl⟩=>(match cd.mro,sl.toList with
  |.ref C'::bm,[_,_,_,_,some (.builtin n),_]=>C'==C&&(n==newV&&(!cd.hasDel&&(tailIn K bmV bm&&(nsOkIn K cd.ns&&(nsIn K cd.ns "__init__" == some (some (.ref fI))&&cd.hasDict)))))
  |_,_=>false)
 |_=>false
structure InitCls(K:PySem.W.Frag)(C fI:Addr)(f:Str):Prop where
 obj:initIn K C fI=true
 sa:findIn K (.ref C) "__setattr__" = some (some (.builtin "object.__setattr__"))
 no:findIn K (.ref C) f=some none
section
variable{X:Cx}
end
end Tr
namespace Tr
open PySem PySem.Spec PyProof.Rows L2
noncomputable def ModL(K:PySem.W.Frag)(a:Addr)(xs:List V):Prop:=
 ∃(o:Obj) (its:Array Value) (n:Nat),K.lookup a=some o/\o.cls=.type "list" /\ o.dict=none/\o.data=.seq its n/\its.size<=sizeLine/\Vals xs its.toList
noncomputable def ModT(K:PySem.W.Frag)(a:Addr)(xs:List V):Prop:=(∃ss:List Str,ss≠[]/\xs=ss.map V.str) /\
 ∃(o:Obj) (its:Array Value) (n:Nat),K.lookup a=some o/\o.cls=.type "tuple" /\ o.data=.seq its n/\its.size<=sizeLine/\Vals xs its.toList
noncomputable def TupV(K:PySem.W.Frag)(H:Hp)(a:Addr)(xs:List V):Prop:=H a=some (.tup xs)\/ModT K a xs
theorem TupV.sq{K:PySem.W.Frag}{H:Hp}{a:Addr}{xs:List V}(h:TupV K H a xs):SqT K H a xs:=h.imp (λq=>.inl q) λq=>q.2
mutual
noncomputable def RD(K:PySem.W.Frag)(H:Hp)(O:Addr->Prop):D->V->Prop
 |.non,v=>v=.non
 |.bl b,v=>v=.bl b
 |.int i,v=>v=.int i
 |.str x,v=>v=.str x
 |.tup ds,v=>∃a xs,v=.ref a/\TupV K H a xs/\RDs K H O ds xs
 |.lst ds,v=>∃a xs,v=.ref a/\((¬O a/\Rd H a (.lst xs))\/ModL K a xs)/\RDs K H O ds xs
 |.dct kvs,v=>∃a ps,v=.ref a/\(∃o,H a=some (.frz o (.dK ps)))/\RDk K H O kvs ps
 |.tdc kvs,v=>∃a ps,v=.ref a/\(∃o,H a=some (.frz o (.dT ps)))/\RDt K H O kvs ps
noncomputable def RDs(K:PySem.W.Frag)(H:Hp)(O:Addr->Prop):List D->List V->Prop
 |[],xs=>xs=[]
 |d::ds,xs=>∃v r,xs=v::r/\RD K H O d v/\RDs K H O ds r
noncomputable def RDk(K:PySem.W.Frag)(H:Hp)(O:Addr->Prop):List (Sum Int Str×D)->List (Key×V)->Prop
 |[],xs=>xs=[]
 |(k,d)::ds,xs=>∃v r,xs=(k,v)::r/\RD K H O d v/\RDk K H O ds r
noncomputable def RDt(K:PySem.W.Frag)(H:Hp)(O:Addr->Prop):List (List (Sum Int Str)×D)->List (List Key×V)->Prop
 |[],xs=>xs=[]
 |(k,d)::ds,xs=>∃v r,xs=(k,v)::r/\RD K H O d v/\RDt K H O ds r
end
noncomputable def OwnAt(K:PySem.W.Frag)(H:Hp)(O:Addr->Prop)(a:Addr):D->Prop
 |.lst ds=>∃xs,H a=some (.lst xs)/\RDs K H O ds xs
 |.dct kvs=>∃ps,H a=some (.dK ps)/\RDk K H O kvs ps
 |.tdc kvs=>∃ps,H a=some (.dT ps)/\RDt K H O kvs ps
 |_=>False
noncomputable def RR(K:PySem.W.Frag)(H:Hp)(O:Addr->Prop)(d:D)(v:V):Prop:=
 RD K H O d v\/∃a,v=.ref a/\OwnAt K H O a d
noncomputable def RRs(K:PySem.W.Frag)(H:Hp)(O:Addr->Prop):List D->List V->Prop
 |[],xs=>xs=[]
 |d::ds,xs=>∃v r,xs=v::r/\RR K H O d v/\RRs K H O ds r
section
variable{K:PySem.W.Frag}{H H':Hp}{O O':Addr->Prop}
mutual
theorem RD.map(ht:∀a xs,TupV K H a xs->TupV K H' a xs)(hl:∀a xs,¬O a->Rd H a (.lst xs)->¬O' a/\Rd H' a (.lst xs))(hd:∀a o u,H a=some (.frz o u)->H' a=some (.frz o u)):∀{d:D} {v:V},RD K H O d v->RD K H' O' d v
 |.non,_,h=>h
 |.bl _,_,h=>h
 |.int _,_,h=>h
 |.str _,_,h=>h
 |.tup ds,v,h=>by
  obtain⟨a,xs,e,s,r⟩:=h
  exact⟨a,xs,e,ht a xs s,RDs.map ht hl hd r⟩
 |.lst ds,v,h=>by
  obtain⟨a,xs,e,s,r⟩:=h
  refine⟨a,xs,e,?_,RDs.map ht hl hd r⟩
  rcases s with⟨s1,s2⟩|s
  ·exact .inl (hl a xs s1 s2)
  ·exact .inr s
 |.dct kvs,v,h=>by
  obtain⟨a,ps,e,⟨o,s⟩,r⟩:=h
  exact⟨a,ps,e,⟨o,hd a _ _ s⟩,RDk.map ht hl hd r⟩
 |.tdc kvs,v,h=>by
  obtain⟨a,ps,e,⟨o,s⟩,r⟩:=h
  exact⟨a,ps,e,⟨o,hd a _ _ s⟩,RDt.map ht hl hd r⟩
theorem RDs.map(ht:∀a xs,TupV K H a xs->TupV K H' a xs)(hl:∀a xs,¬O a->Rd H a (.lst xs)->¬O' a/\Rd H' a (.lst xs))(hd:∀a o u,H a=some (.frz o u)->H' a=some (.frz o u)):∀{ds:List D} {vs:List V},RDs K H O ds vs->RDs K H' O' ds vs
 |[],_,h=>h
 |d::ds,vs,h=>by
  obtain⟨v,r,e,h1,h2⟩:=h
  exact⟨v,r,e,RD.map ht hl hd h1,RDs.map ht hl hd h2⟩
theorem RDk.map(ht:∀a xs,TupV K H a xs->TupV K H' a xs)(hl:∀a xs,¬O a->Rd H a (.lst xs)->¬O' a/\Rd H' a (.lst xs))(hd:∀a o u,H a=some (.frz o u)->H' a=some (.frz o u)):∀{ds:List (Sum Int Str×D)} {vs:List (Key×V)},RDk K H O ds vs->RDk K H' O' ds vs
 |[],_,h=>h
 |(k,d)::ds,vs,h=>by
  obtain⟨v,r,e,h1,h2⟩:=h
  exact⟨v,r,e,RD.map ht hl hd h1,RDk.map ht hl hd h2⟩
theorem RDt.map(ht:∀a xs,TupV K H a xs->TupV K H' a xs)(hl:∀a xs,¬O a->Rd H a (.lst xs)->¬O' a/\Rd H' a (.lst xs))(hd:∀a o u,H a=some (.frz o u)->H' a=some (.frz o u)):∀{ds:List (List (Sum Int Str)×D)} {vs:List (List Key×V)},RDt K H O ds vs->RDt K H' O' ds vs
 |[],_,h=>h
 |(k,d)::ds,vs,h=>by
  obtain⟨v,r,e,h1,h2⟩:=h
  exact⟨v,r,e,RD.map ht hl hd h1,RDt.map ht hl hd h2⟩
end
theorem Rd.same(s:Same H H'){a:Addr}{u:HO}(h:Rd H a u):Rd H' a u:=by
 rcases h with h|⟨o,h⟩
 ·exact .inl (s _ _ h)
 ·exact .inr ⟨o,s _ _ h⟩
theorem TupV.same(s:Same H H'){a:Addr}{xs:List V}(h:TupV K H a xs):TupV K H' a xs:=h.imp (λq=>s _ _ q) id
theorem RD.same(s:Same H H'){d:D}{v:V}(h:RD K H O d v):RD K H' O d v:=RD.map (λ_ _ q=>TupV.same s q) (λ_ _ n q=>⟨n,Rd.same s q⟩) (λ_ _ _ q=>s _ _ q) h
theorem RDk.same(s:Same H H'){d:List (Sum Int Str×D)}{v:List (Key×V)}(h:RDk K H O d v):RDk K H' O d v:=RDk.map (λ_ _ q=>TupV.same s q) (λ_ _ n q=>⟨n,Rd.same s q⟩) (λ_ _ _ q=>s _ _ q) h
theorem RDt.same(s:Same H H'){d:List (List (Sum Int Str)×D)}{v:List (List Key×V)}(h:RDt K H O d v):RDt K H' O d v:=RDt.map (λ_ _ q=>TupV.same s q) (λ_ _ n q=>⟨n,Rd.same s q⟩) (λ_ _ _ q=>s _ _ q) h
theorem RDs.same(s:Same H H'){d:List D}{v:List V}(h:RDs K H O d v):RDs K H' O d v:=RDs.map (λ_ _ q=>TupV.same s q) (λ_ _ n q=>⟨n,Rd.same s q⟩) (λ_ _ _ q=>s _ _ q) h
theorem RD.weak(s:∀a,O' a->O a){d:D}{v:V}(h:RD K H O d v):RD K H O' d v:=RD.map (λ_ _ q=>q) (λa _ n q=>⟨λz=>n (s a z),q⟩) (λ_ _ _ q=>q) h
theorem RDk.weak(s:∀a,O' a->O a){d:List (Sum Int Str×D)}{v:List (Key×V)}(h:RDk K H O d v):RDk K H O' d v:=RDk.map (λ_ _ q=>q) (λa _ n q=>⟨λz=>n (s a z),q⟩) (λ_ _ _ q=>q) h
theorem RDt.weak(s:∀a,O' a->O a){d:List (List (Sum Int Str)×D)}{v:List (List Key×V)}(h:RDt K H O d v):RDt K H O' d v:=RDt.map (λ_ _ q=>q) (λa _ n q=>⟨λz=>n (s a z),q⟩) (λ_ _ _ q=>q) h
theorem RDs.weak(s:∀a,O' a->O a){d:List D}{v:List V}(h:RDs K H O d v):RDs K H O' d v:=RDs.map (λ_ _ q=>q) (λa _ n q=>⟨λz=>n (s a z),q⟩) (λ_ _ _ q=>q) h
noncomputable def cZ(O:Addr->Prop)(p:Addr):Addr->Prop:=λa=>O a\/a=p
noncomputable def oY(O:Addr->Prop)(p:Addr):Addr->Prop:=λa=>O a/\a≠p
theorem Rd.ne{p a:Addr}{u:HO}(hp:H p=none)(h:Rd H a u):a≠p:=by
 rcases h with h|⟨o,h⟩<;>exact hZ h hp
theorem RD.new{p:Addr}(hp:H p=none){d:D}{v:V}(h:RD K H O d v):RD K H (cZ O p) d v:=
 RD.map (λ_ _ q=>q) (λa _ n q=>⟨λz=>z.elim n (Rd.ne hp q),q⟩) (λ_ _ _ q=>q) h
theorem RDk.new{p:Addr}(hp:H p=none){d:List (Sum Int Str×D)}{v:List (Key×V)}(h:RDk K H O d v):RDk K H (cZ O p) d v:=
 RDk.map (λ_ _ q=>q) (λa _ n q=>⟨λz=>z.elim n (Rd.ne hp q),q⟩) (λ_ _ _ q=>q) h
theorem RDt.new{p:Addr}(hp:H p=none){d:List (List (Sum Int Str)×D)}{v:List (List Key×V)}(h:RDt K H O d v):RDt K H (cZ O p) d v:=
 RDt.map (λ_ _ q=>q) (λa _ n q=>⟨λz=>z.elim n (Rd.ne hp q),q⟩) (λ_ _ _ q=>q) h
theorem RDs.new{p:Addr}(hp:H p=none){d:List D}{v:List V}(h:RDs K H O d v):RDs K H (cZ O p) d v:=
 RDs.map (λ_ _ q=>q) (λa _ n q=>⟨λz=>z.elim n (Rd.ne hp q),q⟩) (λ_ _ _ q=>q) h
noncomputable def gP:HO->Prop
 |.lst _=>True
 |.dK _=>True
 |.dT _=>True
 |_=>False
theorem eI{p:Addr}{o o':HO}(hO:O p)(hp:H p=some o)(hm:gP o):(∀a xs,TupV K H a xs->TupV K (upd H p o') a xs)/\(∀a xs,¬O a->Rd H a (.lst xs)->¬O a/\Rd (upd H p o') a (.lst xs))/\∀a o1 u,H a=some (.frz o1 u)->upd H p o' a=some (.frz o1 u):=by
 refine⟨λa xs h=>?_,λa xs n h=>⟨n,?_⟩,λa o1 u h=>?_⟩
 ·rcases h with h|h
  ·exact .inl (by rw[aL (oC h hp (by intro z;subst z;exact hm))];exact h)
  ·exact .inr h
 ·have e:a≠p:=λz=>n (z▸hO)
  rcases h with h|⟨o,h⟩
  ·exact .inl (by rw[aL e];exact h)
  ·exact .inr ⟨o,by rw[aL e];exact h⟩
 ·rw[aL (oC h hp (by intro z;subst z;exact hm))];exact h
theorem RD.updM{p:Addr}{o o':HO}(hO:O p)(hp:H p=some o)(hm:gP o){d:D}{v:V}(h:RD K H O d v):RD K (L2.upd H p o') O d v:=RD.map (eI (K:=K) hO hp hm).1 (eI (K:=K) hO hp hm).2.1 (eI (K:=K) hO hp hm).2.2 h
theorem RDs.updM{p:Addr}{o o':HO}(hO:O p)(hp:H p=some o)(hm:gP o){d:List D}{v:List V}(h:RDs K H O d v):RDs K (L2.upd H p o') O d v:=RDs.map (eI (K:=K) hO hp hm).1 (eI (K:=K) hO hp hm).2.1 (eI (K:=K) hO hp hm).2.2 h
theorem RDk.updM{p:Addr}{o o':HO}(hO:O p)(hp:H p=some o)(hm:gP o){d:List (Sum Int Str×D)}{v:List (Key×V)}(h:RDk K H O d v):RDk K (L2.upd H p o') O d v:=RDk.map (eI (K:=K) hO hp hm).1 (eI (K:=K) hO hp hm).2.1 (eI (K:=K) hO hp hm).2.2 h
theorem RDt.updM{p:Addr}{o o':HO}(hO:O p)(hp:H p=some o)(hm:gP o){d:List (List (Sum Int Str)×D)}{v:List (List Key×V)}(h:RDt K H O d v):RDt K (L2.upd H p o') O d v:=RDt.map (eI (K:=K) hO hp hm).1 (eI (K:=K) hO hp hm).2.1 (eI (K:=K) hO hp hm).2.2 h
theorem RD.upd{p:Addr}{ys zs:List V}(hO:O p)(hp:H p=some (.lst ys)){d:D}{v:V}(h:RD K H O d v):RD K (L2.upd H p (.lst zs)) O d v:=RD.updM hO hp trivial h
theorem RDs.upd{p:Addr}{ys zs:List V}(hO:O p)(hp:H p=some (.lst ys)){d:List D}{v:List V}(h:RDs K H O d v):RDs K (L2.upd H p (.lst zs)) O d v:=RDs.updM hO hp trivial h
mutual
theorem RD.flat:∀{d:D} {v:V},d.flat=true->RD K H O d v->RD K H O' d v
 |.non,_,_,h=>h
 |.bl _,_,_,h=>h
 |.int _,_,_,h=>h
 |.str _,_,_,h=>h
 |.tup ds,v,f,h=>by
  obtain⟨a,xs,e,s,r⟩:=h
  rw[D.flat]at f
  exact⟨a,xs,e,s,RDs.flat f r⟩
 |.lst ds,v,f,_=>by rw[D.flat]at f;cases f
 |.dct _,_,f,_=>by rw[D.flat]at f;cases f
 |.tdc _,_,f,_=>by rw[D.flat]at f;cases f
theorem RDs.flat:∀{ds:List D} {vs:List V},D.flats ds=true->RDs K H O ds vs->RDs K H O' ds vs
 |[],_,_,h=>h
 |d::ds,vs,f,h=>by
  obtain⟨v,r,e,h1,h2⟩:=h
  rw[D.flats,aH]at f
  exact⟨v,r,e,RD.flat f.1 h1,RDs.flat f.2 h2⟩
end
theorem RDs.length:∀{ds:List D} {vs:List V},RDs K H O ds vs->vs.length=ds.length
 |[],_,h=>by rw[RDs]at h;rw[h];rfl
 |d::ds,vs,h=>by
  obtain⟨v,r,e,_,h2⟩:=h
  rw[e,aP,aP,RDs.length h2]
theorem RDs.get:∀{ds:List D} {vs:List V} {i:Nat} {d:D},RDs K H O ds vs->ds[i]?=some d->∃v,vs[i]?=some v/\RD K H O d v
 |[],_,_,_,_,e=>by simp at e
 |d::ds,vs,0,d',h,e=>by
  obtain⟨v,r,rfl,h1,_⟩:=h
  simp at e;subst e
  exact⟨v,rfl,h1⟩
 |d::ds,vs,i+1,d',h,e=>by
  obtain⟨v,r,rfl,_,h2⟩:=h
  obtain⟨w,h3,h4⟩:=RDs.get (i:=i) h2 (by simpa using e)
  exact⟨w,by simpa using h3,h4⟩
theorem RDs.append:∀{ds es:List D} {vs ws:List V},RDs K H O ds vs->RDs K H O es ws->RDs K H O (ds++es) (vs++ws)
 |[],_,_,_,h,g=>by rw[RDs]at h;subst h;exact g
 |d::ds,es,vs,ws,h,g=>by
  obtain⟨v,r,rfl,h1,h2⟩:=h
  exact⟨v,r++ws,rfl,h1,RDs.append h2 g⟩
theorem RDs.drop:∀{ds:List D} {vs:List V} (n:Nat),RDs K H O ds vs->RDs K H O (ds.drop n) (vs.drop n)
 |_,_,0,h=>h
 |[],_,n+1,h=>by rw[RDs]at h;subst h;exact rfl
 |d::ds,vs,n+1,h=>by
  obtain⟨v,r,rfl,_,h2⟩:=h
  exact RDs.drop n h2
theorem RDs.take:∀{ds:List D} {vs:List V} (n:Nat),RDs K H O ds vs->RDs K H O (ds.take n) (vs.take n)
 |_,_,0,_=>by simp[RDs]
 |[],_,n+1,h=>by rw[RDs]at h;subst h;simp[RDs]
 |d::ds,vs,n+1,h=>by
  obtain⟨v,r,rfl,h1,h2⟩:=h
  exact⟨v,r.take n,rfl,h1,RDs.take n h2⟩
theorem RDs.reverse{ds:List D}{vs:List V}(h:RDs K H O ds vs):RDs K H O ds.reverse vs.reverse:=by
 induction ds generalizing vs with
 |nil=>rw[RDs]at h;subst h;exact rfl
 |cons d ds ih=>
  obtain⟨v,r,rfl,h1,h2⟩:=h
  rw[yW,yW]
  exact RDs.append (ih h2) ⟨v,[],rfl,h1,rfl⟩
theorem RDs.cut{ds:List D}{vs:List V}(lo hi:Option Int)(h:RDs K H O ds vs):RDs K H O (Tr.cut ds lo hi) (jI vs lo hi):=by
 have e:=RDs.length h
 unfold Tr.cut jI
 rw[e]
 exact RDs.take _ (RDs.drop _ h)
theorem RDs.cons{d:D}{v:V}{ds:List D}{vs:List V}(h:RD K H O d v)(r:RDs K H O ds vs):RDs K H O (d::ds) (v::vs):=⟨v,vs,rfl,h,r⟩
theorem RDs.nil:RDs K H O [] []:=rfl
theorem RDk.length:∀{ds:List (Sum Int Str×D)} {vs:List (Key×V)},RDk K H O ds vs->vs.length=ds.length
 |[],_,h=>by rw[RDk]at h;rw[h];rfl
 |(k,d)::ds,vs,h=>by
  obtain⟨v,r,e,_,h2⟩:=h
  rw[e,aP,aP,RDk.length h2]
theorem RDt.length:∀{ds:List (List (Sum Int Str)×D)} {vs:List (List Key×V)},RDt K H O ds vs->vs.length=ds.length
 |[],_,h=>by rw[RDt]at h;rw[h];rfl
 |(k,d)::ds,vs,h=>by
  obtain⟨v,r,e,_,h2⟩:=h
  rw[e,aP,aP,RDt.length h2]
theorem RD.rr{d:D}{v:V}(h:RD K H O d v):RR K H O d v:=.inl h
theorem RDs.rr:∀{ds:List D} {vs:List V},RDs K H O ds vs->RRs K H O ds vs
 |[],_,h=>h
 |d::ds,vs,h=>by
  obtain⟨v,r,e,h1,h2⟩:=h
  exact⟨v,r,e,.inl h1,RDs.rr h2⟩
theorem OwnAt.map(hs:∀{d v},RDs K H O d v->RDs K H' O' d v)(hk:∀{d v},RDk K H O d v->RDk K H' O' d v)(hk2:∀{d v},RDt K H O d v->RDt K H' O' d v){a:Addr}(ho:∀o,gP o->H a=some o->H' a=some o):∀{d:D},OwnAt K H O a d->OwnAt K H' O' a d
 |.lst ds,⟨xs,h1,h2⟩=>⟨xs,ho _ trivial h1,hs h2⟩
 |.dct ds,⟨xs,h1,h2⟩=>⟨xs,ho _ trivial h1,hk h2⟩
 |.tdc ds,⟨xs,h1,h2⟩=>⟨xs,ho _ trivial h1,hk2 h2⟩
 |.non,h | .bl _,h | .int _,h | .str _,h | .tup _,h=>h.elim
theorem OwnAt.same(s:Same H H'){a:Addr}{d:D}(h:OwnAt K H O a d):OwnAt K H' O a d:=OwnAt.map (λq=>q.same s) (λq=>q.same s) (λq=>q.same s) (λ_ _ q=>s _ _ q) h
theorem OwnAt.new{p:Addr}(hp:H p=none){a:Addr}{d:D}(h:OwnAt K H O a d):OwnAt K H (cZ O p) a d:=OwnAt.map (λq=>q.new hp) (λq=>q.new hp) (λq=>q.new hp) (λ_ _ q=>q) h
theorem OwnAt.weak(s:∀a,O' a->O a){a:Addr}{d:D}(h:OwnAt K H O a d):OwnAt K H O' a d:=OwnAt.map (λq=>q.weak s) (λq=>q.weak s) (λq=>q.weak s) (λ_ _ q=>q) h
theorem OwnAt.updM{p:Addr}{o o':HO}(hO:O p)(hp:H p=some o)(hm:gP o){a:Addr}(hne:a≠p){d:D}(h:OwnAt K H O a d):OwnAt K (L2.upd H p o') O a d:=OwnAt.map (λq=>q.updM hO hp hm) (λq=>q.updM hO hp hm) (λq=>q.updM hO hp hm) (λ_ _ q=>by rw[aL hne];exact q) h
theorem OwnAt.obj{a:Addr}:∀{d:D},OwnAt K H O a d->∃o,H a=some o/\gP o
 |.lst ds,⟨xs,h1,h2⟩=>⟨_,h1,trivial⟩
 |.dct ds,⟨xs,h1,h2⟩=>⟨_,h1,trivial⟩
 |.tdc ds,⟨xs,h1,h2⟩=>⟨_,h1,trivial⟩
 |.non,h | .bl _,h | .int _,h | .str _,h | .tup _,h=>h.elim
theorem OwnAt.rd{a:Addr}(hn:¬O a):∀{d:D},d.isDct=false->OwnAt K H O a d->RD K H O d (.ref a)
 |.lst ds,_,⟨xs,h1,h2⟩=>⟨a,xs,rfl,.inl ⟨hn,.inl h1⟩,h2⟩
 |.dct ds,z,_=>by cases z
 |.tdc ds,z,_=>by cases z
 |.non,_,h | .bl _,_,h | .int _,_,h | .str _,_,h | .tup _,_,h=>h.elim
theorem RR.same(s:Same H H'){d:D}{v:V}(h:RR K H O d v):RR K H' O d v:=by
 rcases h with h|⟨a,e,h⟩
 ·exact .inl (h.same s)
 ·exact .inr ⟨a,e,h.same s⟩
theorem RR.lst{ds:List D}{v:V}(h:RR K H O (.lst ds) v):∃a xs,v=.ref a/\SqL K H a xs/\RDs K H O ds xs:=by
 rcases h with⟨a,xs,e,s,r⟩|⟨a,e,xs,h1,h2⟩
 ·refine⟨a,xs,e,?_,r⟩
  rcases s with⟨_,s⟩|s
  ·exact .inl s
  ·exact .inr s
 ·exact⟨a,xs,e,.of h1,h2⟩
theorem RR.dct{kvs:List (Sum Int Str×D)}{v:V}(h:RR K H O (.dct kvs) v):∃a ps,v=.ref a/\Rd H a (.dK ps)/\RDk K H O kvs ps:=by
 rcases h with⟨a,ps,e,s,r⟩|⟨a,e,ps,h1,h2⟩
 ·exact⟨a,ps,e,.inr s,r⟩
 ·exact⟨a,ps,e,.inl h1,h2⟩
theorem RR.tdc{kvs:List (List (Sum Int Str)×D)}{v:V}(h:RR K H O (.tdc kvs) v):∃a ps,v=.ref a/\Rd H a (.dT ps)/\RDt K H O kvs ps:=by
 rcases h with⟨a,ps,e,s,r⟩|⟨a,e,ps,h1,h2⟩
 ·exact⟨a,ps,e,.inr s,r⟩
 ·exact⟨a,ps,e,.inl h1,h2⟩
theorem RR.tupV{ds:List D}{v:V}(h:RR K H O (.tup ds) v):∃a xs,v=.ref a/\TupV K H a xs/\RDs K H O ds xs:=by
 rcases h with h|⟨a,e,h⟩
 ·exact h
 ·exact h.elim
theorem RR.tup{ds:List D}{v:V}(h:RR K H O (.tup ds) v):∃a xs,v=.ref a/\SqT K H a xs/\RDs K H O ds xs:=by
 obtain⟨a,xs,e,q,r⟩:=h.tupV
 exact⟨a,xs,e,q.sq,r⟩
noncomputable def D.still:D->Bool
 |.lst _=>false
 |.dct _=>false
 |.tdc _=>false
 |_=>true
theorem RR.rd{d:D}{v:V}(h:RR K H O d v)(n:d.still=true):RD K H O d v:=by
 rcases h with h|⟨a,e,h⟩
 ·exact h
 ·cases d with
  |lst _=>cases n
  |dct _=>cases n
  |tdc _=>cases n
  |non=>exact h.elim
  |bl _=>exact h.elim
  |int _=>exact h.elim
  |str _=>exact h.elim
  |tup _=>exact h.elim
end
noncomputable def NV(K:PySem.W.Frag)(H:Hp)(O:Addr->Prop)(d:D)(v:V):Prop:=(d=.non/\v=.non)\/∃ds a xs,d=.lst ds/\D.flats ds=true/\v=.ref a/\H a=some (.lst xs)/\¬O a/\RDs K H O ds xs
theorem NV.map{K:PySem.W.Frag}{H H':Hp}{O O':Addr->Prop}(hs:∀{d v},RDs K H O d v->RDs K H' O' d v)(hn:∀a xs,¬O a->H a=some (.lst xs)->¬O' a/\H' a=some (.lst xs)){d:D}{v:V}(h:NV K H O d v):NV K H' O' d v:=by
 rcases h with h|⟨ds,a,xs,h1,h2,h3,h4,h5,h6⟩
 ·exact .inl h
 ·obtain⟨h7,h8⟩:=hn a xs h5 h4
  exact .inr ⟨ds,a,xs,h1,h2,h3,h8,h7,hs h6⟩
theorem NV.rd{K:PySem.W.Frag}{H:Hp}{O:Addr->Prop}{d:D}{v:V}(h:NV K H O d v):RD K H O d v:=by
 rcases h with⟨rfl,rfl⟩|⟨ds,a,xs,rfl,h2,rfl,h4,h5,h6⟩
 ·exact rfl
 ·exact⟨a,xs,rfl,.inl ⟨h5,.inl h4⟩,h6⟩
noncomputable def kV:Sum Int Str->V
 |.inl i=>.int i
 |.inr x=>.str x
noncomputable def RS(K:PySem.W.Frag)(H:Hp)(O:Addr->Prop)(own:Option Addr):Sl->Option V->Prop
 |.no,_=>True
 |.v d,ov=>∃v,ov=some v/\RD K H O d v
 |.o d,ov=>∃a,own=some a/\ov=some (.ref a)/\OwnAt K H O a d
 |.t ds,ov=>∃t p ys vs a r,own=some p/\ov=some (.ref t)/\(∃ks:List (Sum Int Str),ds=ks.map eV++.lst a::r/\TupV K H t (ks.map kV++.ref p::vs))/\H p=some (.lst ys)/\RDs K H O a ys/\RDs K H O r vs
 |.n d,ov=>∃v,ov=some v/\NV K H O d v
 |.r a d,ov=>own=some a/\ov=some (.ref a)/\OwnAt K H O a d
noncomputable def cB(σ:L2.St)(i:Nat):Option V:=(σ[i]?).join
set_option genInjectivity false in
structure Fm(K:PySem.W.Frag)(H₀:Hp)(O₀:Addr->Prop)(H:Hp)(O:Addr->Prop)(own:Nat->Option Addr)(e:Nv)(σ:L2.St):Prop where
 len:e.length=σ.length
 sl:∀i,RS K H O (own i) (e.at i) (cB σ i)
 inj:∀i j a,own i=some a->own j=some a->i=j
 same:Same H₀ H
 sub:∀a,O₀ a->O a
 trk0:∀a,O₀ a->∃o,H₀ a=some o
 trk:∀a,O a->∃o,H a=some o
 new:∀i a,own i=some a->O a/\H₀ a=none
 nw:∀i d a,e.at i=.n d->cB σ i=some (.ref a)->H₀ a=none
section
variable{K:PySem.W.Frag}{H₀ H H':Hp}{O₀ O O':Addr->Prop}{own:Nat->Option Addr}{e:Nv}{σ:L2.St}
theorem RS.same(s:Same H H'){o:Option Addr}{x:Sl}{ov:Option V}(h:RS K H O o x ov):RS K H' O o x ov:=by
 cases x with
 |no=>trivial
 |v d=>obtain⟨v,e,r⟩:=h;exact⟨v,e,r.same s⟩
 |o d=>obtain⟨a,e1,e2,h⟩:=h;exact⟨a,e1,e2,h.same s⟩
 |r a d=>exact⟨h.1,h.2.1,h.2.2.same s⟩
 |t ds=>obtain⟨t,p,ys,vs,a,r,e1,e2,⟨ks,e3,h1⟩,h2,h3,h4⟩:=h;exact⟨t,p,ys,vs,a,r,e1,e2,⟨ks,e3,TupV.same s h1⟩,s _ _ h2,h3.same s,h4.same s⟩
 |n d=>obtain⟨v,e,r⟩:=h;exact⟨v,e,r.map (λq=>q.same s) λa xs z q=>⟨z,s _ _ q⟩⟩
theorem Fm.grow(F:Fm K H₀ O₀ H O own e σ)(s:Same H H'):Fm K H₀ O₀ H' O own e σ:=
 ⟨F.len,λi=>(F.sl i).same s,F.inj,F.same.trans s,F.sub,F.trk0,λa h=>let ⟨xs,q⟩:=F.trk a h;⟨xs,s _ _ q⟩,F.new,F.nw⟩
end
section
variable{K:PySem.W.Frag}{H₀ H H':Hp}{O₀ O O':Addr->Prop}{own:Nat->Option Addr}{e:Nv}{σ:L2.St}
theorem iT{e:Nv}{i:Nat}{x:Sl}(h:i<e.length):Nv.at (e.set i x) i=x:=by
 unfold Nv.at;rw[sF h];rfl
theorem fM{e:Nv}{i j:Nat}{x:Sl}(h:i≠j):Nv.at (e.set i x) j=Nv.at e j:=by
 unfold Nv.at;rw[sG h]
theorem iD{e:Nv}{i:Nat}(h:¬i<e.length):Nv.at e i=.no:=by
 unfold Nv.at;rw[jS (by lia)];rfl
theorem oZ{σ:L2.St}{i:Nat}{v:V}(h:i<σ.length):cB (σ.set i (some v)) i=some v:=by
 unfold cB;rw[sF h];rfl
theorem mR{σ:L2.St}{i j:Nat}{v:Option V}(h:i≠j):cB (σ.set i v) j=cB σ j:=by
 unfold cB;rw[sG h]
theorem BP{H₀:Hp}{e:Nv}{σ:L2.St}{i:Nat}{x:Sl}{ov:Option V}(hx:∀d,x≠.n d)(h:∀j d a,e.at j=.n d->cB σ j=some (.ref a)->H₀ a=none):∀j d a,Nv.at (e.set i x) j=.n d->cB (σ.set i ov) j=some (.ref a)->H₀ a=none:=λj d a h1 h2=>by
 by_cases z:i=j
 ·subst z
  by_cases hi:i<e.length
  ·rw[iT hi]at h1;exact absurd h1 (hx d)
  ·rw[iD (by rw[eN];exact hi)]at h1;cases h1
 ·rw[fM z]at h1;rw[mR z]at h2;exact h j d a h1 h2
theorem pA{H₀:Hp}{e:Nv}{σ:L2.St}{i:Nat}{x:Sl}(hx:∀d,x≠.n d)(h:∀j d a,e.at j=.n d->cB σ j=some (.ref a)->H₀ a=none):∀j d a,Nv.at (e.set i x) j=.n d->cB σ j=some (.ref a)->H₀ a=none:=λj d a h1 h2=>by
 by_cases z:i=j
 ·subst z
  by_cases hi:i<e.length
  ·rw[iT hi]at h1;exact absurd h1 (hx d)
  ·rw[iD (by rw[eN];exact hi)]at h1;cases h1
 ·rw[fM z]at h1;exact h j d a h1 h2
theorem eB{σ:L2.St}{i:Nat}{v:V}(h:cB σ i=some v):σ[i]?=some (some v):=by
 unfold cB at h
 cases q:σ[i]? with
 |none=>rw[q]at h;cases h
 |some o=>rw[q]at h;cases o with
  |none=>cases h
  |some w=>cases h;rfl
theorem RS.map(ht:∀{d v},RD K H O d v->RD K H' O' d v)(hs:∀{d v},RDs K H O d v->RDs K H' O' d v)(hk:∀{d v},RDk K H O d v->RDk K H' O' d v)(hk2:∀{d v},RDt K H O d v->RDt K H' O' d v){o:Option Addr}(ho:∀a u,o=some a->gP u->H a=some u->H' a=some u){x:Sl}{ov:Option V}(h:RS K H O o x ov)(hn:∀a xs,¬O a->H a=some (.lst xs)->¬O' a/\H' a=some (.lst xs))(hq:∀a xs,TupV K H a xs->TupV K H' a xs:=by first|exact λ_ _ q=>q|exact λ_ _ q=>TupV.same (by assumption) q):RS K H' O' o x ov:=by
 cases x with
 |no=>trivial
 |v d=>obtain⟨v,e,r⟩:=h;exact⟨v,e,ht r⟩
 |o d=>obtain⟨a,e1,e2,h⟩:=h;exact⟨a,e1,e2,h.map hs hk hk2 λu hm q=>ho a u e1 hm q⟩
 |t ds=>obtain⟨t,p,ys,vs,a,r,e1,e2,⟨ks,e3,h1⟩,h2,h3,h4⟩:=h;exact⟨t,p,ys,vs,a,r,e1,e2,⟨ks,e3,hq _ _ h1⟩,ho p _ e1 trivial h2,hs h3,hs h4⟩
 |n d=>obtain⟨v,e,r⟩:=h;exact⟨v,e,r.map hs hn⟩
 |r a d=>exact⟨h.1,h.2.1,h.2.2.map hs hk hk2 λu hm q=>ho a u h.1 hm q⟩
theorem BQ{p:Addr}(hp:H p=none)(s:Same H H'):∀a xs,¬O a->H a=some (.lst xs)->¬cZ O p a/\H' a=some (.lst xs):=λa xs n q=>⟨λz=>z.elim n (hZ q hp),s _ _ q⟩
theorem pB{p:Addr}{o':HO}(hO:O p):∀a xs,¬O a->H a=some (.lst xs)->¬O a/\upd H p o' a=some (.lst xs):=λa xs n q=>⟨n,by
 have ne:a≠p:=λz=>n (z▸hO)
 rw[aL ne];exact q⟩
theorem HE(w:∀a,O' a->O a):∀a xs,¬O a->H a=some (.lst xs)->¬O' a/\H a=some (.lst xs):=λa xs n q=>⟨λz=>n (w a z),q⟩
theorem Fm.setV(F:Fm K H₀ O₀ H O own e σ)(i:Nat){d:D}{v:V}(r:RD K H O d v):Fm K H₀ O₀ H O (λj=>if j=i then none else own j) (e.set i (.v d)) (σ.set i (some v)) where
 len:=by rw[eN,eN];exact F.len
 sl:=λj=>by
  by_cases h:i=j
  ·subst h
   by_cases hi:i<e.length
   ·rw[iT hi,oZ (by rw[<-F.len];exact hi)];exact⟨v,rfl,r⟩
   ·rw[iD (by rw[eN];exact hi)];trivial
  ·rw[fM h,mR h,if_neg (Ne.symm h)];exact F.sl j
 inj:=λj k a h1 h2=>by
  by_cases h:j=i
  ·rw[if_pos h]at h1;cases h1
  ·by_cases h':k=i
   ·rw[if_pos h']at h2;cases h2
   ·rw[if_neg h]at h1;rw[if_neg h']at h2;exact F.inj j k a h1 h2
 same:=F.same
 sub:=F.sub
 trk0:=F.trk0
 trk:=F.trk
 new:=λj a h1=>by
  by_cases h:j=i
  ·rw[if_pos h]at h1;cases h1
  ·rw[if_neg h]at h1;exact F.new j a h1
 nw:=BP (λ_ z=>by cases z) F.nw
theorem Fm.setN(F:Fm K H₀ O₀ H O own e σ)(i:Nat){d:D}{v:V}(r:NV K H O d v)(h0:∀a,v=.ref a->H₀ a=none):Fm K H₀ O₀ H O (λj=>if j=i then none else own j) (e.set i (.n d)) (σ.set i (some v)) where
 len:=by rw[eN,eN];exact F.len
 sl:=λj=>by
  by_cases h:i=j
  ·subst h
   by_cases hi:i<e.length
   ·rw[iT hi,oZ (by rw[<-F.len];exact hi)];exact⟨v,rfl,r⟩
   ·rw[iD (by rw[eN];exact hi)];trivial
  ·rw[fM h,mR h,if_neg (Ne.symm h)];exact F.sl j
 inj:=(F.setV i r.rd).inj
 same:=F.same
 sub:=F.sub
 trk0:=F.trk0
 trk:=F.trk
 new:=(F.setV i r.rd).new
 nw:=λj d' a h1 h2=>by
  by_cases z:i=j
  ·subst z
   by_cases hi:i<e.length
   ·rw[oZ (by rw[<-F.len];exact hi)]at h2
    exact h0 a (fS.inj h2)
   ·rw[iD (by rw[eN];exact hi)]at h1;cases h1
  ·rw[fM z]at h1;rw[mR z]at h2;exact F.nw j d' a h1 h2
theorem Fm.setO(F:Fm K H₀ O₀ H O own e σ)(s:Same H H')(i:Nat){d:D}{p:Addr}(hp:H p=none)(r:OwnAt K H' (cZ O p) p d) :
 Fm K H₀ O₀ H' (cZ O p) (λj=>if j=i then some p else own j) (e.set i (.o d)) (σ.set i (some (.ref p))) where
 len:=by rw[eN,eN];exact F.len
 sl:=λj=>by
  by_cases h:i=j
  ·subst h
   rw[if_pos rfl]
   by_cases hi:i<e.length
   ·rw[iT hi,oZ (by rw[<-F.len];exact hi)];exact⟨p,rfl,rfl,r⟩
   ·rw[iD (by rw[eN];exact hi)];trivial
  ·rw[fM h,mR h,if_neg (Ne.symm h)]
   exact RS.map (λq=>(q.new hp).same s) (λq=>(q.new hp).same s) (λq=>(q.new hp).same s) (λq=>(q.new hp).same s) (λa u _ _ q=>s _ _ q) (F.sl j) (BQ hp s)
 inj:=λj k a h1 h2=>by
  have no:∀j,own j≠some p:=λj q=>by
   obtain⟨xs,w⟩:=F.trk p (F.new j p q).1
   rw[hp]at w;cases w
  by_cases h:j=i
  ·rw[if_pos h]at h1
   cases h1
   by_cases h':k=i
   ·rw[h,h']
   ·rw[if_neg h']at h2;exact absurd h2 (no k)
  ·rw[if_neg h]at h1
   by_cases h':k=i
   ·rw[if_pos h']at h2;cases h2;exact absurd h1 (no j)
   ·rw[if_neg h']at h2;exact F.inj j k a h1 h2
 same:=F.same.trans s
 sub:=λa h=>.inl (F.sub a h)
 trk0:=F.trk0
 trk:=λa h=>by
  rcases h with h|h
  ·obtain⟨ys,q⟩:=F.trk a h
   exact⟨ys,s _ _ q⟩
  ·subst h
   obtain⟨o,h1,_⟩:=r.obj
   exact⟨o,h1⟩
 new:=λj a h1=>by
  by_cases h:j=i
  ·rw[if_pos h]at h1;cases h1;exact⟨.inr rfl,F.same.free hp⟩
  ·rw[if_neg h]at h1;exact⟨.inl (F.new j a h1).1,(F.new j a h1).2⟩
 nw:=BP (λ_ z=>by cases z) F.nw
theorem Fm.mutA(F:Fm K H₀ O₀ H O own e σ)(i:Nat){d:D}(hi:e.at i=.o d):∃p,cB σ i=some (.ref p)/\OwnAt K H O p d/\O p /\
 ∀d' o',(∀o,H p=some o->OwnAt K (upd H p o') O p d')->Fm K H₀ O₀ (upd H p o') O own (e.set i (.o d')) σ:=by
 have q:=F.sl i
 rw[hi]at q
 obtain⟨p,e1,e2,h1⟩:=q
 obtain⟨o,ho,hm⟩:=h1.obj
 have hn:=F.new i p e1
 refine⟨p,e2,h1,hn.1,λd' o' r=>?_⟩
 have hlen:i<e.length:=by
  by_cases h:i<e.length
  ·exact h
  ·rw[iD h]at hi;cases hi
 refine⟨by rw[eN];exact F.len,λj=>?_,F.inj,λb u hb=>?_,F.sub,F.trk0,λa ha=>?_,F.new,pA (λ_ z=>by cases z) F.nw⟩
 ·by_cases h:i=j
  ·subst h
   rw[iT hlen,e2]
   exact⟨p,e1,rfl,r o ho⟩
  ·rw[fM h]
   refine RS.map (λq=>q.updM hn.1 ho hm) (λq=>q.updM hn.1 ho hm) (λq=>q.updM hn.1 ho hm) (λq=>q.updM hn.1 ho hm) (λa u ea _ q=>?_) (F.sl j) (pB hn.1) (eI (K:=K) hn.1 ho hm).1
   have:a≠p:=λz=>h (F.inj i j p e1 (z▸ea))
   rw[aL this];exact q
 ·rw[aL (λz=>by rw[z,hn.2]at hb;cases hb)];exact F.same b u hb
 ·by_cases h:a=p
  ·subst h;exact⟨_,bS⟩
  ·obtain⟨ys,q⟩:=F.trk a ha
   exact⟨ys,by rw[aL h];exact q⟩
theorem Fm.mut(F:Fm K H₀ O₀ H O own e σ)(i:Nat){ds:List D}(hi:e.at i=.o (.lst ds)):∃p xs,cB σ i=some (.ref p)/\H p=some (.lst xs)/\RDs K H O ds xs/\O p /\
 ∀ds' xs',RDs K H O ds' xs'->Fm K H₀ O₀ (upd H p (.lst xs')) O own (e.set i (.o (.lst ds'))) σ:=by
 obtain⟨p,e2,⟨xs,h1,h2⟩,hO,k⟩:=F.mutA i hi
 exact⟨p,xs,e2,h1,h2,hO,λds' xs' r=>k (.lst ds') (.lst xs') λ_ _=>⟨xs',bS,r.upd hO h1⟩⟩
theorem Fm.mutT(F:Fm K H₀ O₀ H O own e σ)(i:Nat){ds:List (List (Sum Int Str)×D)}(hi:e.at i=.o (.tdc ds)):∃p xs,cB σ i=some (.ref p)/\H p=some (.dT xs)/\RDt K H O ds xs/\O p /\
 ∀ds' xs',RDt K H O ds' xs'->Fm K H₀ O₀ (upd H p (.dT xs')) O own (e.set i (.o (.tdc ds'))) σ:=by
 obtain⟨p,e2,⟨xs,h1,h2⟩,hO,k⟩:=F.mutA i hi
 exact⟨p,xs,e2,h1,h2,hO,λds' xs' r=>k (.tdc ds') (.dT xs') λ_ _=>⟨xs',bS,r.updM hO h1 trivial⟩⟩
theorem Fm.seal(F:Fm K H₀ O₀ H O own e σ)(i:Nat){d:D}(hi:e.at i=.o d)(hd:d.isDct=false):∃O' own',Fm K H₀ O₀ H O' own' (e.set i (.v d)) σ/\∀a,O' a->O a:=by
 have q:=F.sl i
 rw[hi]at q
 obtain⟨p,e1,e2,h1⟩:=q
 have hn:=F.new i p e1
 have hlen:i<e.length:=by
  by_cases h:i<e.length
  ·exact h
  ·rw[iD h]at hi;cases hi
 refine⟨oY O p,λj=>if j=i then none else own j,⟨by rw[eN];exact F.len,λj=>?_,λj k a q1 q2=>?_,F.same,λa ha=>⟨F.sub a ha,λz=>?_⟩,F.trk0,λa ha=>F.trk a ha.1,λj a q1=>?_,pA (λ_ z=>by cases z) F.nw⟩,λa ha=>ha.1⟩
 ·by_cases h:i=j
  ·subst h
   rw[iT hlen,e2]
   exact⟨.ref p,rfl,OwnAt.rd (λz=>z.2 rfl) hd (h1.weak λ_ z=>z.1)⟩
  ·rw[fM h,if_neg (Ne.symm h)]
   exact RS.map (λq=>q.weak λ_ z=>z.1) (λq=>q.weak λ_ z=>z.1) (λq=>q.weak λ_ z=>z.1) (λq=>q.weak λ_ z=>z.1) (λa ys _ _ q=>q) (F.sl j) (HE λ_ z=>z.1)
 ·by_cases h:j=i
  ·rw[if_pos h]at q1;cases q1
  ·by_cases h':k=i
   ·rw[if_pos h']at q2;cases q2
   ·rw[if_neg h]at q1;rw[if_neg h']at q2;exact F.inj j k a q1 q2
 ·obtain⟨o,w⟩:=F.trk0 a ha
  rw[z,hn.2]at w;cases w
 ·by_cases h:j=i
  ·rw[if_pos h]at q1;cases q1
  ·rw[if_neg h]at q1
   exact⟨⟨(F.new j a q1).1,λz=>h (F.inj j i p (z▸q1) e1)⟩,(F.new j a q1).2⟩
theorem Fm.sealD(F:Fm K H₀ O₀ H O own e σ)(i:Nat){d:D}(hi:e.at i=.o d)(hd:d.isDct=true):∃p u,H p=some u/\((∃ps,u=.dK ps)\/∃ps,u=.dT ps)/\cB σ i=some (.ref p)/\(O p/\gP u) /\
 ∀ob,(∃own',Fm K H₀ O₀ (upd H p (.frz ob u)) (oY O p) own' (e.set i (.v d)) σ)/\RD K (upd H p (.frz ob u)) (oY O p) d (.ref p):=by
 have q:=F.sl i
 rw[hi]at q
 obtain⟨p,e1,e2,h1⟩:=q
 have hn:=F.new i p e1
 have hlen:i<e.length:=by
  by_cases h:i<e.length
  ·exact h
  ·rw[iD h]at hi;cases hi
 obtain⟨u,hu,hm⟩:=h1.obj
 have hk:((∃ps,u=.dK ps)\/∃ps,u=.dT ps)/\∀ob,RD K (upd H p (.frz ob u)) (oY O p) d (.ref p):=by
  cases d with
  |dct kvs=>
   obtain⟨ps,g1,g2⟩:=h1
   rw[g1]at hu
   cases hu
   exact⟨.inl ⟨ps,rfl⟩,λob=>⟨p,ps,rfl,⟨ob,bS⟩,(g2.updM hn.1 g1 trivial).weak λ_ z=>z.1⟩⟩
  |tdc kvs=>
   obtain⟨ps,g1,g2⟩:=h1
   rw[g1]at hu
   cases hu
   exact⟨.inr ⟨ps,rfl⟩,λob=>⟨p,ps,rfl,⟨ob,bS⟩,(g2.updM hn.1 g1 trivial).weak λ_ z=>z.1⟩⟩
  |_=>cases hd
 refine⟨p,u,hu,hk.1,e2,⟨hn.1,hm⟩,λob=>⟨⟨λj=>if j=i then none else own j,⟨by rw[eN];exact F.len,λj=>?_,λj k a q1 q2=>?_,λb w hb=>?_,λa ha=>⟨F.sub a ha,λz=>?_⟩,F.trk0,λa ha=>?_,λj a q1=>?_,pA (λ_ z=>by cases z) F.nw⟩⟩,hk.2 ob⟩⟩
 ·by_cases h:i=j
  ·subst h
   rw[iT hlen,e2]
   exact⟨.ref p,rfl,hk.2 ob⟩
  ·rw[fM h,if_neg (Ne.symm h)]
   refine RS.map (λq=>(q.updM hn.1 hu hm).weak λ_ z=>z.1) (λq=>(q.updM hn.1 hu hm).weak λ_ z=>z.1) (λq=>(q.updM hn.1 hu hm).weak λ_ z=>z.1) (λq=>(q.updM hn.1 hu hm).weak λ_ z=>z.1) (λa w ea _ q=>?_) (F.sl j) (λa xs n q=>?_) (eI (K:=K) hn.1 hu hm).1
   ·have:a≠p:=λz=>h (F.inj i j p e1 (z▸ea))
    rw[aL this];exact q
   ·obtain⟨_,z2⟩:=pB (o':=.frz ob u) hn.1 a xs n q
    exact⟨λz=>n z.1,z2⟩
 ·by_cases h:j=i
  ·rw[if_pos h]at q1;cases q1
  ·by_cases h':k=i
   ·rw[if_pos h']at q2;cases q2
   ·rw[if_neg h]at q1;rw[if_neg h']at q2;exact F.inj j k a q1 q2
 ·rw[aL (λz=>by rw[z,hn.2]at hb;cases hb)];exact F.same b w hb
 ·obtain⟨o,w⟩:=F.trk0 a ha
  rw[z,hn.2]at w;cases w
 ·obtain⟨o,w⟩:=F.trk a ha.1
  exact⟨o,by rw[aL ha.2];exact w⟩
 ·by_cases h:j=i
  ·rw[if_pos h]at q1;cases q1
  ·rw[if_neg h]at q1
   exact⟨⟨(F.new j a q1).1,λz=>h (F.inj j i p (z▸q1) e1)⟩,(F.new j a q1).2⟩
theorem Fm.val(F:Fm K H₀ O₀ H O own e σ){i:Nat}{d:D}(h:(e.at i).val=.ok d):∃v,σ[i]?=some (some v)/\RD K H O d v:=by
 have q:=F.sl i
 cases z:e.at i with
 |no=>rw[z]at h;cases h
 |o d=>rw[z]at h;cases h
 |t d=>rw[z]at h;cases h
 |r a d=>rw[z]at h;cases h
 |n d'=>
  rw[z]at h q
  cases h
  obtain⟨v,e1,r⟩:=q
  exact⟨v,eB e1,r.rd⟩
 |v d'=>
  rw[z]at h q
  cases h
  obtain⟨v,e1,r⟩:=q
  exact⟨v,eB e1,r⟩
theorem Fm.any(F:Fm K H₀ O₀ H O own e σ){i:Nat}{d:D}(h:(e.at i).any=.ok d):∃v,σ[i]?=some (some v)/\RR K H O d v:=by
 have q:=F.sl i
 cases z:e.at i with
 |no=>rw[z]at h;cases h
 |t d=>rw[z]at h;cases h
 |o d'=>
  rw[z]at h q
  cases h
  obtain⟨a,e1,e2,h1⟩:=q
  exact⟨.ref a,eB e2,.inr ⟨a,rfl,h1⟩⟩
 |r a d'=>
  rw[z]at h q
  cases h
  exact⟨.ref a,eB q.2.1,.inr ⟨a,rfl,q.2.2⟩⟩
 |n d'=>
  rw[z]at h q
  cases h
  obtain⟨v,e1,r⟩:=q
  exact⟨v,eB e1,.inl r.rd⟩
 |v d'=>
  rw[z]at h q
  cases h
  obtain⟨v,e1,r⟩:=q
  exact⟨v,eB e1,.inl r⟩
theorem Sl.own_ok{x:Sl}{a:List D}(h:x.own=.ok a):x=.o (.lst a):=by
 unfold Sl.own at h
 split at h
 ·cases h;rfl
 ·cases h
theorem Sl.ownT_ok{x:Sl}{a:List (List (Sum Int Str)×D)}(h:x.ownT=.ok a):x=.o (.tdc a):=by
 unfold Sl.ownT at h
 split at h
 ·cases h;rfl
 ·cases h
theorem Sl.ownA_ok{x:Sl}{a:D}(h:x.ownA=.ok a):x=.o a:=by
 unfold Sl.ownA at h
 split at h
 ·cases h;rfl
 ·cases h
end
noncomputable def NewL(K:PySem.W.Frag)(H H':Hp)(O:Addr->Prop)(d:D)(v:V):Prop:=d.still=false->∃a,v=.ref a/\H a=none/\OwnAt K H' (cZ O a) a d
theorem NewL.back{K:PySem.W.Frag}{H1 H H':Hp}{O:Addr->Prop}{d:D}{v:V}(s:Same H1 H)(n:NewL K H H' O d v):NewL K H1 H' O d v:=λz=>by
 obtain⟨a,h1,h2,h3⟩:=n z
 exact⟨a,h1,s.free h2,h3⟩
theorem NewL.same{K:PySem.W.Frag}{H H1 H':Hp}{O:Addr->Prop}{d:D}{v:V}(s:Same H1 H')(n:NewL K H H1 O d v):NewL K H H' O d v:=λz=>by
 obtain⟨a,h1,h2,h3⟩:=n z
 exact⟨a,h1,h2,h3.same s⟩
theorem NewL.weak{K:PySem.W.Frag}{H H':Hp}{O O':Addr->Prop}{d:D}{v:V}(s:∀a,O' a->O a)(n:NewL K H H' O d v):NewL K H H' O' d v:=λz=>by
 obtain⟨a,h1,h2,h3⟩:=n z
 exact⟨a,h1,h2,h3.weak λb hb=>hb.imp (s b) id⟩
theorem NewL.still{K:PySem.W.Frag}{H H':Hp}{O:Addr->Prop}{d:D}{v:V}(h:d.still=true):NewL K H H' O d v:=λz=>by rw[h]at z;cases z
noncomputable def NewR(K:PySem.W.Frag)(H H':Hp)(O:Addr->Prop)(d:D)(v:V):Prop:=NewL K H H' O d v/\∀(ks:List (Sum Int Str))(a r:List D),d=.tup (ks.map eV++.lst a::r)->∃t p ys vs,v=.ref t/\TupV K H' t (ks.map kV++.ref p::vs)/\H p=none/\H' p=some (.lst ys)/\RDs K H' (cZ O p) a ys/\RDs K H' (cZ O p) r vs
theorem HF(ks:List (Sum Int Str))(a r:List D):mP (ks.map eV++.lst a::r)=true:=by
 induction ks with
 |nil=>rfl
 |cons k ks ih=>cases k<;>exact ih
theorem NewR.of{K:PySem.W.Frag}{H H':Hp}{O:Addr->Prop}{d:D}{v:V}(n:NewL K H H' O d v)(h:kB d=false):NewR K H H' O d v:=⟨n,λks a r z=>by
 subst z
 have h:mP _=false:=h
 rw[HF]at h;cases h⟩
section
variable(T:Tab)(cf:Nat->List D->Res D)(K:PySem.W.Frag)(H₀:Hp)(O₀:Addr->Prop)
noncomputable def tE(x:E):TE:=λσ H Q=>∃O own e d,Fm K H₀ O₀ H O own e σ/\evE T cf x e=.ok d/\∀v H',Same H H'->RD K H' O d v->(bL T x=true->NewL K H H' O d v)->Q v H'
noncomputable def tR(x:E):TE:=λσ H Q=>∃O own e d,Fm K H₀ O₀ H O own e σ/\evE T cf x e=.ok d/\∀v H',Same H H'->RR K H' O d v->Q v H'
noncomputable def tT(x:E):TT:=λσ H Q=>∃O own e d k,Fm K H₀ O₀ H O own e σ/\evE T cf x e=.ok d/\d.truth=.ok k/\∀H',Same H H'->Q k H'
noncomputable def NewAs(H H':Hp)(O:Addr->Prop)(x:E)(ds:List D)(vs:List V):Prop:=∀j d v,bL T (A1 x j)=true->ds[j]?=some d->vs[j]?=some v->NewL K H H' O d v
noncomputable def tAv(x:E):TA:=λσ H Q=>∃O own e ds,Fm K H₀ O₀ H O own e σ/\evA T cf x e=.ok ds/\∀vs H',Same H H'->RDs K H' O ds vs->NewAs T K H H' O x ds vs->Q vs H'
noncomputable def tAr(x:E):TA:=λσ H Q=>∃O own e ds,Fm K H₀ O₀ H O own e σ/\evA T cf x e=.ok ds/\∀vs H',Same H H'->RRs K H' O ds vs->Q vs H'
end
section
variable(T:Tab)(cf:Nat->List D->Res D)(X:Cx)
noncomputable def SE(x:E)(p:Expr):Prop:=∀H₀ O₀,PE X p (tE T cf X.K H₀ O₀ x)
noncomputable def SR(x:E)(p:Expr):Prop:=∀H₀ O₀,PE X p (tR T cf X.K H₀ O₀ x)
noncomputable def ST(x:E)(p:Expr):Prop:=∀H₀ O₀,PT X p (tT T cf X.K H₀ O₀ x)
noncomputable def SAv(x:E)(p:List Expr):Prop:=∀H₀ O₀,PA X p (tAv T cf X.K H₀ O₀ x)
noncomputable def SAr(x:E)(p:List Expr):Prop:=∀H₀ O₀,PA X p (tAr T cf X.K H₀ O₀ x)
end
section
variable{T:Tab}{cf:Nat->List D->Res D}{X:Cx}{x y z:E}{p q r:Expr}{pos:Pos}
theorem PE.imp{t t':TE}(h:∀σ H Q,t' σ H Q->t σ H Q)(hp:PE X p t):PE X p t':=λpins s σ H Q I q=>hp pins s σ H Q I (h σ H Q q)
theorem PT.imp{t t':TT}(h:∀σ H Q,t' σ H Q->t σ H Q)(hp:PT X p t):PT X p t':=λpins s σ H Q I q=>hp pins s σ H Q I (h σ H Q q)
theorem SE.sr(h:SE T cf X x p):SR T cf X x p:=λH₀ O₀=>PE.imp (λσ H Q ⟨O,own,e,d,F,ev,q⟩=>⟨O,own,e,d,F,ev,λv H' s r _=>q v H' s r.rr⟩) (h H₀ O₀)
theorem SAv.sr{ps:List Expr}(h:SAv T cf X x ps):SAr T cf X x ps:=λH₀ O₀ pos pins s σ H Q I ⟨O,own,e,ds,F,ev,q⟩=>h H₀ O₀ pos pins s σ H Q I ⟨O,own,e,ds,F,ev,λvs H' s r _=>q vs H' s r.rr⟩
theorem se_var {i:Nat} {n:Str} (hN:X.N[i]?=some n) (hv:Vis X.env.scope n) (hd:(n==("__debug__" : Str))=false) (hc:(n==("__classdict__" : Str))=false):SE T cf X (.var i) (.Name n pos):=λH₀ O₀=>
 PE.imp (λσ H Q ⟨O,own,e,d,F,ev,q⟩=>by
  obtain⟨v,h1,h2⟩:=F.val (i:=i) (by rw[tL]at ev;exact ev)
  exact⟨v,h1,q v H (Same.refl H) h2 (λz=>by cases z)⟩) (fA hN hv hd hc)
theorem BR {i:Nat} {n:Str} (hN:X.N[i]?=some n) (hv:Vis X.env.scope n) (hd:(n==("__debug__" : Str))=false) (hc:(n==("__classdict__" : Str))=false):SR T cf X (.rd i) (.Name n pos):=λH₀ O₀=>
 PE.imp (λσ H Q ⟨O,own,e,d,F,ev,q⟩=>by
  obtain⟨v,h1,h2⟩:=F.any (i:=i) (by rw[oP]at ev;exact ev)
  exact⟨v,h1,q v H (Same.refl H) h2⟩) (fA hN hv hd hc)
noncomputable def tY:D->Const->Bool
 |.non,.none=>true
 |.bl a,.bool b=>a==b
 |.int i,.int j=>i==j
 |.str a,.str b=>a==b
 |_,_=>false
theorem se_con{d:D}{c:Const}{k:Nat}(h:tY d c=true):SE T cf X (.con d) (.Constant c k pos):=λH₀ O₀=>by
 have fin:∀{v:V} {σ:L2.St} {H:Hp} {Q:VK},(∀H O,RD X.K H O d v)->tE T cf X.K H₀ O₀ (.con d) σ H Q->Q v H:=λhv ⟨O,own,e,d',F,ev,q⟩=>by
  rw[tM]at ev;cases ev
  exact q _ _ (Same.refl _) (hv _ _) (λz=>by cases z)
 cases d<;>cases c<;>first
  |(exact absurd (show false=true from h) aU)
  |(exact PE.imp (λσ H Q w=>fin (v:=.non) (λ_ _=>rfl) w) pe_non)
  |(have e:=eq_of_beq (show _==_ from h);subst e;first
   |exact PE.imp (λσ H Q w=>fin (λ_ _=>rfl) w) pe_bl
   |exact PE.imp (λσ H Q w=>fin (λ_ _=>rfl) w) pe_int
   |exact PE.imp (λσ H Q w=>fin (λ_ _=>rfl) w) pe_str)
noncomputable def BS(X:Cx)(n:Str)(d:D):Prop:=∃v u,X.mg n=some u/\RelV v u/\∀H O,RD X.K H O d v
theorem HG {g:Nat} {n:Str} (hg:Gl X n) (h:BS X n (T.glob g)) (hd:(n==("__debug__" : Str))=false):SE T cf X (.glob g) (.Name n pos):=λH₀ O₀=>by
 obtain⟨v,u,hm,r,hv⟩:=h
 refine PE.imp (λσ H Q hq=>?_) (FB (v:=v) hg hm r hd)
 obtain⟨O,own,e,d,F,ev,q⟩:=hq
 rw[GN]at ev;cases ev
 exact q v H (Same.refl H) (hv H O) (λz=>by cases z)
noncomputable def rD2(K:PySem.W.Frag)(f:D->D->Res D)(fr:Bool):R2:=λx y H Q=>∃O d1 d2 d,RR K H O d1 x/\RR K H O d2 y/\f d1 d2=.ok d/\(∀a,O a->∃o,H a=some o)/\∀v H',Same H H'->RD K H' O d v->(fr=true->NewL K H H' O d v)->Q v H'
theorem tZ{w:E}{pe:Expr}{f:D->D->Res D}(hw:∀e,evE T cf w e=(do let a<-evE T cf x e;let b<-evE T cf y e;f a b))
 (hop:∀{ta tb:TE},PE X p ta->PE X q tb->PE X pe (tOp (rD2 X.K f (bL T w)) ta tb)) (ha:SR T cf X x p) (hb:SR T cf X y q):SE T cf X w pe:=λH₀ O₀=>by
 refine PE.imp (λσ H Q hq=>?_) (hop (ha H₀ O₀) (hb H₀ O₀))
 obtain⟨O,own,e,d,F,ev,k⟩:=hq
 rw[hw]at ev
 obtain⟨d1,e1,ev⟩:=Res.bind_ok ev
 obtain⟨d2,e2,ev⟩:=Res.bind_ok ev
 refine⟨O,own,e,d1,F,e1,λv1 H1 s1 r1=>?_⟩
 refine⟨O,own,e,d2,F.grow s1,e2,λv2 H2 s2 r2=>?_⟩
 refine⟨O,d1,d2,d,r1.same s2,r2,ev,λa ha=>?_,λv H' s3 r3 n3=>?_⟩
 ·exact(F.grow (s1.trans s2)).trk a ha
 ·exact k v H' ((s1.trans s2).trans s3) r3 λfr=>(n3 fr).back (s1.trans s2)
end
noncomputable abbrev no:Addr->Prop:=λ_=>False
section
variable{X:Cx}{pins:List (Addr×Obj)}{σ:L2.St}{H:Hp}{s:Shared}
theorem pC(I:Inv X pins σ H s){a:Addr}{xs ys:List V}(h1:SqL X.K H a xs)(h2:SqT X.K H a ys):False:=by
 obtain⟨its,_,pl,_⟩:=I.list h1
 obtain⟨its',_,pt,_⟩:=I.tuple h2
 exact SeqAt.ne_of_list_tuple pl.isList pt rfl
theorem RD.sql{K:PySem.W.Frag}{O:Addr->Prop}{ds:List D}{v:V}(h:RD K H O (.lst ds) v):∃a xs,v=.ref a/\SqL K H a xs/\RDs K H O ds xs:=RR.lst (.inl h)
theorem BU (I:Inv X pins σ H s) {a:Addr} {ps:List (Key×V)} (h:Rd H a (.dK ps)):∃o,s.heap.get? a=some o/\o.cls=.type "dict" := by
 obtain⟨_,_,vs,_,o,es,ep,e,c,_⟩:=(show ObjOk X.prog X.w H s.heap a (.dK ps)from mH I.hok h)
 exact⟨o,e,c.1⟩
theorem pD(I:Inv X pins σ H s){a:Addr}{ps:List (Key×V)}{xs:List V}(h:Rd H a (.dK ps))(h2:SqL X.K H a xs):False:=by
 obtain⟨its,_,pl,_⟩:=I.list h2
 obtain⟨o,e,c⟩:=BU I h
 obtain⟨o',e',c',_⟩:=pl.isList
 rw[e]at e';cases e'
 rw[c]at c'
 injection c' with z
 exact absurd z (by decide)
theorem pE(I:Inv X pins σ H s){a:Addr}{ps:List (Key×V)}{xs:List V}(h:Rd H a (.dK ps))(h2:SqT X.K H a xs):False:=by
 obtain⟨its,_,pl,_⟩:=I.tuple h2
 obtain⟨o,e,c⟩:=BU I h
 obtain⟨o',e',c',_⟩:=pl
 rw[e]at e';cases e'
 rw[c]at c'
 injection c' with z
 exact absurd z (by decide)
theorem BV (I:Inv X pins σ H s) {a:Addr} {ps:List (List Key×V)} (h:Rd H a (.dT ps)):∃o,s.heap.get? a=some o/\o.cls=.type "dict" := by
 obtain⟨_,_,vs,_,o,es,ep,e,c,_⟩:=(show ObjOk X.prog X.w H s.heap a (.dT ps)from mH I.hok h)
 exact⟨o,e,c.1⟩
theorem pF(I:Inv X pins σ H s){a:Addr}{ps:List (List Key×V)}{xs:List V}(h:Rd H a (.dT ps))(h2:SqL X.K H a xs):False:=by
 obtain⟨its,_,pl,_⟩:=I.list h2
 obtain⟨o,e,c⟩:=BV I h
 obtain⟨o',e',c',_⟩:=pl.isList
 rw[e]at e';cases e'
 rw[c]at c'
 injection c' with z
 exact absurd z (by decide)
theorem pG(I:Inv X pins σ H s){a:Addr}{ps:List (List Key×V)}{xs:List V}(h:Rd H a (.dT ps))(h2:SqT X.K H a xs):False:=by
 obtain⟨its,_,pl,_⟩:=I.tuple h2
 obtain⟨o,e,c⟩:=BV I h
 obtain⟨o',e',c',_⟩:=pl
 rw[e]at e';cases e'
 rw[c]at c'
 injection c' with z
 exact absurd z (by decide)
mutual
theorem RD.inj(I:Inv X pins σ H s):∀{d d':D} {v:V},RD X.K H no d v->RD X.K H no d' v->d=d'
 |.non,d',v,h,h'=>by cases (show v=.non from h);cases d'<;>first|(obtain⟨a,xs,e,_⟩:=h';cases e;done)|rfl|(cases h';done)
 |.bl b,d',v,h,h'=>by cases (show v=.bl b from h);cases d'<;>first|(obtain⟨a,xs,e,_⟩:=h';cases e;done)|rfl|(cases h';rfl)|(cases h';done)
 |.int b,d',v,h,h'=>by cases (show v=.int b from h);cases d'<;>first|(obtain⟨a,xs,e,_⟩:=h';cases e;done)|rfl|(cases h';rfl)|(cases h';done)
 |.str b,d',v,h,h'=>by cases (show v=.str b from h);cases d'<;>first|(obtain⟨a,xs,e,_⟩:=h';cases e;done)|rfl|(cases h';rfl)|(cases h';done)
 |.tup ds,d',v,h,h'=>by
  obtain⟨a,xs,e,q,r⟩:=h
  subst e
  cases d' with
  |tup ds'=>
   obtain⟨a',xs',e,q',r'⟩:=h'
   cases e
   have:=I.tuple_inj q.sq q'.sq
   subst this
   rw[RDs.inj I r r']
  |lst ds'=>
   obtain⟨a',xs',e,q',r'⟩:=RD.sql h'
   cases e
   exact(pC I q' q.sq).elim
  |non=>cases h'
  |bl _=>cases h'
  |int _=>cases h'
  |str _=>cases h'
  |dct _=>
   obtain⟨a',xs',e,q',r'⟩:=h'
   cases e
   exact(pE I (.inr q') q.sq).elim
  |tdc _=>
   obtain⟨a',xs',e,q',r'⟩:=h'
   cases e
   exact(pG I (.inr q') q.sq).elim
 |.lst ds,d',v,h,h'=>by
  obtain⟨a,xs,e,q,r⟩:=RD.sql h
  subst e
  cases d' with
  |lst ds'=>
   obtain⟨a',xs',e,q',r'⟩:=RD.sql h'
   cases e
   have:=I.list_inj q q'
   subst this
   rw[RDs.inj I r r']
  |tup ds'=>
   obtain⟨a',xs',e,q',r'⟩:=h'
   cases e
   exact(pC I q q'.sq).elim
  |non=>cases h'
  |bl _=>cases h'
  |int _=>cases h'
  |str _=>cases h'
  |dct _=>
   obtain⟨a',xs',e,q',r'⟩:=h'
   cases e
   exact(pD I (.inr q') q).elim
  |tdc _=>
   obtain⟨a',xs',e,q',r'⟩:=h'
   cases e
   exact(pF I (.inr q') q).elim
 |.dct kvs,d',v,h,h'=>by
  obtain⟨a,xs,e,q,r⟩:=h
  subst e
  cases d' with
  |dct kvs'=>
   obtain⟨a',xs',e,q',r'⟩:=h'
   cases e
   obtain⟨o1,q⟩:=q
   obtain⟨o2,q'⟩:=q'
   have:=q.symm.trans q'
   cases this
   rw[RDk.inj I r r']
  |tup ds'=>
   obtain⟨a',xs',e,q',r'⟩:=h'
   cases e
   exact(pE I (.inr q) q'.sq).elim
  |lst ds'=>
   obtain⟨a',xs',e,q',r'⟩:=RD.sql h'
   cases e
   exact(pD I (.inr q) q').elim
  |non=>cases h'
  |bl _=>cases h'
  |int _=>cases h'
  |str _=>cases h'
  |tdc _=>
   obtain⟨a',xs',e,q',r'⟩:=h'
   cases e
   obtain⟨o1,q⟩:=q
   obtain⟨o2,q'⟩:=q'
   have:=q.symm.trans q'
   cases this
 |.tdc kvs,d',v,h,h'=>by
  obtain⟨a,xs,e,q,r⟩:=h
  subst e
  cases d' with
  |tdc kvs'=>
   obtain⟨a',xs',e,q',r'⟩:=h'
   cases e
   obtain⟨o1,q⟩:=q
   obtain⟨o2,q'⟩:=q'
   have:=q.symm.trans q'
   cases this
   rw[RDt.inj I r r']
  |tup ds'=>
   obtain⟨a',xs',e,q',r'⟩:=h'
   cases e
   exact(pG I (.inr q) q'.sq).elim
  |lst ds'=>
   obtain⟨a',xs',e,q',r'⟩:=RD.sql h'
   cases e
   exact(pF I (.inr q) q').elim
  |non=>cases h'
  |bl _=>cases h'
  |int _=>cases h'
  |str _=>cases h'
  |dct _=>
   obtain⟨a',xs',e,q',r'⟩:=h'
   cases e
   obtain⟨o1,q⟩:=q
   obtain⟨o2,q'⟩:=q'
   have:=q.symm.trans q'
   cases this
theorem RDs.inj(I:Inv X pins σ H s):∀{ds ds':List D} {vs:List V},RDs X.K H no ds vs->RDs X.K H no ds' vs->ds=ds'
 |[],[],_,_,_=>rfl
 |[],_::_,_,h,h'=>by
  rw[RDs]at h;subst h
  obtain⟨_,_,e,_⟩:=h';cases e
 |_::_,[],_,h,h'=>by
  rw[RDs]at h';subst h'
  obtain⟨_,_,e,_⟩:=h;cases e
 |d::ds,d'::ds',vs,h,h'=>by
  obtain⟨v,r,rfl,h1,h2⟩:=h
  obtain⟨v',r',e,h1',h2'⟩:=h'
  cases e
  rw[RD.inj I h1 h1',RDs.inj I h2 h2']
theorem RDk.inj(I:Inv X pins σ H s):∀{ds ds':List (Sum Int Str×D)} {vs:List (Key×V)},RDk X.K H no ds vs->RDk X.K H no ds' vs->ds=ds'
 |[],[],_,_,_=>rfl
 |[],_::_,_,h,h'=>by
  rw[RDk]at h;subst h
  obtain⟨_,_,e,_⟩:=h';cases e
 |_::_,[],_,h,h'=>by
  rw[RDk]at h';subst h'
  obtain⟨_,_,e,_⟩:=h;cases e
 |(k,d)::ds,(k',d')::ds',vs,h,h'=>by
  obtain⟨v,r,rfl,h1,h2⟩:=h
  obtain⟨v',r',e,h1',h2'⟩:=h'
  cases e
  rw[RD.inj I h1 h1',RDk.inj I h2 h2']
theorem RDt.inj(I:Inv X pins σ H s):∀{ds ds':List (List (Sum Int Str)×D)} {vs:List (List Key×V)},RDt X.K H no ds vs->RDt X.K H no ds' vs->ds=ds'
 |[],[],_,_,_=>rfl
 |[],_::_,_,h,h'=>by
  rw[RDt]at h;subst h
  obtain⟨_,_,e,_⟩:=h';cases e
 |_::_,[],_,h,h'=>by
  rw[RDt]at h';subst h'
  obtain⟨_,_,e,_⟩:=h;cases e
 |(k,d)::ds,(k',d')::ds',vs,h,h'=>by
  obtain⟨v,r,rfl,h1,h2⟩:=h
  obtain⟨v',r',e,h1',h2'⟩:=h'
  cases e
  rw[RD.inj I h1 h1',RDt.inj I h2 h2']
end
noncomputable def fY(xs ys:List D)(j:Nat):Bool:=match xs[j]?,ys[j]? with
 |some x,some y=>D.eqb x y
 |_,_=>false
theorem HH(x y:D)(xs ys:List D)(j:Nat):fY (x::xs) (y::ys) (j+1)=fY xs ys j:=by simp[fY]
theorem mT:∀xs ys:List D,xs.length=ys.length->(aD xs.length).all (fY xs ys)=D.eqs xs ys
 |[],[],_=>rfl
 |[],_::_,h=>by simp at h
 |_::_,[],h=>by simp at h
 |x::xs,y::ys,h=>by
  rw[aP,yX,oB,Eo,tB,<-mT xs ys (by simpa using h)]
  congr 1
theorem mU:∀xs ys:List D,xs.length≠ys.length->D.eqs xs ys=false
 |[],[],h=>by simp at h
 |[],_::_,_=>rfl
 |_::_,[],_=>rfl
 |x::xs,y::ys,h=>by rw[tB,mU xs ys (by simpa using h),Eg]
theorem uA{xs ys:List D}:((aD (min xs.length ys.length)).all (fY xs ys)&&xs.length==ys.length)=D.eqs xs ys:=by
 by_cases h:xs.length=ys.length
 ·rw[<-mT xs ys h,h,Nat.min_self];simp
 ·rw[mU xs ys h];simp[h]
class Fr1 (u:HO):Prop where
 no:∀o v,u≠.frz o v
noncomputable instance{ps:List (Key×V)}:Fr1 (.dK ps):=⟨λo v z=>by cases z⟩
noncomputable instance{ps:List (List Key×V)}:Fr1 (.dT ps):=⟨λo v z=>by cases z⟩
inductive Sees(X:Cx)(H:Hp)(s:Shared):D->Value->Prop
 |non:Sees X H s .non .none
 |bl (b):Sees X H s (.bl b) (.bool b)
 |int (i t):Sees X H s (.int i) (.int i t)
 |str (x t):Sees X H s (.str x) (.str x t)
 |tup (ds:List D) (a:Addr) (xs:List V) (its:List Value):SqT X.K H a xs->RDs X.K H no ds xs->Vals xs its->IsTup s.heap a its.toArray->Sees X H s (.tup ds) (.ref a)
 |lst (ds:List D) (a:Addr) (xs:List V) (its:List Value):SqL X.K H a xs->RDs X.K H no ds xs->Vals xs its->PlainL s.heap a its.toArray->Sees X H s (.lst ds) (.ref a)
 |dct (ds:List (Sum Int Str×D)) (a:Addr) (ps:List (Key×V)):Rd H a (.dK ps)->RDk X.K H no ds ps->Sees X H s (.dct ds) (.ref a)
 |tdc (ds:List (List (Sum Int Str)×D)) (a:Addr) (ps:List (List Key×V)):Rd H a (.dT ps)->RDt X.K H no ds ps->Sees X H s (.tdc ds) (.ref a)
theorem mV(I:Inv X pins σ H s){d:D}{v:V}{u:Value}(h:RD X.K H no d v)(r:RelV v u):Sees X H s d u:=by
 cases d with
 |non=>cases (show v=.non from h);cases r;exact .non
 |bl b=>cases (show v=.bl b from h);cases r;exact .bl b
 |int i=>cases (show v=.int i from h);obtain⟨t,rfl⟩:=r;exact .int i t
 |str x=>cases (show v=.str x from h);obtain⟨t,rfl⟩:=r;exact .str x t
 |tup ds=>
  obtain⟨a,xs,rfl,q,w⟩:=h
  cases r
  obtain⟨its,r1,p1,_⟩:=I.tuple q.sq
  exact .tup ds a xs its q.sq w r1 p1
 |lst ds=>
  obtain⟨a,xs,rfl,q,w⟩:=RD.sql h
  cases r
  obtain⟨its,r1,p1,_⟩:=I.list q
  exact .lst ds a xs its q w r1 p1
 |dct ds=>
  obtain⟨a,ps,rfl,q,w⟩:=h
  cases r
  exact .dct ds a ps (.inr q) w
 |tdc ds=>
  obtain⟨a,ps,rfl,q,w⟩:=h
  cases r
  exact .tdc ds a ps (.inr q) w
theorem uB(I:Inv X pins σ H s){O:Addr->Prop}{d:D}{v:V}{u:Value}(h:RR X.K H O d v)(r:RelV v u):Sees X H s d u:=by
 have w:∀{a:Addr},no a->O a:=λz=>z.elim
 rcases h with h|⟨a,rfl,h⟩
 ·exact mV I (h.weak λ_ z=>z.elim) r
 ·cases r
  cases d with
  |lst ds=>exact mV I (OwnAt.rd (O:=no) (λz=>z) rfl (h.weak λ_ z=>z.elim)) rfl
  |dct ds=>
   obtain⟨ps,h1,h2⟩:=h
   exact .dct ds a ps (.inl h1) (h2.weak λ_ z=>z.elim)
  |tdc ds=>
   obtain⟨ps,h1,h2⟩:=h
   exact .tdc ds a ps (.inl h1) (h2.weak λ_ z=>z.elim)
  |_=>exact h.elim
theorem pH{a:Addr}{u u':HO}[Fr1 u][Fr1 u'](h:Rd H a u)(h':Rd H a u'):u=u':=by
 rcases h with h|⟨o,h⟩
 ·rcases h' with h'|⟨o',h'⟩
  ·exact fS.inj (h.symm.trans h')
  ·have e:=fS.inj (h.symm.trans h')
   exact(Fr1.no (u:=u) o' u' e).elim
 ·rcases h' with h'|⟨o',h'⟩
  ·have e:=fS.inj (h'.symm.trans h)
   exact(Fr1.no (u:=u') o u e).elim
  ·have e:=fS.inj (h.symm.trans h')
   cases e;rfl
theorem fZ{ds:List D}{xs:List V}{its:List Value}(w:RDs X.K H no ds xs)(r:Vals xs its):its.length=ds.length:=by rw[<-r.length,w.length]
noncomputable def mW(X:Cx)(H:Hp)(s:Shared)(n:Nat):Prop:=∀(ds1 ds2:List D)(A:Around)(us1 us2:List Value)(xs1 xs2:List V),RDs X.K H no ds1 xs1->Vals xs1 us1->RDs X.K H no ds2 xs2->Vals xs2 us2->D.pls n ds1=true->D.pls n ds2=true->A.units+n<cLine ->
 ∀j (h1:j<us1.length) (h2:j<us2.length),SeqAt.EqAt A.in1 s us1[j] us2[j] (fY ds1 ds2 j)
noncomputable def uC(X:Cx)(H:Hp)(s:Shared)(n:Nat):Prop:=∀(d1 d2:D)(A:Around)(u1 u2:Value),Sees X H s d1 u1->Sees X H s d2 u2->D.pl n d1=true->D.pl n d2=true->A.units+n<cLine->SeqAt.EqAt A s u1 u2 (D.eqb d1 d2)
theorem BW(I:Inv X pins σ H s){n:Nat}(it:mW X H s n):uC X H s n:=by
 intro d1 d2 A u1 u2 h1 h2 f1 f2 hu
 have hu':A.units<cLine:=by lia
 have nd2:∀ds,d2≠.dct ds:=λds z=>by rw[z]at f2;cases f2
 have nt2:∀ds,d2≠.tdc ds:=λds z=>by rw[z]at f2;cases f2
 cases h1 with
 |dct ds a ps q w=>cases f1
 |tdc ds a ps q w=>cases f1
 |non=>cases h2 with
  |non=>exact SeqAt.EqAt.same _
  |bl b=>exact SeqAt.EqAt.none_bool b
  |int b t=>exact SeqAt.EqAt.none_int b t
  |str b t=>exact SeqAt.EqAt.none_str b t
  |tup ds a xs its q w r p=>exact SeqAt.EqAt.none_tuple p hu'
  |lst ds a xs its q w r p=>exact SeqAt.EqAt.none_list p.isList hu'
  |dct ds a ps q w=>exact absurd rfl (nd2 ds)
  |tdc ds a ps q w=>exact absurd rfl (nt2 ds)
 |bl x=>cases h2 with
  |non=>exact SeqAt.EqAt.bool_none x
  |bl b=>exact SeqAt.EqAt.bool_bool x b
  |int b t=>exact SeqAt.EqAt.bool_int x b t
  |str b t=>exact SeqAt.EqAt.bool_str x b t
  |tup ds a xs its q w r p=>exact SeqAt.EqAt.bool_tuple x p hu'
  |lst ds a xs its q w r p=>exact SeqAt.EqAt.bool_list x p.isList hu'
  |dct ds a ps q w=>exact absurd rfl (nd2 ds)
  |tdc ds a ps q w=>exact absurd rfl (nt2 ds)
 |int x t'=>cases h2 with
  |non=>exact SeqAt.EqAt.int_none x t'
  |bl b=>exact SeqAt.EqAt.int_bool x t' b
  |int b t=>exact SeqAt.EqAt.int_int x t' b t
  |str b t=>exact SeqAt.EqAt.int_str x t' b t
  |tup ds a xs its q w r p=>exact SeqAt.EqAt.int_tuple x t' p hu'
  |lst ds a xs its q w r p=>exact SeqAt.EqAt.int_list x t' p.isList hu'
  |dct ds a ps q w=>exact absurd rfl (nd2 ds)
  |tdc ds a ps q w=>exact absurd rfl (nt2 ds)
 |str x t'=>cases h2 with
  |non=>exact SeqAt.EqAt.str_none x t'
  |bl b=>exact SeqAt.EqAt.str_bool x t' b
  |int b t=>exact SeqAt.EqAt.str_int x t' b t
  |str b t=>exact SeqAt.EqAt.str_str x t' b t
  |tup ds a xs its q w r p=>exact SeqAt.EqAt.str_tuple x t' p hu'
  |lst ds a xs its q w r p=>exact SeqAt.EqAt.str_list x t' p.isList hu'
  |dct ds a ps q w=>exact absurd rfl (nd2 ds)
  |tdc ds a ps q w=>exact absurd rfl (nt2 ds)
 |tup ds1 a1 xs1 its1 q1 w1 r1 p1=>cases h2 with
  |non=>exact SeqAt.EqAt.tuple_none p1 hu'
  |bl b=>exact SeqAt.EqAt.tuple_bool b p1 hu'
  |int b t=>exact SeqAt.EqAt.tuple_int b t p1 hu'
  |str b t=>exact SeqAt.EqAt.tuple_str b t p1 hu'
  |lst ds a xs its q w r p=>exact SeqAt.EqAt.tuple_list p1 p.isList hu'
  |dct ds a ps q w=>exact absurd rfl (nd2 ds)
  |tdc ds a ps q w=>exact absurd rfl (nt2 ds)
  |tup ds2 a2 xs2 its2 q2 w2 r2 p2=>
   by_cases ha:a1=a2
   ·subst ha
    have:=I.tuple_inj q1 q2
    subst this
    have:=RDs.inj I w1 w2
    subst this
    rw[D.eqb_refl n _ f1]
    exact SeqAt.EqAt.same _
   ·rw[oJ,<-uA,<-fZ w1 r1,<-fZ w2 r2]
    have z:=SeqAt.EqAt.of_refs ha (SeqAt.RcAt.tuples (A:=A) (e:=fY ds1 ds2) p1 p2 hu' λj j1 j2=>by
     have:=it ds1 ds2 A its1 its2 xs1 xs2 w1 r1 w2 r2 f1 f2 hu j (by simpa using j1) (by simpa using j2)
     simpa using this)
    simpa using z
 |lst ds1 a1 xs1 its1 q1 w1 r1 p1=>cases h2 with
  |non=>exact SeqAt.EqAt.list_none p1.isList hu'
  |bl b=>exact SeqAt.EqAt.list_bool b p1.isList hu'
  |int b t=>exact SeqAt.EqAt.list_int b t p1.isList hu'
  |str b t=>exact SeqAt.EqAt.list_str b t p1.isList hu'
  |tup ds a xs its q w r p=>exact SeqAt.EqAt.list_tuple p1.isList p hu'
  |dct ds a ps q w=>exact absurd rfl (nd2 ds)
  |tdc ds a ps q w=>exact absurd rfl (nt2 ds)
  |lst ds2 a2 xs2 its2 q2 w2 r2 p2=>
   by_cases ha:a1=a2
   ·subst ha
    have:=I.list_inj q1 q2
    subst this
    have:=RDs.inj I w1 w2
    subst this
    rw[D.eqb_refl n _ f1]
    exact SeqAt.EqAt.same _
   ·have l1:=fZ w1 r1
    have l2:=fZ w2 r2
    rw[oK]
    by_cases hl:ds1.length=ds2.length
    ·rw[<-mT ds1 ds2 hl,<-l1]
     have z:=SeqAt.EqAt.of_refs ha (SeqAt.RcAt.lists (A:=A) (e:=fY ds1 ds2) p1.isList p2.isList (by simp only[bP];lia) hu' λj j1 j2=>by
      have:=it ds1 ds2 A its1 its2 xs1 xs2 w1 r1 w2 r2 f1 f2 hu j (by simpa using j1) (by simpa using j2)
      simpa using this)
     simpa using z
    ·rw[mU ds1 ds2 hl]
     exact SeqAt.EqAt.of_refs ha (SeqAt.RcAt.lists_lengths p1.isList p2.isList (by simp only[bP,bne_iff_ne,ne_eq];lia) hu')
theorem HI:mW X H s 0:=by
 intro ds1 ds2 A us1 us2 xs1 xs2 w1 r1 w2 r2 f1 f2 hu j h1 h2
 cases ds1 with
 |nil=>
  rw[RDs]at w1;subst w1
  cases r1
  exact absurd h1 (zG _)
 |cons d ds=>cases f1
theorem HJ(I:Inv X pins σ H s){n:Nat}(ih:uC X H s n):mW X H s (n+1):=by
 intro ds1
 induction ds1 with
 |nil=>
  intro ds2 A us1 us2 xs1 xs2 w1 r1 w2 r2 f1 f2 hu j h1 h2
  rw[RDs]at w1;subst w1
  cases r1
  exact absurd h1 (zG _)
 |cons d1 ds1 ih2=>
  intro ds2 A us1 us2 xs1 xs2 w1 r1 w2 r2 f1 f2 hu j h1 h2
  cases ds2 with
  |nil=>
   rw[RDs]at w2;subst w2
   cases r2
   exact absurd h2 (zG _)
  |cons d2 ds2=>
   obtain⟨v1,y1,rfl,e1,w1⟩:=w1
   obtain⟨v2,y2,rfl,e2,w2⟩:=w2
   cases r1 with
   |cons a1 r1=>
    cases r2 with
    |cons a2 r2=>
     rw[tD,aH]at f1 f2
     cases j with
     |zero=>exact ih d1 d2 A.in1 _ _ (mV I e1 a1) (mV I e2 a2) f1.1 f2.1 (by show A.units+1+n<cLine;lia)
     |succ j=>
      rw[HH]
      exact ih2 ds2 A _ _ _ _ w1 r1 w2 r2 f1.2 f2.2 hu j (Ln h1) (Ln h2)
theorem uD(I:Inv X pins σ H s):∀n,mW X H s n
 |0=>HI
 |n+1=>HJ I (BW I (uD I n))
theorem eqAt_D(I:Inv X pins σ H s)(n:Nat):uC X H s n:=BW I (uD I n)
theorem pI(I:Inv X pins σ H s)(n:Nat):mW X H s n:=uD I n
end
theorem bU{H:Hp}{p:Addr}(h:H p=none)(o:HO):Same H (upd H p o):=λb u q=>by rw[aL (hZ q h)];exact q
section
variable{K:PySem.W.Frag}{H:Hp}{O:Addr->Prop}{p:Addr}{ds:List D}{xs:List V}
theorem iU(w:RDs K H O ds xs)(hp:H p=none)(tr:∀a,O a->∃o,H a=some o):RD K (upd H p (.lst xs)) O (.lst ds) (.ref p)/\NewL K H (upd H p (.lst xs)) O (.lst ds) (.ref p):=by
 have nO:¬O p:=λz=>by
  obtain⟨o,q⟩:=tr p z
  rw[hp]at q;cases q
 exact⟨⟨p,xs,rfl,.inl ⟨nO,.inl bS⟩,w.same (bU hp _)⟩,λ_=>⟨p,rfl,hp,xs,bS,(w.new hp).same (bU hp _)⟩⟩
theorem HK{ds:List (Sum Int Str×D)}{ps:List (Key×V)}(w:RDk K H O ds ps)(hp:H p=none):OwnAt K (upd H p (.dK ps)) (cZ O p) p (.dct ds):=⟨ps,bS,(w.new hp).same (bU hp _)⟩
theorem HL{ds:List (List (Sum Int Str)×D)}{ps:List (List Key×V)}(w:RDt K H O ds ps)(hp:H p=none):OwnAt K (upd H p (.dT ps)) (cZ O p) p (.tdc ds):=⟨ps,bS,(w.new hp).same (bU hp _)⟩
theorem mX(w:RDs K H O ds xs)(hp:H p=none):RD K (upd H p (.tup xs)) O (.tup ds) (.ref p):=⟨p,xs,rfl,.inl bS,w.same (bU hp _)⟩
end
section
variable{X:Cx}{pins:List (Addr×Obj)}{σ:L2.St}{H:Hp}{s:Shared}
theorem rcAt_D(I:Inv X pins σ H s){n:Nat}{d1 d2:D}{A:Around}{u1 u2:Value}(h1:Sees X H s d1 u1)(h2:Sees X H s d2 u2)(f1:D.pl n d1=true)(f2:D.pl n d2=true)(hu:A.units+n<cLine):SeqAt.RcAt A s u1 u2 (D.eqb d1 d2):=by
 have hu':A.units<cLine:=by lia
 have nd2:∀ds,d2≠.dct ds:=λds z=>by rw[z]at f2;cases f2
 have nt2:∀ds,d2≠.tdc ds:=λds z=>by rw[z]at f2;cases f2
 cases h1 with
 |dct ds a ps q w=>cases f1
 |tdc ds a ps q w=>cases f1
 |non=>cases h2 with
  |non=>exact SeqAt.RcAt.none_none
  |bl b=>exact SeqAt.RcAt.none_bool b
  |int b t=>exact SeqAt.RcAt.none_int b t
  |str b t=>exact SeqAt.RcAt.none_str b t
  |tup ds a xs its q w r p=>exact SeqAt.RcAt.none_tuple p hu'
  |lst ds a xs its q w r p=>exact SeqAt.RcAt.none_list p.isList hu'
  |dct ds a ps q w=>exact absurd rfl (nd2 ds)
  |tdc ds a ps q w=>exact absurd rfl (nt2 ds)
 |bl x=>cases h2 with
  |non=>exact SeqAt.RcAt.bool_none x
  |bl b=>exact SeqAt.RcAt.bool_bool x b
  |int b t=>exact SeqAt.RcAt.bool_int x b t
  |str b t=>exact SeqAt.RcAt.bool_str x b t
  |tup ds a xs its q w r p=>exact SeqAt.RcAt.bool_tuple x p hu'
  |lst ds a xs its q w r p=>exact SeqAt.RcAt.bool_list x p.isList hu'
  |dct ds a ps q w=>exact absurd rfl (nd2 ds)
  |tdc ds a ps q w=>exact absurd rfl (nt2 ds)
 |int x t'=>cases h2 with
  |non=>exact SeqAt.RcAt.int_none x t'
  |bl b=>exact SeqAt.RcAt.int_bool x t' b
  |int b t=>exact SeqAt.RcAt.int_int x t' b t
  |str b t=>exact SeqAt.RcAt.int_str x t' b t
  |tup ds a xs its q w r p=>exact SeqAt.RcAt.int_tuple x t' p hu'
  |lst ds a xs its q w r p=>exact SeqAt.RcAt.int_list x t' p.isList hu'
  |dct ds a ps q w=>exact absurd rfl (nd2 ds)
  |tdc ds a ps q w=>exact absurd rfl (nt2 ds)
 |str x t'=>cases h2 with
  |non=>exact SeqAt.RcAt.str_none x t'
  |bl b=>exact SeqAt.RcAt.str_bool x t' b
  |int b t=>exact SeqAt.RcAt.str_int x t' b t
  |str b t=>exact SeqAt.RcAt.str_str x t' b t
  |tup ds a xs its q w r p=>exact SeqAt.RcAt.str_tuple x t' p hu'
  |lst ds a xs its q w r p=>exact SeqAt.RcAt.str_list x t' p.isList hu'
  |dct ds a ps q w=>exact absurd rfl (nd2 ds)
  |tdc ds a ps q w=>exact absurd rfl (nt2 ds)
 |tup ds1 a1 xs1 its1 q1 w1 r1 p1=>cases h2 with
  |non=>exact SeqAt.RcAt.tuple_none p1 hu'
  |bl b=>exact SeqAt.RcAt.tuple_bool b p1 hu'
  |int b t=>exact SeqAt.RcAt.tuple_int b t p1 hu'
  |str b t=>exact SeqAt.RcAt.tuple_str b t p1 hu'
  |lst ds a xs its q w r p=>exact SeqAt.RcAt.tuple_list p1 p.isList hu'
  |dct ds a ps q w=>exact absurd rfl (nd2 ds)
  |tdc ds a ps q w=>exact absurd rfl (nt2 ds)
  |tup ds2 a2 xs2 its2 q2 w2 r2 p2=>
   rw[oJ,<-uA,<-fZ w1 r1,<-fZ w2 r2]
   have z:=SeqAt.RcAt.tuples (A:=A) (e:=fY ds1 ds2) p1 p2 hu' λj j1 j2=>by
    have:=pI I n ds1 ds2 A its1 its2 xs1 xs2 w1 r1 w2 r2 f1 f2 hu j (by simpa using j1) (by simpa using j2)
    simpa using this
   simpa using z
 |lst ds1 a1 xs1 its1 q1 w1 r1 p1=>cases h2 with
  |non=>exact SeqAt.RcAt.list_none p1.isList hu'
  |bl b=>exact SeqAt.RcAt.list_bool b p1.isList hu'
  |int b t=>exact SeqAt.RcAt.list_int b t p1.isList hu'
  |str b t=>exact SeqAt.RcAt.list_str b t p1.isList hu'
  |tup ds a xs its q w r p=>exact SeqAt.RcAt.list_tuple p1.isList p hu'
  |dct ds a ps q w=>exact absurd rfl (nd2 ds)
  |tdc ds a ps q w=>exact absurd rfl (nt2 ds)
  |lst ds2 a2 xs2 its2 q2 w2 r2 p2=>
   have l1:=fZ w1 r1
   have l2:=fZ w2 r2
   rw[oK]
   by_cases hl:ds1.length=ds2.length
   ·rw[<-mT ds1 ds2 hl,<-l1]
    have z:=SeqAt.RcAt.lists (A:=A) (e:=fY ds1 ds2) p1.isList p2.isList (by simp only[bP];lia) hu' λj j1 j2=>by
     have:=pI I n ds1 ds2 A its1 its2 xs1 xs2 w1 r1 w2 r2 f1 f2 hu j (by simpa using j1) (by simpa using j2)
     simpa using this
    simpa using z
   ·rw[mU ds1 ds2 hl]
    exact SeqAt.RcAt.lists_lengths p1.isList p2.isList (by simp only[bP,bne_iff_ne,ne_eq];lia) hu'
theorem HM(I:Inv X pins σ H s){n:Nat}{d1 d2:D}{A:Around}{u1 u2:Value}(h1:Sees X H s d1 u1)(h2:Sees X H s d2 u2)(f1:D.pl n d1=true)(f2:D.pl n d2=true)(hu:A.units+n<cLine):SeqAt.RcNeAt A s u1 u2 (!D.eqb d1 d2):=by
 have hu':A.units<cLine:=by lia
 have nd2:∀ds,d2≠.dct ds:=λds z=>by rw[z]at f2;cases f2
 have nt2:∀ds,d2≠.tdc ds:=λds z=>by rw[z]at f2;cases f2
 cases h1 with
 |dct ds a ps q w=>cases f1
 |tdc ds a ps q w=>cases f1
 |non=>cases h2 with
  |non=>exact SeqAt.RcNeAt.none_none
  |bl b=>exact SeqAt.RcNeAt.none_bool b
  |int b t=>exact SeqAt.RcNeAt.none_int b t
  |str b t=>exact SeqAt.RcNeAt.none_str b t
  |tup ds a xs its q w r p=>exact SeqAt.RcNeAt.none_tuple p hu'
  |lst ds a xs its q w r p=>exact SeqAt.RcNeAt.none_list p.isList hu'
  |dct ds a ps q w=>exact absurd rfl (nd2 ds)
  |tdc ds a ps q w=>exact absurd rfl (nt2 ds)
 |bl x=>cases h2 with
  |non=>exact SeqAt.RcNeAt.bool_none x
  |bl b=>exact SeqAt.RcNeAt.bool_bool x b
  |int b t=>exact SeqAt.RcNeAt.bool_int x b t
  |str b t=>exact SeqAt.RcNeAt.bool_str x b t
  |tup ds a xs its q w r p=>exact SeqAt.RcNeAt.bool_tuple x p hu'
  |lst ds a xs its q w r p=>exact SeqAt.RcNeAt.bool_list x p.isList hu'
  |dct ds a ps q w=>exact absurd rfl (nd2 ds)
  |tdc ds a ps q w=>exact absurd rfl (nt2 ds)
 |int x t'=>cases h2 with
  |non=>exact SeqAt.RcNeAt.int_none x t'
  |bl b=>exact SeqAt.RcNeAt.int_bool x t' b
  |int b t=>exact SeqAt.RcNeAt.int_int x t' b t
  |str b t=>exact SeqAt.RcNeAt.int_str x t' b t
  |tup ds a xs its q w r p=>exact SeqAt.RcNeAt.int_tuple x t' p hu'
  |lst ds a xs its q w r p=>exact SeqAt.RcNeAt.int_list x t' p.isList hu'
  |dct ds a ps q w=>exact absurd rfl (nd2 ds)
  |tdc ds a ps q w=>exact absurd rfl (nt2 ds)
 |str x t'=>cases h2 with
  |non=>exact SeqAt.RcNeAt.str_none x t'
  |bl b=>exact SeqAt.RcNeAt.str_bool x t' b
  |int b t=>exact SeqAt.RcNeAt.str_int x t' b t
  |str b t=>exact SeqAt.RcNeAt.str_str x t' b t
  |tup ds a xs its q w r p=>exact SeqAt.RcNeAt.str_tuple x t' p hu'
  |lst ds a xs its q w r p=>exact SeqAt.RcNeAt.str_list x t' p.isList hu'
  |dct ds a ps q w=>exact absurd rfl (nd2 ds)
  |tdc ds a ps q w=>exact absurd rfl (nt2 ds)
 |tup ds1 a1 xs1 its1 q1 w1 r1 p1=>cases h2 with
  |non=>exact SeqAt.RcNeAt.tuple_none p1 hu'
  |bl b=>exact SeqAt.RcNeAt.tuple_bool b p1 hu'
  |int b t=>exact SeqAt.RcNeAt.tuple_int b t p1 hu'
  |str b t=>exact SeqAt.RcNeAt.tuple_str b t p1 hu'
  |lst ds a xs its q w r p=>exact SeqAt.RcNeAt.tuple_list p1 p.isList hu'
  |dct ds a ps q w=>exact absurd rfl (nd2 ds)
  |tdc ds a ps q w=>exact absurd rfl (nt2 ds)
  |tup ds2 a2 xs2 its2 q2 w2 r2 p2=>
   rw[oJ,<-uA,<-fZ w1 r1,<-fZ w2 r2]
   have z:=SeqAt.RcNeAt.tuples (A:=A) (e:=fY ds1 ds2) p1 p2 hu' λj j1 j2=>by
    have:=pI I n ds1 ds2 A its1 its2 xs1 xs2 w1 r1 w2 r2 f1 f2 hu j (by simpa using j1) (by simpa using j2)
    simpa using this
   simpa using z
 |lst ds1 a1 xs1 its1 q1 w1 r1 p1=>cases h2 with
  |non=>exact SeqAt.RcNeAt.list_none p1.isList hu'
  |bl b=>exact SeqAt.RcNeAt.list_bool b p1.isList hu'
  |int b t=>exact SeqAt.RcNeAt.list_int b t p1.isList hu'
  |str b t=>exact SeqAt.RcNeAt.list_str b t p1.isList hu'
  |tup ds a xs its q w r p=>exact SeqAt.RcNeAt.list_tuple p1.isList p hu'
  |dct ds a ps q w=>exact absurd rfl (nd2 ds)
  |tdc ds a ps q w=>exact absurd rfl (nt2 ds)
  |lst ds2 a2 xs2 its2 q2 w2 r2 p2=>
   have l1:=fZ w1 r1
   have l2:=fZ w2 r2
   rw[oK]
   by_cases hl:ds1.length=ds2.length
   ·rw[<-mT ds1 ds2 hl,<-l1]
    have z:=SeqAt.RcNeAt.lists (A:=A) (e:=fY ds1 ds2) p1.isList p2.isList (by simp only[bP];lia) hu' λj j1 j2=>by
     have:=pI I n ds1 ds2 A its1 its2 xs1 xs2 w1 r1 w2 r2 f1 f2 hu j (by simpa using j1) (by simpa using j2)
     simpa using this
    simpa using z
   ·rw[mU ds1 ds2 hl]
    exact SeqAt.RcNeAt.lists_lengths p1.isList p2.isList (by simp only[bP,bne_iff_ne,ne_eq];lia) hu'
end
section
variable{X:Cx}
theorem fN:big=sizeLine:=by rw[sizeLine_eq];rfl
theorem HN:OpR X (binaryOp .Add) (λx y H Q=>∃l b xs zs,x=.ref l/\y=.ref b/\SqL X.K H l xs/\SqL X.K H b zs/\xs.length+zs.length<=sizeLine/\∀p,H p=none->Q (.ref p) (upd H p (.lst (xs++zs)))):=by
 intro pins s σ H x y v u Q I rx ry h
 obtain⟨l,b,xs,zs,rfl,rfl,hH,hB,hz,q⟩:=h
 cases rx
 cases ry
 obtain⟨its,r,pl,z⟩:=I.list hH
 obtain⟨its2,r2,pl2,z2⟩:=I.list hB
 have hl:=r.length
 have hl2:=r2.length
 obtain⟨⟨cls,dd,data,sl⟩,ho,hc,n,hd⟩:=pl.isList
 obtain⟨⟨cls2,dd2,data2,sl2⟩,ho2,hc2,n2,hd2⟩:=pl2.isList
 simp only at hc hd hc2 hd2
 subst hc hd hc2 hd2
 have ea:its.toArray++its2.toArray=(its++its2).toArray:=by simp
 refine concat_meets ⟨_,ho,rfl⟩ ⟨_,ho2,rfl⟩ noFill_list_add seq_list_add PySem.F.slot_list_add PySem.F.entry_list_add (PySem.F.args_list_add_2 _ _) (list_addW l b its.toArray its2.toArray n n2 dd dd2 sl sl2 (by simp only[bP];lia)) ⟨ho,ho2,?_⟩
 rw[ea]
 exact⟨.ref _,_,I.lnew (t':=s.toks) (r.append r2) (by rw[bR];lia),rfl,q _ I.fresh⟩
theorem HQ:OpR X (binaryOp .Add) (λx y H Q=>∃a b xs ys,x=.ref a/\y=.ref b/\SqT X.K H a xs/\SqT X.K H b ys/\xs.length+ys.length<=sizeLine /\
 (xs=[]->Q (.ref b) H)/\(ys=[]->Q (.ref a) H)/\∀p,H p=none->Q (.ref p) (upd H p (.tup (xs++ys)))):=by
 intro pins s σ H x y v u Q I rx ry h
 obtain⟨a,b,xs,ys,rfl,rfl,ha,hb,hz,q0,q1,q2⟩:=h
 by_cases hx:xs=[]
 ·cases rx
  cases ry
  obtain⟨its,r1,p1,_⟩:=I.tuple ha
  obtain⟨its2,r2,p2,_⟩:=I.tuple hb
  obtain⟨⟨cls,dd,data,sl⟩,ho,hc,n,hd⟩:=id p1
  obtain⟨⟨cls2,dd2,data2,sl2⟩,ho2,hc2,n2,hd2⟩:=id p2
  simp only at hc hd hc2 hd2
  subst hc hd hc2 hd2
  have hv:its=[]:=r1.nil_iff.mpr hx
  exact concat_meets ⟨_,ho,rfl⟩ ⟨_,ho2,rfl⟩ noFill_tuple_add seq_tuple_add PySem.F.slot_tuple_add PySem.F.entry_tuple_add (PySem.F.args_tuple_add_2 _ _)
   (tuple_addW0 a b its.toArray its2.toArray n n2 dd dd2 sl sl2 (by simp[hv])) ⟨ho,ho2,⟨.ref b,H,I,rfl,q0 hx⟩⟩
 ·exact Fd pins s σ H _ _ v u Q I rx ry ⟨a,b,xs,ys,rfl,rfl,ha,hb,hx,hz,q1,λ_=>q2⟩
end
section
variable{X:Cx}
noncomputable def gA(X:Cx):Prop:=X.A.units+64<cLine
theorem RDs.rep{K:PySem.W.Frag}{H:Hp}{O:Addr->Prop}{ds:List D}{vs:List V}(h:RDs K H O ds vs):∀n:Nat,RDs K H O (aW n ds).flatten (aW n vs).flatten
 |0=>rfl
 |n+1=>by
  rw[lT,lT,nY,nY]
  exact RDs.append h (RDs.rep h n)
theorem HR(o:Operator)(fr:Bool)(hfr:fr=true->o=.Add):OpR X (binaryOp o) (rD2 X.K (D.bin o) fr):=by
 intro pins s σ H x y v u Q I rx ry h
 obtain⟨O,d1,d2,d,r1,r2,ev,tr,k⟩:=h
 have kk:∀w,d.still=true->RD X.K H O d w->Q w H:=λw n r=>k w H (Same.refl H) r λ_=>NewL.still n
 unfold D.bin at ev
 split at ev
 ·cases ev
  cases (show x=_ from r1.rd rfl)
  cases (show y=_ from r2.rd rfl)
  exact op_add pins s σ H _ _ v u Q I rx ry ⟨_,_,rfl,rfl,kk _ rfl rfl⟩
 ·obtain⟨c,ev⟩:=aV ev
  cases ev
  cases (show x=_ from r1.rd rfl)
  cases (show y=_ from r2.rd rfl)
  exact FW pins s σ H _ _ v u Q I rx ry ⟨_,_,rfl,rfl,by rw[<-fN];exact of_decide_eq_true c,kk _ rfl rfl⟩
 ·obtain⟨c,ev⟩:=aV ev
  cases ev
  obtain⟨a1,xs1,rfl,q1,w1⟩:=r1.lst
  obtain⟨a2,xs2,rfl,q2,w2⟩:=r2.lst
  refine HN pins s σ H _ _ v u Q I rx ry ⟨a1,a2,xs1,xs2,rfl,rfl,q1,q2,by rw[<-fN,w1.length,w2.length];exact of_decide_eq_true c,λp hp=>?_⟩
  have z:=iU (w1.append w2) hp tr
  exact k _ _ (bU hp _) z.1 λ_=>z.2
 ·obtain⟨c,ev⟩:=aV ev
  cases ev
  obtain⟨a1,xs1,rfl,q1,w1⟩:=r1.tupV
  obtain⟨a2,xs2,rfl,q2,w2⟩:=r2.tupV
  refine HQ pins s σ H _ _ v u Q I rx ry ⟨a1,a2,xs1,xs2,rfl,rfl,q1.sq,q2.sq,by rw[<-fN,w1.length,w2.length];exact of_decide_eq_true c,λz=>?_,λz=>?_,λp hp=>?_⟩
  ·subst z
   have e:=w1.length
   have e':_=[]:=Ei e.symm
   subst e'
   exact kk _ rfl ⟨a2,xs2,rfl,q2,by simpa using w2⟩
  ·subst z
   have e:=w2.length
   have e':_=[]:=Ei e.symm
   subst e'
   exact kk _ rfl ⟨a1,xs1,rfl,q1,by simpa using w1⟩
  ·have z:=mX (w1.append w2) hp
   exact k _ _ (bU hp _) z λ_=>NewL.still rfl
 ·cases ev
  cases (show x=_ from r1.rd rfl)
  cases (show y=_ from r2.rd rfl)
  exact op_sub pins s σ H _ _ v u Q I rx ry ⟨_,_,rfl,rfl,kk _ rfl rfl⟩
 ·obtain⟨c,ev⟩:=aV ev
  cases ev
  cases (show x=_ from r1.rd rfl)
  cases (show y=_ from r2.rd rfl)
  refine op_mul pins s σ H _ _ v u Q I rx ry ⟨_,_,rfl,rfl,?_,kk _ rfl rfl⟩
  simp only[iQ,fV,aH,decide_eq_true_eq]at c
  exact c
 ·rename_i aa jj
  obtain⟨c,ev⟩:=aV ev
  cases ev
  simp only[aH,decide_eq_true_eq]at c
  obtain⟨a1,xs1,rfl,q1,w1⟩:=r1.lst
  cases (show y=_ from r2.rd rfl)
  cases rx
  obtain⟨t,rfl⟩:=ry
  obtain⟨its,r,⟨⟨cls0,dd0,dat0,sl0⟩,n0,pl,pc,_,pd⟩,hz⟩:=I.list q1
  dsimp only at pc pd
  subst pc pd
  have hl1:its.length=1:=by rw[<-r.length,w1.length];exact c.1.1
  refine HD pl hl1 ⟨c.1.2,c.2⟩ ?_
  have hp:=I.hok.fresh (aN s.heap.objs.size)
  have hlen:(aW jj.toNat xs1).flatten.length<=sizeLine:=by
   rw[Fw,w1.length,c.1.1,sizeLine_eq]
   have:=c.2
   lia
  refine⟨.ref s.heap.objs.size,_,I.laid (o:=.lst (aW jj.toNat xs1).flatten) (t':=s.toks) (λb u e=>Heap.get?_push_of_some _ e) (aN _) ⟨hlen,_,0,r.rep _,Heap.get?_push_size _ rfl⟩,rfl,?_⟩
  have z:=iU (w1.rep jj.toNat) hp tr
  exact k _ _ (bU hp _) z.1 λ_=>z.2
 ·obtain⟨c,ev⟩:=aV ev
  cases ev
  cases (show x=_ from r1.rd rfl)
  cases (show y=_ from r2.rd rfl)
  refine FP pins s σ H _ _ v u Q I rx ry ⟨_,_,rfl,rfl,?_,kk _ rfl rfl⟩
  simp only[aH,decide_eq_true_eq]at c
  exact c
 ·obtain⟨c,ev⟩:=aV ev
  cases ev
  cases (show x=_ from r1.rd rfl)
  cases (show y=_ from r2.rd rfl)
  exact op_mod pins s σ H _ _ v u Q I rx ry ⟨_,_,rfl,rfl,of_decide_eq_true c,kk _ rfl rfl⟩
 ·obtain⟨c,ev⟩:=aV ev
  cases ev
  cases (show x=_ from r1.rd rfl)
  cases (show y=_ from r2.rd rfl)
  refine op_pow pins s σ H _ _ v u Q I rx ry ⟨_,_,rfl,rfl,?_,kk _ rfl rfl⟩
  simp only[aH,decide_eq_true_eq]at c
  exact⟨c.1.1,c.1.2,c.2⟩
 ·cases ev
theorem pJ{K:PySem.W.Frag}{H:Hp}{O:Addr->Prop}{k:Key}:∀{ds:List (Sum Int Str×D)} {ps:List (Key×V)},RDk K H O ds ps->(∀d,bG ds k=some d->∃v,fB ps k=some v/\RD K H O d v)/\(bG ds k).isSome=(fB ps k).isSome
 |[],ps,h=>by
  rw[RDk]at h;subst h
  exact⟨λd e=>(by cases e),rfl⟩
 |(k',d')::ds,ps,h=>by
  obtain⟨v,r,rfl,h1,h2⟩:=h
  have ih:=pJ (k:=k) h2
  by_cases e:k'=k
  ·subst e
   have e1:bG ((k',d')::ds) k'=some d':=by simp[bG,cJ]
   rw[e1,mD (p:=(k',v)) rfl]
   exact⟨λd z=>(by cases z;exact⟨v,rfl,h1⟩),rfl⟩
  ·have e1:bG ((k',d')::ds) k=bG ds k:=by simp[bG,cJ,e]
   rw[e1,mF (p:=(k',v)) e]
   exact ih
theorem BX{K:PySem.W.Frag}{H:Hp}{O:Addr->Prop}{k:Key}{d:D}{v:V}(hv:RD K H O d v){ds:List (Sum Int Str×D)}{ps:List (Key×V)}(h:RDk K H O ds ps):RDk K H O (dQ ds k d) (cX ps k v):=by
 have any:∀{ds:List (Sum Int Str×D)} {ps:List (Key×V)},RDk K H O ds ps->(ds.any λkv=>decide (kv.1=k))=(ps.any λkv=>decide (kv.1=k)):=by
  intro ds
  induction ds with
  |nil=>intro ps h;rw[RDk]at h;subst h;rfl
  |cons p ds ih=>
   intro ps h
   obtain⟨k',d'⟩:=p
   obtain⟨v',r,rfl,h1,h2⟩:=h
   rw[iM,iM,ih h2]
 have mp:∀{ds:List (Sum Int Str×D)} {ps:List (Key×V)},RDk K H O ds ps->RDk K H O (ds.map (λkv=>if kv.1=k then(kv.1,d)else kv)) (ps.map (λkv=>if kv.1=k then(kv.1,v)else kv)):=by
  intro ds
  induction ds with
  |nil=>intro ps h;rw[RDk]at h;subst h;exact rfl
  |cons p ds ih=>
   intro ps h
   obtain⟨k',d'⟩:=p
   obtain⟨v',r,rfl,h1,h2⟩:=h
   rw[aK,aK]
   by_cases e:k'=k
   ·rw[if_pos e,if_pos e];exact⟨v,_,rfl,hv,ih h2⟩
   ·rw[if_neg e,if_neg e];exact⟨v',_,rfl,h1,ih h2⟩
 have ap:∀{ds:List (Sum Int Str×D)} {ps:List (Key×V)},RDk K H O ds ps->RDk K H O (ds++[(k,d)]) (ps++[(k,v)]):=by
  intro ds
  induction ds with
  |nil=>intro ps h;rw[RDk]at h;subst h;exact⟨v,[],rfl,hv,rfl⟩
  |cons p ds ih=>
   intro ps h
   obtain⟨k',d'⟩:=p
   obtain⟨v',r,rfl,h1,h2⟩:=h
   exact⟨v',_,rfl,h1,ih h2⟩
 unfold dQ cX
 rw[any h]
 split
 ·exact mp h
 ·exact ap h
theorem pK{K:PySem.W.Frag}{H:Hp}{O:Addr->Prop}{k:List Key}:∀{ds:List (List (Sum Int Str)×D)} {ps:List (List Key×V)},RDt K H O ds ps->(∀d,fL ds k=some d->∃v,fB ps k=some v/\RD K H O d v)/\(fL ds k).isSome=(fB ps k).isSome
 |[],ps,h=>by
  rw[RDt]at h;subst h
  exact⟨λd e=>(by cases e),rfl⟩
 |(k',d')::ds,ps,h=>by
  obtain⟨v,r,rfl,h1,h2⟩:=h
  have ih:=pK (k:=k) h2
  by_cases e:k'=k
  ·subst e
   have e1:fL ((k',d')::ds) k'=some d':=by simp[fL,cJ]
   rw[e1,mD (p:=(k',v)) rfl]
   exact⟨λd z=>(by cases z;exact⟨v,rfl,h1⟩),rfl⟩
  ·have e1:fL ((k',d')::ds) k=fL ds k:=by simp[fL,cJ,e]
   rw[e1,mF (p:=(k',v)) e]
   exact ih
theorem HS{K:PySem.W.Frag}{H:Hp}{O:Addr->Prop}{k:List Key}{d:D}{v:V}(hv:RD K H O d v){ds:List (List (Sum Int Str)×D)}{ps:List (List Key×V)}(h:RDt K H O ds ps):RDt K H O (jZ ds k d) (cX ps k v):=by
 have any:∀{ds:List (List (Sum Int Str)×D)} {ps:List (List Key×V)},RDt K H O ds ps->(ds.any λkv=>decide (kv.1=k))=(ps.any λkv=>decide (kv.1=k)):=by
  intro ds
  induction ds with
  |nil=>intro ps h;rw[RDt]at h;subst h;rfl
  |cons p ds ih=>
   intro ps h
   obtain⟨k',d'⟩:=p
   obtain⟨v',r,rfl,h1,h2⟩:=h
   rw[iM,iM,ih h2]
 have mp:∀{ds:List (List (Sum Int Str)×D)} {ps:List (List Key×V)},RDt K H O ds ps->RDt K H O (ds.map (λkv=>if kv.1=k then(kv.1,d)else kv)) (ps.map (λkv=>if kv.1=k then(kv.1,v)else kv)):=by
  intro ds
  induction ds with
  |nil=>intro ps h;rw[RDt]at h;subst h;exact rfl
  |cons p ds ih=>
   intro ps h
   obtain⟨k',d'⟩:=p
   obtain⟨v',r,rfl,h1,h2⟩:=h
   rw[aK,aK]
   by_cases e:k'=k
   ·rw[if_pos e,if_pos e];exact⟨v,_,rfl,hv,ih h2⟩
   ·rw[if_neg e,if_neg e];exact⟨v',_,rfl,h1,ih h2⟩
 have ap:∀{ds:List (List (Sum Int Str)×D)} {ps:List (List Key×V)},RDt K H O ds ps->RDt K H O (ds++[(k,d)]) (ps++[(k,v)]):=by
  intro ds
  induction ds with
  |nil=>intro ps h;rw[RDt]at h;subst h;exact⟨v,[],rfl,hv,rfl⟩
  |cons p ds ih=>
   intro ps h
   obtain⟨k',d'⟩:=p
   obtain⟨v',r,rfl,h1,h2⟩:=h
   exact⟨v',_,rfl,h1,ih h2⟩
 unfold jZ cX
 rw[any h]
 split
 ·exact mp h
 ·exact ap h
theorem lE{K:PySem.W.Frag}{H:Hp}{O:Addr->Prop}{d:D}{v:V}{k:Key}(h:dP d=some k)(r:RR K H O d v):v=kV k:=by
 cases d with
 |int i=>cases h;exact r.rd rfl
 |str i=>cases h;exact r.rd rfl
 |non=>cases h
 |bl _=>cases h
 |tup _=>cases h
 |lst _=>cases h
 |dct _=>cases h
 |tdc _=>cases h
theorem BY:∀{ds:List D} {ks:List Key},fK ds=some ks->lA ds=some ks/\∀k∈ks,∃i,k=.inl i
 |[],ks,h=>by cases h;exact⟨rfl,λk hk=>by cases hk⟩
 |.int i::r,ks,h=>by
  rw[fK]at h
  cases e:fK r with
  |none=>rw[e]at h;cases h
  |some q=>
   rw[e]at h
   cases h
   obtain⟨h1,h2⟩:=BY e
   refine⟨by rw[lA,h1];rfl,λk hk=>?_⟩
   rcases aO.mp hk with rfl|hk
   ·exact⟨i,rfl⟩
   ·exact h2 k hk
 |.non::_,_,h | .bl _::_,_,h | .str _::_,_,h | .tup _::_,_,h | .lst _::_,_,h | .dct _::_,_,h | .tdc _::_,_,h=>by cases h
theorem BZ{K:PySem.W.Frag}{H:Hp}{O:Addr->Prop}:∀{ds:List D} {ks:List Key} {vs:List V},lA ds=some ks->RDs K H O ds vs->vs=ks.map kV
 |[],ks,vs,h,r=>by
  cases h
  rw[RDs]at r;subst r;rfl
 |d::ds,ks,vs,h,r=>by
  obtain⟨v,q,rfl,r1,r2⟩:=r
  rw[lA]at h
  cases e1:dP d with
  |none=>rw[e1]at h;cases h
  |some k=>
   rw[e1]at h
   cases e2:lA ds with
   |none=>rw[e2]at h;cases h
   |some ks'=>
    rw[e2]at h
    cases h
    rw[lE e1 r1.rr,BZ e2 r2];rfl
theorem pL{K:PySem.W.Frag}{H:Hp}{O:Addr->Prop}{ds:List D}{ks:List Key}{xs:List V}{b:Addr}(h:fK ds=some ks)(w:RDs K H O ds xs)(q:TupV K H b xs):H b=some (.tup (ks.map kV)):=by
 obtain⟨h1,h2⟩:=BY h
 have e:=BZ h1 w
 subst e
 rcases q with q|⟨⟨ss,hne,e⟩,_⟩
 ·exact q
 ·exfalso
  cases ss with
  |nil=>exact hne rfl
  |cons x ss=>
   cases ks with
   |nil=>cases e
   |cons k ks=>
    obtain⟨i,rfl⟩:=h2 k bF
    injection e with e _
    cases e
theorem gB{α:Type}{o:Option α}{a:α}(h:Res.of o=.ok a):o=some a:=by
 cases o with
 |none=>cases h
 |some b=>cases h;rfl
theorem Sees.inj{H:Hp}{s:Shared}{pins:List (Addr×Obj)}{σ:L2.St}(I:Inv X pins σ H s){d d':D}{w:Value}(h:Sees X H s d w)(h':Sees X H s d' w):d=d':=by
 cases h with
 |non=>cases h';rfl
 |bl b=>cases h';rfl
 |int i t=>cases h';rfl
 |str x t=>cases h';rfl
 |tup ds a xs its q w r p=>
  cases h' with
  |tup ds' _ xs' its' q' w' r' p'=>have:=I.tuple_inj q q';subst this;rw[RDs.inj I w w']
  |lst ds' _ xs' its' q' w' r' p'=>exact(pC I q' q).elim
  |dct ds' _ ps' q' w'=>exact(pE I q' q).elim
  |tdc ds' _ ps' q' w'=>exact(pG I q' q).elim
 |dct ds a ps q w=>
  cases h' with
  |dct ds' _ ps' q' w'=>have:=pH q q';cases this;rw[RDk.inj I w w']
  |tup ds' _ xs' its' q' w' r' p'=>exact(pE I q q').elim
  |lst ds' _ xs' its' q' w' r' p'=>exact(pD I q q').elim
  |tdc ds' _ ps' q' w'=>have:=pH q q';cases this
 |tdc ds a ps q w=>
  cases h' with
  |tdc ds' _ ps' q' w'=>have:=pH q q';cases this;rw[RDt.inj I w w']
  |tup ds' _ xs' its' q' w' r' p'=>exact(pG I q q').elim
  |lst ds' _ xs' its' q' w' r' p'=>exact(pF I q q').elim
  |dct ds' _ ps' q' w'=>have:=pH q q';cases this
 |lst ds a xs its q w r p=>
  cases h' with
  |lst ds' _ xs' its' q' w' r' p'=>have:=I.list_inj q q';subst this;rw[RDs.inj I w w']
  |tup ds' _ xs' its' q' w' r' p'=>exact(pC I q q').elim
  |dct ds' _ ps' q' w'=>exact(pD I q' q).elim
  |tdc ds' _ ps' q' w'=>exact(pF I q' q).elim
open Classical in
noncomputable def eS(X:Cx)(H:Hp)(s:Shared)(x:D)(w:Value):Bool:=decide (∃d,Sees X H s d w/\D.eqb d x=true)
theorem B2{H:Hp}{s:Shared}{pins:List (Addr×Obj)}{σ:L2.St}(I:Inv X pins σ H s){d x:D}{w:Value}(sd:Sees X H s d w):eS X H s x w=D.eqb d x:=by
 classical
 unfold eS
 by_cases h:D.eqb d x=true
 ·rw[h];simp only[decide_eq_true_eq];exact⟨d,sd,h⟩
 ·have h':D.eqb d x=false:=by simpa using h
  rw[h']
  simp only[decide_eq_false_iff_not]
  rintro⟨d',sd',h''⟩
  rw[Sees.inj I sd' sd]at h''
  exact h h''
theorem mY{H:Hp}{s:Shared}{pins:List (Addr×Obj)}{σ:L2.St}(I:Inv X pins σ H s){x:D}{ux:Value}{n:Nat}{A:Around}(hx:Sees X H s x ux)(fx:D.pl n x=true)(hu:A.units+n<cLine) :
 ∀{ds:List D} {xs:List V} {us:List Value},RDs X.K H no ds xs->Vals xs us->D.pls (n+1) ds=true->(∀w∈us,SeqAt.EqAt A s w ux (eS X H s x w))/\us.any (eS X H s x)=D.mem x ds
 |[],xs,us,w,r,f=>by
  rw[RDs]at w;subst w;cases r
  exact⟨λw h=>absurd h fH,rfl⟩
 |d::ds,xs,us,w,r,f=>by
  obtain⟨v,ys,rfl,e1,e2⟩:=w
  rw[tD,aH]at f
  cases r with
  |cons a1 r1=>
   have ih:=mY I hx fx hu e2 r1 f.2
   have sd:=mV I e1 a1
   refine⟨λw hw=>?_,?_⟩
   ·rcases aO.mp hw with rfl|hw
    ·rw[B2 I sd]
     exact eqAt_D I n d x A w ux sd hx f.1 fx hu
    ·exact ih.1 w hw
   ·rw[iM,D.mem,ih.2,B2 I sd]
theorem HU{K:PySem.W.Frag}{H:Hp}{d:D}{x:V}(r:RD K H no d x):decide (x=.non)=D.isNon d:=by
 cases d with
 |non=>cases (show x=.non from r);rfl
 |bl b=>cases (show x=.bl b from r);rfl
 |int b=>cases (show x=.int b from r);rfl
 |str b=>cases (show x=.str b from r);rfl
 |tup ds=>obtain⟨a,xs,rfl,_⟩:=r;rfl
 |lst ds=>obtain⟨a,xs,rfl,_⟩:=r;rfl
 |dct ds=>obtain⟨a,xs,rfl,_⟩:=r;rfl
 |tdc ds=>obtain⟨a,xs,rfl,_⟩:=r;rfl
theorem B3{K:PySem.W.Frag}{H:Hp}{O:Addr->Prop}{d:D}{x:V}(r:RR K H O d x):decide (x=.non)=D.isNon d:=by
 rcases r with r|⟨a,rfl,h⟩
 ·exact HU (r.weak λ_ z=>z.elim)
 ·cases d<;>first|rfl|exact h.elim
theorem B4(o:CmpOp)(hroom:gA X):OpR X (compareOp o) (rD2 X.K (D.cmp o) false):=by
 intro pins s σ H x y v u Q I rx ry h
 obtain⟨O,d1,d2,d,r1,r2,ev,tr,k⟩:=h
 have hroom':X.A.units+64<cLine:=hroom
 have kk:∀b,d=.bl b->Q (.bl b) H:=λb e=>k _ H (Same.refl H) (by subst e;exact rfl) λz=>by cases z
 have s1:=uB I r1 rx
 have s2:=uB I r2 ry
 unfold D.cmp at ev
 split at ev
 ·obtain⟨c,ev⟩:=aV ev
  cases ev
  unfold D.eqOk at c
  rw[aH]at c
  exact rcAt_D I s1 s2 c.1 c.2 (by lia) X.prog X.w X.xe _ ⟨.bl _,H,I,rfl,kk _ rfl⟩
 ·obtain⟨c,ev⟩:=aV ev
  cases ev
  unfold D.eqOk at c
  rw[aH]at c
  exact HM I s1 s2 c.1 c.2 (by lia) X.prog X.w X.xe _ ⟨.bl _,H,I,rfl,kk _ rfl⟩
 ·cases ev
  cases (show x=_ from r1.rd rfl)
  cases (show y=_ from r2.rd rfl)
  exact op_lt pins s σ H _ _ v u Q I rx ry ⟨_,_,rfl,rfl,kk _ rfl⟩
 ·cases ev
  cases (show x=_ from r1.rd rfl)
  cases (show y=_ from r2.rd rfl)
  exact op_le pins s σ H _ _ v u Q I rx ry ⟨_,_,rfl,rfl,kk _ rfl⟩
 ·cases ev
  cases (show x=_ from r1.rd rfl)
  cases (show y=_ from r2.rd rfl)
  exact op_gt pins s σ H _ _ v u Q I rx ry ⟨_,_,rfl,rfl,kk _ rfl⟩
 ·cases ev
  cases (show x=_ from r1.rd rfl)
  cases (show y=_ from r2.rd rfl)
  exact op_ge pins s σ H _ _ v u Q I rx ry ⟨_,_,rfl,rfl,kk _ rfl⟩
 ·cases ev
  cases (show y=_ from r2.rd rfl)
  have e:decide (x=.non)=D.isNon d1:=B3 r1
  exact op_isN pins s σ H _ _ v u Q I rx ry ⟨rfl,by rw[e];exact kk _ rfl⟩
 ·cases ev
  cases (show y=_ from r2.rd rfl)
  have e:decide (x=.non)=D.isNon d1:=B3 r1
  exact FR pins s σ H _ _ v u Q I rx ry ⟨rfl,by rw[e];exact kk _ rfl⟩
 ·cases ev
  cases (show x=_ from r1.rd rfl)
  cases (show y=_ from r2.rd rfl)
  cases rx
  cases ry
  exact is_bool (kX I (kk _ rfl) rfl)
 ·cases ev
  cases (show x=_ from r1.rd rfl)
  cases (show y=_ from r2.rd rfl)
  cases rx
  cases ry
  exact isnot_bool (kX I (kk _ rfl) rfl)
 ·obtain⟨b,e1,ev⟩:=Res.bind_ok ev
  cases ev
  unfold D.inn at e1
  split at e1
  ·obtain⟨c,e1⟩:=aV e1
   cases e1
   rw[aH]at c
   cases s2 with
   |lst ds a xs its q w r p=>
    have t:=mY I (n:=29) (A:=X.A.in1) s1 c.2 (by show X.A.units+1+29<cLine;lia) w r c.1
    refine SeqAt.in_listAt (eS X H s d1) p.isList (λw hw=>t.1 w (by simpa using hw)) ⟨.bl _,H,I,rfl,?_⟩
    rw[show its.toArray.any (eS X H s d1)=its.any (eS X H s d1) by simp,t.2]
    exact kk _ rfl
  ·obtain⟨c,e1⟩:=aV e1
   cases e1
   rw[aH]at c
   cases s2 with
   |tup ds a xs its q w r p=>
    have t:=mY I (n:=29) (A:=X.A.in1) s1 c.2 (by show X.A.units+1+29<cLine;lia) w r c.1
    refine SeqAt.in_tupleAt (eS X H s d1) p (λw hw=>t.1 w (by simpa using hw)) ⟨.bl _,H,I,rfl,?_⟩
    rw[show its.toArray.any (eS X H s d1)=its.any (eS X H s d1) by simp,t.2]
    exact kk _ rfl
  ·obtain⟨key,e2,e1⟩:=Res.bind_ok e1
   cases e1
   obtain⟨a,ps,rfl,q,w⟩:=r2.dct
   cases ry
   have ex:=lE (gB e2) r1
   subst ex
   refine d_in (by lia) I (.inl ⟨ps,key,q,rfl,rfl⟩) rx λs' I'=>⟨.bl _,H,I',rfl,?_⟩
   rw[<-(pJ (k:=key) w).2]
   exact kk _ rfl
  ·split at e1
   ·obtain⟨key,e2,e1⟩:=Res.bind_ok e1
    cases e1
    obtain⟨a,ps,rfl,q,w⟩:=r2.tdc
    cases ry
    obtain⟨b',xs,rfl,tq,w1⟩:=r1.tupV
    refine d_in (by lia) I (.inr ⟨ps,key,b',q,rfl,pL (gB e2) w1 tq,rfl⟩) rx λs' I'=>⟨.bl _,H,I',rfl,?_⟩
    rw[<-(pK (k:=key) w).2]
    exact kk _ rfl
   ·cases e1
  ·split at e1
   ·cases (show x=_ from r1.rd rfl)
    cases (show y=_ from r2.rd rfl)
    exact FQ pins s σ H _ _ v u Q I rx ry ⟨_,_,rfl,rfl,by rw[Am e1];exact kk _ rfl⟩
   ·cases e1
  ·cases e1
 ·obtain⟨b,e1,ev⟩:=Res.bind_ok ev
  cases ev
  unfold D.inn at e1
  split at e1
  ·obtain⟨c,e1⟩:=aV e1
   cases e1
   rw[aH]at c
   cases s2 with
   |lst ds a xs its q w r p=>
    have t:=mY I (n:=29) (A:=X.A.in1) s1 c.2 (by show X.A.units+1+29<cLine;lia) w r c.1
    refine SeqAt.notIn_listAt (eS X H s d1) p.isList (λw hw=>t.1 w (by simpa using hw)) ⟨.bl _,H,I,rfl,?_⟩
    rw[show its.toArray.any (eS X H s d1)=its.any (eS X H s d1) by simp,t.2]
    exact kk _ rfl
  ·obtain⟨c,e1⟩:=aV e1
   cases e1
   rw[aH]at c
   cases s2 with
   |tup ds a xs its q w r p=>
    have t:=mY I (n:=29) (A:=X.A.in1) s1 c.2 (by show X.A.units+1+29<cLine;lia) w r c.1
    refine SeqAt.notIn_tupleAt (eS X H s d1) p (λw hw=>t.1 w (by simpa using hw)) ⟨.bl _,H,I,rfl,?_⟩
    rw[show its.toArray.any (eS X H s d1)=its.any (eS X H s d1) by simp,t.2]
    exact kk _ rfl
  ·obtain⟨key,e2,e1⟩:=Res.bind_ok e1
   cases e1
   obtain⟨a,ps,rfl,q,w⟩:=r2.dct
   cases ry
   have ex:=lE (gB e2) r1
   subst ex
   refine AY (by lia) I (.inl ⟨ps,key,q,rfl,rfl⟩) rx λs' I'=>⟨.bl _,H,I',rfl,?_⟩
   rw[<-(pJ (k:=key) w).2]
   exact kk _ rfl
  ·split at e1
   ·obtain⟨key,e2,e1⟩:=Res.bind_ok e1
    cases e1
    obtain⟨a,ps,rfl,q,w⟩:=r2.tdc
    cases ry
    obtain⟨b',xs,rfl,tq,w1⟩:=r1.tupV
    refine AY (by lia) I (.inr ⟨ps,key,b',q,rfl,pL (gB e2) w1 tq,rfl⟩) rx λs' I'=>⟨.bl _,H,I',rfl,?_⟩
    rw[<-(pK (k:=key) w).2]
    exact kk _ rfl
   ·cases e1
  ·split at e1
   ·cases (show x=_ from r1.rd rfl)
    cases (show y=_ from r2.rd rfl)
    exact FS pins s σ H _ _ v u Q I rx ry ⟨_,_,rfl,rfl,by rw[Am e1];exact kk _ rfl⟩
   ·cases e1
  ·cases e1
 ·cases ev
theorem ixN_eq(n:Nat)(i:Int):Tr.ixN n i=L2.ixN n i:=rfl
theorem B5{K:PySem.W.Frag}{H:Hp}{O:Addr->Prop}{ds:List D}{xs:List V}{i:Int}{d:D}(w:RDs K H O ds xs)(h:Tr.atI ds i=some d):∃v,L2.atI xs i=some v/\RD K H O d v:=by
 unfold Tr.atI at h
 unfold L2.atI
 rw[w.length]
 rw[ixN_eq]at h
 cases e:L2.ixN ds.length i with
 |none=>rw[e]at h;cases h
 |some j=>
  rw[e]at h
  exact w.get h
theorem d_ix{value slice:Expr}{pins:List (Addr×Obj)}{s:Shared}{σ:L2.St}{H:Hp}{a:Addr}{y v0:V}{u:Value}{Q:VK}(I:Inv X pins σ H s)(g:jY H a y (some v0))(ry:RelV y u)(hroom:gA X)(q:Q v0 H)
 (hs:subscripted slice false (.ref a) u=operate [.ref a,u] (getItem (.ref a) u)):wpAny (model X.prog X.w) X.A (subscriptTail value slice (.ref a) u) (EP X pins σ Q) X.xe s:=by
 have hroom':X.A.units+64<cLine:=hroom
 have hT:=GF I g
 unfold subscriptTail
 refine wpAny_bind ?_
 rw[getitemInPython_of_ne hT.not_modules]
 refine wpAny_bind (wpAny_specialOf hT PySem.F.slot_dict_getitem.lookup ?_)
 have fin:wpAny (model X.prog X.w) X.A (subscripted slice false (.ref a) u) (λr s₃=>wpAny (model X.prog X.w) X.A (letTemporaryGo value (.ref a) r>>=λ_=>pure r) (EP X pins σ Q) X.xe s₃) X.xe s:=by
  rw[hs]
  exact wpAny_operating (GD (by lia) I g ry λw' s3 I3 rw'=>wpAny_bind (wpAny_letTemporaryGo (wpAny_pure ⟨v0,H,I3,rw',q⟩)))
 first
  |exact wpAny_pure (wpAny_bind fin)
  |exact wpAny_bind (wpAny_pure (wpAny_bind fin))
  |exact wpAny_bind fin
theorem ixr(hroom:gA X):IxR X (rD2 X.K D.ix false):=by
 intro value slice pins s σ H x y v u Q I rx ry h hs
 obtain⟨O,d1,d2,d,r1,r2,ev,tr,k⟩:=h
 have kk:∀w,RD X.K H O d w->Q w H:=λw r=>k w H (Same.refl H) r λz=>by cases z
 unfold D.ix at ev
 split at ev
 ·obtain⟨a1,xs1,rfl,q1,w1⟩:=r1.lst
  cases (show y=_ from r2.rd rfl)
  rename_i ds i
  cases e:Tr.atI ds i with
  |none=>rw[e]at ev;cases ev
  |some d0=>
   rw[e]at ev;cases ev
   obtain⟨w,h1,h2⟩:=B5 w1 e
   exact Ff value slice pins s σ H _ _ v u Q I rx ry ⟨a1,xs1,_,w,rfl,rfl,q1,h1,kk w h2⟩ hs
 ·obtain⟨a1,xs1,rfl,q1,w1⟩:=r1.tup
  cases (show y=_ from r2.rd rfl)
  rename_i ds i
  cases e:Tr.atI ds i with
  |none=>rw[e]at ev;cases ev
  |some d0=>
   rw[e]at ev;cases ev
   obtain⟨w,h1,h2⟩:=B5 w1 e
   exact ix_tup value slice pins s σ H _ _ v u Q I rx ry ⟨a1,xs1,_,w,rfl,rfl,q1,h1,kk w h2⟩ hs
 ·rename_i z i
  obtain⟨c,ev⟩:=aV ev
  cases (show x=.str z from r1.rd rfl)
  cases (show y=.int i from r2.rd rfl)
  cases e:Tr.atI z.cps.toList i with
  |none=>rw[e]at ev;cases ev
  |some c0=>
   rw[e]at ev;cases ev
   exact ix_str value slice pins s σ H _ _ v u Q I rx ry ⟨z,i,c0,rfl,rfl,by rw[<-fN];exact of_decide_eq_true c,e,kk _ rfl⟩ hs
 ·rename_i kvs y0
  obtain⟨key,e2,ev⟩:=Res.bind_ok ev
  obtain⟨a,ps,rfl,q,w⟩:=r1.dct
  cases rx
  have ex:=lE (gB e2) r2
  subst ex
  have hroom':X.A.units+64<cLine:=hroom
  obtain⟨v0,h1,h2⟩:=(pJ (k:=key) w).1 _ (gB ev)
  have g:jY H a (kV key) (some v0):=.inl ⟨ps,key,q,rfl,h1.symm⟩
  exact d_ix I g ry hroom (kk v0 h2) hs
 ·rename_i kvs ks
  obtain⟨key,e2,ev⟩:=Res.bind_ok ev
  obtain⟨a,ps,rfl,q,w⟩:=r1.tdc
  cases rx
  obtain⟨b',xs,rfl,tq,w1⟩:=r2.tupV
  obtain⟨v0,h1,h2⟩:=(pK (k:=key) w).1 _ (gB ev)
  have g:jY H a (.ref b') (some v0):=.inr ⟨ps,key,b',q,rfl,pL (gB e2) w1 tq,h1.symm⟩
  exact d_ix I g ry hroom (kk v0 h2) hs
 ·cases ev
end
noncomputable def bA:Expr->Bool
 |.Starred _ _=>false
 |.Slice _ _ _ _=>false
 |.Set _ _ _=>false
 |_=>true
theorem HV{e:Expr}(h:bA e=true):AL e:=by
 intro o i
 cases e<;>first|rfl|(cases h)
theorem bE{e:Expr}{es:List Expr}{env:Env}(h:bA e=true):starEach (e::es) env=(false,eval e env)::starEach es env:=by
 cases e<;>first|rfl|(cases h)
theorem kC{pos:Pos}{env:Env}:∀{es:List Expr},es.all bA=true->(backTo pos (starEach es env)).any (·.1)=false
 |[],_=>rfl
 |e::es,h=>by
  rw[oB,aH]at h
  have ih:=kC (pos:=pos) (env:=env) h.2
  rw[bE h.1]
  show(false||(backTo pos (starEach es env)).any (·.1))=false
  rw[ih];rfl
theorem B6{o:CmpOp}{e:Expr}(h:bA e=true):behindInMarks o e=false:=by
 cases e<;>first|rfl|(cases h)
theorem B7{e:Expr}{env:Env}(h:bA e=true):∀x,foldedSetIterable e env x=pure x:=by
 intro x
 cases e<;>first|rfl|(cases h)
section
variable{T:Tab}{cf:Nat->List D->Res D}{X:Cx}{x y z:E}{p q r:Expr}{pos:Pos}{es:List Expr}
theorem se_bin{o:Operator}(ha:SR T cf X x p)(hb:SR T cf X y q):SE T cf X (.bin o x y) (.BinOp p o q pos):=
 tZ (f:=D.bin o) (λe=>rfl) (λh1 h2=>pe_op (HR o _ (by cases o<;>first|(intro _;rfl)|(intro z;cases z))) h1 h2) ha hb
theorem se_cmp{o:CmpOp}(hR:gA X)(hm:bA q=true)(ha:SR T cf X x p)(hb:SR T cf X y q):SE T cf X (.cmp o x y) (.Compare p [o] [q] pos):=
 tZ (f:=D.cmp o) (λe=>rfl) (λh1 h2=>FT (B4 o hR) h1 h2 (B6 hm)) ha hb
theorem se_ix(hR:gA X)(hm:bA q=true)(ha:SR T cf X x p)(hb:SR T cf X y q):SE T cf X (.ix x y) (.Subscript p q pos):=
 tZ (f:=D.ix) (λe=>rfl) (λh1 h2=>pe_ix (ixr hR) h1 h2 (HV hm)) ha hb
theorem HW{X:Cx}:SlR X (λx lo hi H Q=>∃a xs,x=.ref a/\SqT X.K H a xs/\(HT.sIx xs.length 0 lo=0/\HT.sIx xs.length xs.length hi=xs.length)/\Q (.ref a) H):=by
 intro pins s σ H x v vl vu lo hi sl Q I rx hs pl pu h
 obtain⟨a,xs,rfl,hx,hw,q⟩:=h
 cases rx
 obtain⟨its,r,ht,hz⟩:=I.tuple hx
 have hlen:its.toArray.size=xs.length:=by rw[bP];exact r.length.symm
 refine⟨"tuple", _,PyProof.Rows.slot_tuple_getitem.lookup,ht.typeIs,?_⟩
 obtain⟨os,hos,hcs,hds⟩:=id hs
 have hTs:s.TypeIs (.ref sl) "slice" := ⟨os,hos,hcs⟩
 have fin:EP X pins σ Q (.ref a) s:=⟨.ref a,H,I,rfl,q⟩
 unfold getItem
 try with_reducible refine wpAny_holding ?_
 first|refine wpAny_bind (wpAny_pure ?_)|skip
 refine wpAny_bind (wpAny_sequenceKey ht.typeIs (by decide) ?_)
 refine wpAny_bind (wpAny_callSpecial?_slot (name:=Str.ofString "__getitem__") ht.typeIs PyProof.Rows.slot_tuple_getitem
  (wpAny_call_entry PyProof.Rows.slot_tuple_getitem ht.typeIs entry_tuple_getitem ?_ (args_tuple_getitem _ _)))
 show wpAny _ _ (Builtin.Tuple.tupleItemsOf (.ref a)>>=_) _ _ s
 refine wpAny_bind (tupleItemsOf_ ht ?_)
 refine wpAny_bind (wpAny_typeOf hTs ?_)
 rw[if_pos (by decide)]
 refine wpAny_bind (HT.sliceApplied_gen hs pl pu ?_)
 have hyes:(((HT.sIx its.toArray.size 0 lo:Nat):Int)==0&&(1:Int)==1&&(HT.sIx its.toArray.size its.toArray.size hi-HT.sIx its.toArray.size 0 lo)==its.toArray.size)=true:=by
  rw[hlen,hw.1,hw.2];simp
 show wpAny _ _ (if(((HT.sIx its.toArray.size 0 lo:Nat):Int)==0&&(1:Int)==1&&(HT.sIx its.toArray.size its.toArray.size hi-HT.sIx its.toArray.size 0 lo)==its.toArray.size)=true then _ else _) _ _ s
 rw[if_pos hyes]
 refine wpAny_bind (m:=Builtin.Tuple.tupleIsExact (.ref a)) ?_
 unfold Builtin.Tuple.tupleIsExact
 refine wpAny_bind (wpAny_typeOf ht.typeIs (wpAny_pure ?_))
 rw[if_pos (by decide)]
 refine wpAny_bind (wpAny_rule ?_)
 first
  |exact wpAny_pure ⟨_,rfl,wpAny_pure fin⟩
  |exact wpAny_bind (wpAny_pure ⟨_,rfl,wpAny_pure fin⟩)
  |exact wpAny_bind (wpAny_pure (wpAny_pure ⟨_,rfl,wpAny_pure fin⟩))
  |trace_state
end
section
variable{T:Tab}{cf:Nat->List D->Res D}{X:Cx}{x y z:E}{p q r:Expr}{pos pos':Pos}{es:List Expr}
theorem B8(n d:Nat)(o:Option Int):Tr.sIx n d o=HT.sIx n d o:=by cases o<;>rfl
theorem slr:SlR X (λv lo hi H Q=>∃O d0 d,RR X.K H O d0 v/\D.sl d0 lo hi=.ok d/\(∀a,O a->∃o,H a=some o)/\∀w H',Same H H'->RD X.K H' O d w->NewL X.K H H' O d w->Q w H'):=by
 intro pins s σ H x v vl vu lo hi sl Q I rx hs pl pu h
 obtain⟨O,d0,d,r0,ev,tr,k⟩:=h
 unfold D.sl at ev
 split at ev
 ·cases ev
  obtain⟨a,xs,rfl,q0,w0⟩:=r0.lst
  refine Fj pins s σ H _ v vl vu _ _ sl Q I rx hs pl pu ⟨a,xs,rfl,q0,λp hp=>?_⟩
  have z:=iU (w0.cut lo hi) hp tr
  exact k _ _ (bU hp _) z.1 z.2
 ·cases ev
  obtain⟨a,xs,rfl,qv,w0⟩:=r0.tupV
  have q0:=qv.sq
  by_cases hw:HT.sIx xs.length 0 lo=0/\HT.sIx xs.length xs.length hi=xs.length
  ·refine HW pins s σ H _ v vl vu _ _ sl Q I rx hs pl pu ⟨a,xs,rfl,q0,hw,?_⟩
   refine k _ _ (Same.refl H) ⟨a,xs,rfl,qv,?_⟩ (NewL.still rfl)
   unfold Tr.cut
   rw[<-w0.length,B8,B8,hw.1,hw.2,Ej,Ek,sL (by rw[w0.length];exact aN _)]
   exact w0
  ·refine sl_tup pins s σ H _ v vl vu _ _ sl Q I rx hs pl pu ⟨a,xs,rfl,q0,hw,λp hp=>?_⟩
   exact k _ _ (bU hp _) (mX (w0.cut lo hi) hp) (NewL.still rfl)
 ·obtain⟨c,ev⟩:=aV ev
  cases ev
  cases (show x=_ from r0.rd rfl)
  exact sl_str pins s σ H _ v vl vu _ _ sl Q I rx hs pl pu ⟨_,rfl,by rw[<-fN];exact of_decide_eq_true c,k _ H (Same.refl H) rfl (NewL.still rfl)⟩
 ·cases ev
noncomputable def SO(T:Tab)(cf:Nat->List D->Res D)(X:Cx)(x:E)(p:Option Expr):Prop:=∀H₀ O₀,PO X p (λσ H Q=>∃O own e d o,Fm X.K H₀ O₀ H O own e σ/\evE T cf x e=.ok d/\d.part=.ok o/\∀H',Same H H'->Q o H')
theorem HX:SO T cf X .omit none:=λH₀ O₀ pins s σ H Q I ⟨O,own,e,d,o,F,ev,ep,k⟩=>by
 rw[GO]at ev;cases ev;cases ep
 exact F_ pins s σ H Q I (k H (Same.refl H))
theorem HY(h:SE T cf X x p):SO T cf X x (some p):=λH₀ O₀ pins s σ H Q I ⟨O,own,e,d,o,F,ev,ep,k⟩=>by
 rw[evalPart_some]
 refine thn (h H₀ O₀ pins s σ H (λv H'=>Same H H'/\RD X.K H' O d v) I ⟨O,own,e,d,F,ev,λv H' s' r _=>⟨s',r⟩⟩) λu s1 ⟨v,H1,I1,r1,s',r⟩=>?_
 unfold D.part at ep
 split at ep
 ·cases ep
  cases (show v=_ from r)
  cases r1
  exact⟨none,H1,I1,.none,k H1 s'⟩
 ·cases ep
  cases (show v=_ from r)
  obtain⟨t,rfl⟩:=r1
  exact⟨_,H1,I1,.int _ t,k H1 s'⟩
 ·cases ep
theorem se_sl{lo hi:Option Expr}(ha:SR T cf X x p)(hl:SO T cf X y lo)(hh:SO T cf X z hi):SE T cf X (.sl x y z) (.Subscript p (.Slice lo hi none pos') pos):=λH₀ O₀=>by
 refine PE.imp (λσ H Q hq=>?_) (Fb slr (ha H₀ O₀) (hl H₀ O₀) (hh H₀ O₀))
 obtain⟨O,own,e,d,F,ev,k⟩:=hq
 rw[A8]at ev
 obtain⟨d1,e1,ev⟩:=Res.bind_ok ev
 obtain⟨d2,e2,ev⟩:=Res.bind_ok ev
 obtain⟨o2,e2',ev⟩:=Res.bind_ok ev
 obtain⟨d3,e3,ev⟩:=Res.bind_ok ev
 obtain⟨o3,e3',ev⟩:=Res.bind_ok ev
 refine⟨O,own,e,d1,F,e1,λv1 H1 s1 r1=>⟨O,own,e,d2,o2,F.grow s1,e2,e2',λH2 s2=>⟨O,own,e,d3,o3,(F.grow s1).grow s2,e3,e3',λH3 s3=>?_⟩⟩⟩
 refine⟨O,d1,d,(r1.same s2).same s3,ev,((F.grow s1).grow (s2.trans s3)).trk,λw H' s4 r4 n4=>?_⟩
 exact k w H' ((s1.trans (s2.trans s3)).trans s4) r4 λ_=>n4.back (s1.trans (s2.trans s3))
theorem B9{a:E}{e:Nv}{ds:List D}(h:evA T cf a e=.ok ds):ds.length<=1000:=by
 cases a with
 |anil=>(first|rw[oQ]at h|rw[oR]at h);cases h;exact eM _
 |acons a r=>
  (first|rw[oQ]at h|rw[oR]at h)
  obtain⟨d1,e1,h⟩:=Res.bind_ok h
  obtain⟨d2,e2,h⟩:=Res.bind_ok h
  obtain⟨c,h⟩:=aV h
  cases h
  have:=of_decide_eq_true c
  rw[aP];lia
 |_=>exact absurd (show(Res.no:Res (List D))=Res.ok ds from h) (λz=>by cases z)
theorem sav_nil:SAv T cf X .anil []:=λH₀ O₀ pos pins s σ H Q I ⟨O,own,e,ds,F,ev,k⟩=>by
 rw[oQ]at ev;cases ev
 exact dO pos pins s σ H Q I (k [] H (Same.refl H) rfl λj d v _ z=>by cases z)
theorem HZ(hp:bA p=true)(ha:SE T cf X x p)(hr:SAv T cf X y es):SAv T cf X (.acons x y) (p::es):=λH₀ O₀ pos pins s σ H Q I ⟨O,own,e,ds,F,ev,k⟩=>by
 rw[oR]at ev
 obtain⟨d1,e1,ev⟩:=Res.bind_ok ev
 obtain⟨d2,e2,ev⟩:=Res.bind_ok ev
 obtain⟨c,ev⟩:=aV ev
 cases ev
 refine cK (ha H₀ O₀) (hr H₀ O₀) (bE hp) pos pins s σ H Q I ⟨O,own,e,d1,F,e1,λv1 H1 s1 r1 n1=>⟨O,own,e,d2,F.grow s1,e2,λvs H2 s2 r2 n2=>?_⟩⟩
 refine k (v1::vs) H2 (s1.trans s2) ⟨v1,vs,rfl,r1.same s2,r2⟩ λj d v hf hd hv=>?_
 cases j with
 |zero=>cases hd;cases hv;exact(n1 hf).same s2
 |succ j=>exact(n2 j d v hf hd hv).back s1
theorem H0:SAr T cf X .anil []:=sav_nil.sr
theorem H_(hp:bA p=true)(ha:SR T cf X x p)(hr:SAr T cf X y es):SAr T cf X (.acons x y) (p::es):=λH₀ O₀ pos pins s σ H Q I ⟨O,own,e,ds,F,ev,k⟩=>by
 rw[oR]at ev
 obtain⟨d1,e1,ev⟩:=Res.bind_ok ev
 obtain⟨d2,e2,ev⟩:=Res.bind_ok ev
 obtain⟨c,ev⟩:=aV ev
 cases ev
 refine cK (ha H₀ O₀) (hr H₀ O₀) (bE hp) pos pins s σ H Q I ⟨O,own,e,d1,F,e1,λv1 H1 s1 r1=>⟨O,own,e,d2,F.grow s1,e2,λvs H2 s2 r2=>?_⟩⟩
 exact k (v1::vs) H2 (s1.trans s2) ⟨v1,vs,rfl,r1.same s2,r2⟩
theorem B_{n:Nat}(h:n<=1000):n<=sizeLine:=iJ (GC h)
theorem se_tup{k:Nat}(ha:SAv T cf X x es):SE T cf X (.tup x) (.Tuple es k pos):=λH₀ O₀=>by
 refine PE.imp (λσ H Q hq=>?_) (pe_tup (ha H₀ O₀))
 obtain⟨O,own,e,d,F,ev,k⟩:=hq
 rw[tO]at ev
 obtain⟨ds,e1,ev⟩:=Res.bind_ok ev
 cases ev
 refine⟨O,own,e,ds,F,e1,λvs H1 s1 r1 _=>⟨by rw[r1.length];exact B_ (B9 e1),λp hp=>?_⟩⟩
 exact k _ _ (s1.trans (bU hp _)) (mX r1 hp) (λz=>by cases z)
theorem se_lst(ha:SAv T cf X x es):SE T cf X (.lst x) (.List es pos):=λH₀ O₀=>by
 refine PE.imp (λσ H Q hq=>?_) (pe_lst (ha H₀ O₀))
 obtain⟨O,own,e,d,F,ev,k⟩:=hq
 rw[iS]at ev
 obtain⟨ds,e1,ev⟩:=Res.bind_ok ev
 cases ev
 refine⟨O,own,e,ds,F,e1,λvs H1 s1 r1 _=>⟨by rw[r1.length];exact B_ (B9 e1),λp hp=>?_⟩⟩
 have z:=iU r1 hp (F.grow s1).trk
 exact k _ _ (s1.trans (bU hp _)) z.1 λ_=>z.2.back s1
theorem Ba{α β:Type}{xs:List α}{ds:List β}(h:xs.length=ds.length):(!ds.isEmpty)=!xs.isEmpty:=by
 cases xs<;>cases ds<;>first|rfl|(simp at h)
theorem mZ{K:PySem.W.Frag}{H:Hp}{O:Addr->Prop}{d:D}{v:V}{k:Bool}(r:RR K H O d v)(h:d.truth=.ok k):lZ K v H k:=by
 unfold D.truth at h
 split at h
 ·cases h;cases (show v=_ from r.rd rfl);exact(rfl:false=false)
 ·cases h;cases (show v=_ from r.rd rfl);exact(rfl:k=k)
 ·cases h;cases (show v=_ from r.rd rfl);exact rfl
 ·obtain⟨c,h⟩:=aV h
  cases h;cases (show v=_ from r.rd rfl);exact⟨by rw[<-fN];exact of_decide_eq_true c,rfl⟩
 ·cases h
  obtain⟨a,xs,rfl,q,w⟩:=r.tup
  refine .inr (.inl ⟨xs,q,?_⟩)
  exact Ba w.length
 ·cases h
  obtain⟨a,xs,rfl,q,w⟩:=r.lst
  refine .inl ⟨xs,q,?_⟩
  exact Ba w.length
 ·cases h
 ·cases h
theorem Bb(ha:SR T cf X x p)(he:∀whole,isTrue p X.env whole=(do let v<-whole;standAt p.pos;holding [v] (truthy v))):ST T cf X x p:=λH₀ O₀=>
 PT.imp (λσ H Q ⟨O,own,e,d,k,F,ev,et,q⟩=>⟨O,own,e,d,F,ev,λv H' s r=>⟨k,mZ r et,q H' s⟩⟩) (AA (ha H₀ O₀) he)
theorem cmp_bl{o:CmpOp}{a b d:D}(h:D.cmp o a b=.ok d):∃k,d=.bl k:=by
 unfold D.cmp at h
 split at h<;>first
  |(obtain⟨_,h⟩:=aV h;cases h;exact⟨_,rfl⟩)
  |(cases h;exact⟨_,rfl⟩)
  |(obtain⟨_,_,h⟩:=Res.bind_ok h;cases h;exact⟨_,rfl⟩)
  |cases h
theorem st_cmp{o:CmpOp}(hR:gA X)(hm:bA q=true)(ha:SR T cf X x p)(hb:SR T cf X y q):ST T cf X (.cmp o x y) (.Compare p [o] [q] pos):=λH₀ O₀=>by
 refine PT.imp (λσ H Q hq=>?_) (FU (B4 o hR) (ha H₀ O₀) (hb H₀ O₀) (B6 hm))
 obtain⟨O,own,e,d,k,F,ev,et,qk⟩:=hq
 rw[xE_cmp]at ev
 obtain⟨d1,e1,ev⟩:=Res.bind_ok ev
 obtain⟨d2,e2,ev⟩:=Res.bind_ok ev
 obtain⟨k',rfl⟩:=cmp_bl ev
 cases et
 refine⟨O,own,e,d1,F,e1,λv1 H1 s1 r1=>⟨O,own,e,d2,F.grow s1,e2,λv2 H2 s2 r2=>?_⟩⟩
 refine⟨O,d1,d2,_,r1.same s2,r2,ev,(F.grow (s1.trans s2)).trk,λv H' s3 r3 _=>?_⟩
 exact⟨k,r3,qk H' ((s1.trans s2).trans s3)⟩
theorem Ha{a b:Expr}{rest:List Expr}{ta tb:TE}(ha:PE X a ta)(hb:PE X (.BoolOp .And (b::rest) pos) tb) :
 PE X (.BoolOp .And (a::b::rest) pos) (λσ H Q=>ta σ H λx H1=>∃c,lZ X.K x H1 c/\if c=true then tb σ H1 Q else Q x H1):=by
 intro pins s σ H Q I h
 refine BoolOp_and (thn (ha pins s σ H _ I h) λv s1 ⟨x,H1,I1,r1,c,tc,q1⟩=>?_)
 refine thn (oG pins s1 σ H1 x v (λb H2=>b=c/\H2=H1) I1 r1 ⟨c,tc,rfl,rfl⟩) λb s2 ⟨H2,I2,e1,e2⟩=>?_
 subst e1 e2
 cases b with
 |true=>exact hb pins s2 σ H2 Q I2 q1
 |false=>exact⟨x,H2,I2,r1,q1⟩
theorem pe_orV{a b:Expr}{rest:List Expr}{ta tb:TE}(ha:PE X a ta)(hb:PE X (.BoolOp .Or (b::rest) pos) tb) :
 PE X (.BoolOp .Or (a::b::rest) pos) (λσ H Q=>ta σ H λx H1=>∃c,lZ X.K x H1 c/\if c=true then Q x H1 else tb σ H1 Q):=by
 intro pins s σ H Q I h
 refine BoolOp_or (thn (ha pins s σ H _ I h) λv s1 ⟨x,H1,I1,r1,c,tc,q1⟩=>?_)
 refine thn (oG pins s1 σ H1 x v (λb H2=>b=c/\H2=H1) I1 r1 ⟨c,tc,rfl,rfl⟩) λb s2 ⟨H2,I2,e1,e2⟩=>?_
 subst e1 e2
 cases b with
 |false=>exact hb pins s2 σ H2 Q I2 q1
 |true=>exact⟨x,H2,I2,r1,q1⟩
theorem Bc{rest:List Expr}(ha:SE T cf X x p)(hb:SE T cf X y (.BoolOp .And (q::rest) pos)):SE T cf X (.and x y) (.BoolOp .And (p::q::rest) pos):=λH₀ O₀=>by
 refine PE.imp (λσ H Q hq=>?_) (Ha (ha H₀ O₀) (hb H₀ O₀))
 obtain⟨O,own,e,d,F,ev,k⟩:=hq
 rw[A3]at ev
 obtain⟨d1,e1,ev⟩:=Res.bind_ok ev
 obtain⟨c,e2,ev⟩:=Res.bind_ok ev
 refine⟨O,own,e,d1,F,e1,λv1 H1 s1 r1 _=>⟨c,mZ r1.rr e2,?_⟩⟩
 cases c with
 |true=>
  rw[if_pos rfl]at ev⊢
  exact⟨O,own,e,d,F.grow s1,ev,λv H' s' r _=>k v H' (s1.trans s') r (λz=>by cases z)⟩
 |false=>
  rw[if_neg aU]at ev⊢
  cases ev
  exact k v1 H1 s1 r1 (λz=>by cases z)
theorem Bd{rest:List Expr}(ha:SE T cf X x p)(hb:SE T cf X y (.BoolOp .Or (q::rest) pos)):SE T cf X (.or x y) (.BoolOp .Or (p::q::rest) pos):=λH₀ O₀=>by
 refine PE.imp (λσ H Q hq=>?_) (pe_orV (ha H₀ O₀) (hb H₀ O₀))
 obtain⟨O,own,e,d,F,ev,k⟩:=hq
 rw[A4]at ev
 obtain⟨d1,e1,ev⟩:=Res.bind_ok ev
 obtain⟨c,e2,ev⟩:=Res.bind_ok ev
 refine⟨O,own,e,d1,F,e1,λv1 H1 s1 r1 _=>⟨c,mZ r1.rr e2,?_⟩⟩
 cases c with
 |false=>
  rw[if_neg aU]at ev⊢
  exact⟨O,own,e,d,F.grow s1,ev,λv H' s' r _=>k v H' (s1.trans s') r (λz=>by cases z)⟩
 |true=>
  rw[if_pos rfl]at ev⊢
  cases ev
  exact k v1 H1 s1 r1 (λz=>by cases z)
theorem Be{op:BoolOp}(h:SE T cf X x p):SE T cf X x (.BoolOp op [p] pos):=λH₀ O₀=>pe_one (h H₀ O₀)
theorem Bf(ha:ST T cf X x p)(hv:SR T cf X x p):SE T cf X (.not x) (.UnaryOp .Not p pos):=λH₀ O₀=>by
 intro pins s σ H Q I ⟨O,own,e,d,F,ev,k⟩
 rw[A5]at ev
 obtain⟨d1,e1,ev⟩:=Res.bind_ok ev
 obtain⟨c,e2,ev⟩:=Res.bind_ok ev
 cases ev
 refine UnaryOp_ (thn (hv H₀ O₀ pins s σ H (λv1 H1=>Same H H1/\RR X.K H1 O d1 v1) I ⟨O,own,e,d1,F,e1,λv1 H1 s1 r1=>⟨s1,r1⟩⟩) λv s1 ⟨x1,H1,I1,r1,s1',rr⟩=>?_)
 refine not_of ?_
 exact thn (oG pins s1 σ H1 x1 v (λb H2=>b=c/\H2=H1) I1 r1 ⟨c,mZ rr e2,rfl,rfl⟩) λb s2 ⟨H2,I2,e3,e4⟩=>by
  subst e3 e4
  exact⟨.bl (!b),H2,I2,rfl,k _ H2 s1' rfl (λz=>by cases z)⟩
theorem st_not(ha:ST T cf X x p):ST T cf X (.not x) (.UnaryOp .Not p pos):=λH₀ O₀=>by
 refine PT.imp (λσ H Q hq=>?_) (zV (ha H₀ O₀))
 obtain⟨O,own,e,d,k,F,ev,et,qk⟩:=hq
 rw[A5]at ev
 obtain⟨d1,e1,ev⟩:=Res.bind_ok ev
 obtain⟨c,e2,ev⟩:=Res.bind_ok ev
 cases ev
 cases et
 exact⟨O,own,e,d1,c,F,e1,e2,λH' s=>qk H' s⟩
noncomputable def SW(T:Tab)(cf:Nat->List D->Res D)(X:Cx)(x:E)(p:Expr):Prop:=∀H₀ O₀,PW X p (tT T cf X.K H₀ O₀ x)
theorem SW.st(h:SW T cf X x p):ST T cf X x p:=λH₀ O₀=>(h H₀ O₀).pt
theorem PW.imp{t t':TT}(h:∀σ H Q,t' σ H Q->t σ H Q)(hp:PW X p t):PW X p t':=λw pins s σ H Q I q=>hp w pins s σ H Q I (h σ H Q q)
theorem Hc(ha:ST T cf X x p):SW T cf X x (.BoolOp .And [p] pos):=λH₀ O₀=>FD (ha H₀ O₀)
theorem sw_or1(ha:ST T cf X x p):SW T cf X x (.BoolOp .Or [p] pos):=λH₀ O₀=>zT (ha H₀ O₀)
theorem Bg{rest:List Expr}(ha:ST T cf X x p)(hb:SW T cf X y (.BoolOp .And (q::rest) pos)):SW T cf X (.and x y) (.BoolOp .And (p::q::rest) pos):=λH₀ O₀=>by
 refine PW.imp (λσ H Q hq=>?_) (pw_and (ha H₀ O₀) (hb H₀ O₀))
 obtain⟨O,own,e,d,k,F,ev,et,qk⟩:=hq
 rw[A3]at ev
 obtain⟨d1,e1,ev⟩:=Res.bind_ok ev
 obtain⟨c,e2,ev⟩:=Res.bind_ok ev
 refine⟨O,own,e,d1,c,F,e1,e2,λH1 s1=>?_⟩
 cases c with
 |true=>
  rw[if_pos rfl]at ev⊢
  exact⟨O,own,e,d,k,F.grow s1,ev,et,λH' s'=>qk H' (s1.trans s')⟩
 |false=>
  rw[if_neg aU]at ev⊢
  cases ev
  rw[e2]at et;cases et
  exact qk H1 s1
theorem Bh{rest:List Expr}(ha:ST T cf X x p)(hb:SW T cf X y (.BoolOp .Or (q::rest) pos)):SW T cf X (.or x y) (.BoolOp .Or (p::q::rest) pos):=λH₀ O₀=>by
 refine PW.imp (λσ H Q hq=>?_) (zU (ha H₀ O₀) (hb H₀ O₀))
 obtain⟨O,own,e,d,k,F,ev,et,qk⟩:=hq
 rw[A4]at ev
 obtain⟨d1,e1,ev⟩:=Res.bind_ok ev
 obtain⟨c,e2,ev⟩:=Res.bind_ok ev
 refine⟨O,own,e,d1,c,F,e1,e2,λH1 s1=>?_⟩
 cases c with
 |false=>
  rw[if_neg aU]at ev⊢
  exact⟨O,own,e,d,k,F.grow s1,ev,et,λH' s'=>qk H' (s1.trans s')⟩
 |true=>
  rw[if_pos rfl]at ev⊢
  cases ev
  rw[e2]at et;cases et
  exact qk H1 s1
theorem se_ife(hc:ST T cf X x p)(ha:SE T cf X y q)(hb:SE T cf X z r):SE T cf X (.ife x y z) (.IfExp p q r pos):=λH₀ O₀=>by
 refine PE.imp (λσ H Q hq=>?_) (FE (hc H₀ O₀) (ha H₀ O₀) (hb H₀ O₀))
 obtain⟨O,own,e,d,F,ev,k⟩:=hq
 rw[A7]at ev
 obtain⟨d1,e1,ev⟩:=Res.bind_ok ev
 obtain⟨c,e2,ev⟩:=Res.bind_ok ev
 refine⟨O,own,e,d1,c,F,e1,e2,λH1 s1=>?_⟩
 cases c with
 |true=>
  rw[if_pos rfl]at ev⊢
  exact⟨O,own,e,d,F.grow s1,ev,λv H' s' r _=>k v H' (s1.trans s') r (λz=>by cases z)⟩
 |false=>
  rw[if_neg aU]at ev⊢
  exact⟨O,own,e,d,F.grow s1,ev,λv H' s' r _=>k v H' (s1.trans s') r (λz=>by cases z)⟩
theorem Hd{c a b:Expr}{tA ta tb:TT}(hc:PT X c tA)(ha:PT X a ta)(hb:PT X b tb):PT X (.IfExp c a b pos) (λσ H Q=>tA σ H λk H1=>if k=true then ta σ H1 Q else tb σ H1 Q):=by
 intro pins s σ H Q I h
 show wpAny _ _ (isTrue c X.env (eval c X.env)>>=λk=>if k=true then isTrue a X.env (eval a X.env)else isTrue b X.env (eval b X.env)) _ _ s
 refine wpAny_bind (thn (hc pins s σ H _ I h) λk s1 ⟨H1,I1,q1⟩=>?_)
 cases k with
 |true=>exact ha pins s1 σ H1 Q I1 q1
 |false=>exact hb pins s1 σ H1 Q I1 q1
theorem st_ife(hc:ST T cf X x p)(ha:ST T cf X y q)(hb:ST T cf X z r):ST T cf X (.ife x y z) (.IfExp p q r pos):=λH₀ O₀=>by
 refine PT.imp (λσ H Q hq=>?_) (Hd (hc H₀ O₀) (ha H₀ O₀) (hb H₀ O₀))
 obtain⟨O,own,e,d,k,F,ev,et,qk⟩:=hq
 rw[A7]at ev
 obtain⟨d1,e1,ev⟩:=Res.bind_ok ev
 obtain⟨c,e2,ev⟩:=Res.bind_ok ev
 refine⟨O,own,e,d1,c,F,e1,e2,λH1 s1=>?_⟩
 cases c with
 |true=>
  rw[if_pos rfl]at ev⊢
  exact⟨O,own,e,d,k,F.grow s1,ev,et,λH' s'=>qk H' (s1.trans s')⟩
 |false=>
  rw[if_neg aU]at ev⊢
  exact⟨O,own,e,d,k,F.grow s1,ev,et,λH' s'=>qk H' (s1.trans s')⟩
theorem se_neg(ha:SR T cf X x p):SE T cf X (.neg x) (.UnaryOp .USub p pos):=λH₀ O₀=>by
 refine PE.imp (λσ H Q hq=>?_) (pe_un un_neg (ha H₀ O₀))
 obtain⟨O,own,e,d,F,ev,k⟩:=hq
 (first|rw[oP]at ev|rw[A6]at ev)
 obtain⟨d1,e1,ev⟩:=Res.bind_ok ev
 split at ev
 ·cases ev
  refine⟨O,own,e,_,F,e1,λv1 H1 s1 r1=>⟨_,r1.rd rfl,k _ H1 s1 rfl λz=>by cases z⟩⟩
 ·cases ev
end
section
variable{T:Tab}{cf:Nat->List D->Res D}{X:Cx}{x y z:E}{p q r:Expr}{pos pos':Pos}{es:List Expr}
noncomputable def uE(d:D)(od:Option Addr)(H:Hp):Prop:=match d with
 |.int v=>∃dx,od=some dx/\H dx=some (.xd [("at", .int v)])
 |_=>od=none
noncomputable def spD(K:PySem.W.Frag)(F:List D->Res D)(fr:Bool):Sp:=λvs H Q E=>∃O ds,(∀a,O a->∃o,H a=some o)/\RDs K H O ds vs /\
 ((∃d,F ds=.ok d/\∀v H',Same H H'->RD K H' O d v->(fr=true->NewR K H H' O d v)->Q v H')\/∃c d,F ds=.err c d/\∀od H',Same H H'->uE d od H'->E (cvK K c) od H')
noncomputable def nA(T:Tab)(cf:Nat->List D->Res D)(X:Cx)(f:Nat)(n:Str):Prop:=
 ∃k a fd ps,FnOk X.prog X.w X.K X.mg X.base (CXE X.prog X.w) k a fd ps (spD X.K (cf f) (T.fresh f))/\Room k X.A/\X.mg n=some (.ref a)/\PySem.W.keepIn X.K (.ref a)=true/\Binds X.K fd ps []
theorem He{f:Nat}{H₀:Hp}{O₀:Addr->Prop}{σ:L2.St}{H:Hp}{Q:VK}(h:tE T cf X.K H₀ O₀ (.call f x) σ H Q):sY (spD X.K (cf f) (T.fresh f)) [] E0 (tAv T cf X.K H₀ O₀ x) σ H Q:=by
 obtain⟨O,own,e,d,F,ev,k⟩:=h
 rw[A9]at ev
 obtain⟨ds,e1,ev⟩:=Res.bind_ok ev
 refine⟨O,own,e,ds,F,e1,λvs H1 s1 r1 _=>?_⟩
 dsimp only
 rw[lR]
 refine⟨O,ds,(F.grow s1).trk,r1,.inl ⟨d,ev,λv H' s2 r2 n2=>k v H' (s1.trans s2) r2 λfr=>(n2 fr).1.back s1⟩⟩
theorem Hf {f:Nat} {n:Str} {pn:Pos} (hd:nA T cf X f n) (hg:Gl X n) (hdb:(n==("__debug__" : Str))=false) (hp:(p::es).all bA=true) (ha:SAv T cf X x (p::es)):SE T cf X (.call f x) (.Call (.Name n pn) (p::es) [] pos):=λH₀ O₀=>by
 obtain⟨k,a,fd,ps,Fk,hr,hm,hk,hb⟩:=hd
 rw[oB,aH]at hp
 exact PE.imp (λσ H Q h=>He h) (AC Fk hr hg hm hk hb .nil tX (ha H₀ O₀) hdb (bE hp.1) (kC hp.2))
theorem Hg {f:Nat} {n:Str} {pn:Pos} (hd:nA T cf X f n) (hg:Gl X n) (hdb:(n==("__debug__" : Str))=false):SE T cf X (.call f .anil) (.Call (.Name n pn) [] [] pos):=λH₀ O₀=>by
 obtain⟨k,a,fd,ps,Fk,hr,hm,hk,hb⟩:=hd
 refine PE.imp (λσ H Q h=>?_) (FX Fk hr hg hm hk hb .nil tX hdb)
 obtain⟨O,own,e,d,F,ev,k⟩:=h
 rw[A9]at ev
 obtain⟨ds,e1,ev⟩:=Res.bind_ok ev
 rw[oQ]at e1;cases e1
 exact⟨O,[],F.trk,rfl,.inl ⟨d,ev,λv H' s2 r2 n2=>k v H' s2 r2 λfr=>(n2 fr).1⟩⟩
noncomputable def TabF(T:Tab)(cf:Nat->List D->Res D)(X:Cx)(n:Str)(fs:List Nat):Prop:=
 ∃(a:Addr)(xs:List V),X.mg n=some (.ref a)/\(∀H,SqT X.K H a xs)/\xs.length=fs.length/\∀(j f:Nat),fs[j]?=some f->∃(ad:Addr)(m:Str),xs[j]?=some (V.ref ad)/\X.mg m=some (.ref ad)/\nA T cf X f m
noncomputable def TabS(X:Cx)(n:Str)(ss:List Str):Prop:=∃a,X.mg n=some (.ref a)/\ModS X.K a ss
theorem Bi{K:PySem.W.Frag}{H:Hp}{O:Addr->Prop}:∀{ds:List D} {ks:List Key} {xs:List V},iR ds=.ok ks->RDs K H O ds xs->xs=ks.map kV
 |[],ks,xs,h,w=>by
  rw[iR]at h;cases h
  rw[RDs]at w;subst w;rfl
 |d::r,ks,xs,h,w=>by
  rw[iR]at h
  obtain⟨k,h1,h⟩:=Res.bind_ok h
  obtain⟨q,h2,h⟩:=Res.bind_ok h
  cases h
  obtain⟨v,vs,rfl,w1,w2⟩:=w
  rw[Bi h2 w2]
  have h1:=gB h1
  cases d with
  |int i=>cases h1;cases (show v=_ from w1);rfl
  |str z=>cases h1;cases (show v=_ from w1);rfl
  |_=>cases h1
theorem Hh {pn pm pos2:Pos} (hh:X.calm=true) (hR:gA X) (hm1:X.mg "len" = none) (hm2:X.mg "set" = none) (hg1:Gl X "len") (hg2:Gl X "set") (hp:bA p=true) (ha:SR T cf X x p) :
 SE T cf X (.lset x) (.Call (.Name "len" pn) [.Call (.Name "set" pm) [p] [] pos2] [] pos):=λH₀ O₀=>by
 refine PE.imp (λσ H Q hq=>?_) (jW Gy hg1 hm1 PySem.boot_len (cK (mC (Gx hh hR) hg2 hm2 (by decide +kernel) (cK (ha H₀ O₀) dO (bE hp)) (by decide) (by decide) (bE hp) rfl) dO rfl) (by decide) (by decide) rfl rfl)
 obtain⟨O,own,e,d,F,ev,k⟩:=hq
 (first|rw[oP]at ev|rw[tO]at ev|rw[iS]at ev|rw[GQ]at ev)
 obtain⟨d1,e1,ev1⟩:=Res.bind_ok ev
 refine⟨O,own,e,d1,F,e1,λv1 H1 s1 r1=>?_⟩
 have key:∃n:Nat,d=.int n/\BH X.K H1 v1 n:=by
  unfold D.setN at ev1
  cases hk:d1.keys with
  |ok ks=>
   rw[hk]at ev1
   obtain⟨c,ev3⟩:=aV ev1
   rw[decide_eq_true_eq]at c
   cases ev3
   cases d1 with
   |lst ds=>
    refine⟨_,rfl,ks,?_,c,rfl⟩
    obtain⟨a,xs,rfl,q1,w1⟩:=r1.lst
    have e2:iR ds=.ok ks:=hk
    rw[Bi e2 w1]at q1
    exact .inl ⟨a,rfl,q1⟩
   |str z=>
    refine⟨_,rfl,ks,?_,c,rfl⟩
    cases (show v1=.str z from r1.rd rfl)
    cases hk
    exact .inr ⟨z,rfl,rfl⟩
   |_=>cases hk
  |err c z=>
   rw[hk]at ev1
   cases ev1
  |no=>
   rw[hk]at ev1
   cases ev1
 obtain⟨n,rfl,hs⟩:=key
 refine⟨v1,n,rfl,hs,λp hpn=>?_⟩
 exact⟨p,n,rfl,bS,k _ _ (s1.trans (bU hpn _)) rfl λz=>by cases z⟩
theorem nB{K:PySem.W.Frag}{H:Hp}{O:Addr->Prop}:∀{ds:List D} {ns:List Int} {xs:List V},cN ds=.ok ns->RDs K H O ds xs->xs=ns.map V.int
 |[],ns,xs,h,w=>by
  rw[cN]at h;cases h
  rw[RDs]at w;subst w;rfl
 |.int i::r,ns,xs,h,w=>by
  rw[cN]at h
  obtain⟨q,h1,h⟩:=Res.bind_ok h
  cases h
  obtain⟨v,ys,rfl,e1,e2⟩:=w
  cases (show v=_ from e1)
  rw[nB h1 e2];rfl
 |.non::_,_,_,h,_ | .bl _::_,_,_,h,_ | .str _::_,_,_,h,_ | .tup _::_,_,_,h,_ | .lst _::_,_,_,h,_ | .dct _::_,_,_,h,_ | .tdc _::_,_,_,h,_=>by
  rw[cN]at h<;>first|cases h|(intros;rename_i z;cases z)
theorem Bj{K:PySem.W.Frag}{H:Hp}{O:Addr->Prop}:∀(l:List Nat),RDs K H O (l.map λi:Nat=>D.int (i:Int)) (l.map λi:Nat=>V.int (i:Int))
 |[]=>rfl
 |n::l=>⟨_,_,rfl,rfl,Bj l⟩
theorem Hj {pn pm pos2:Pos} (hh:X.calm=true) (hm1:X.mg "sorted" = none) (hm2:X.mg "set" = none) (hg1:Gl X "sorted") (hg2:Gl X "set") (hp:bA p=true) (ha:SR T cf X x p) :
 SE T cf X (.sset x) (.Call (.Name "sorted" pn) [.Call (.Name "set" pm) [p] [] pos2] [] pos):=λH₀ O₀=>by
 refine PE.imp (λσ H Q hq=>?_) (jW (Gw hh) hg1 hm1 (by decide +kernel) (cK (mC (Gv hh) hg2 hm2 (by decide +kernel) (cK (ha H₀ O₀) dO (bE hp)) (by decide) (by decide) (bE hp) rfl) dO rfl) (by decide) (by decide) rfl rfl)
 obtain⟨O,own,e,d,F,ev,k⟩:=hq
 (first|rw[tO]at ev|rw[iS]at ev|rw[GR]at ev)
 obtain⟨d1,e1,ev1⟩:=Res.bind_ok ev
 refine⟨O,own,e,d1,F,e1,λv1 H1 s1 r1=>?_⟩
 cases d1 with
 |lst ds=>
  obtain⟨ns,e2,ev2⟩:=Res.bind_ok (show(cN ds>>=_)=Res.ok d from ev1)
  obtain⟨c,ev3⟩:=aV ev2
  cases ev3
  have hb:∀n∈ns,0<=n/\n<8:=λn hn=>by
   have:=dN.mp c n hn
   rw[aH,decide_eq_true_eq,decide_eq_true_eq]at this
   exact this
  obtain⟨a,xs,rfl,q1,w1⟩:=r1.lst
  rw[nB e2 w1]at q1
  refine⟨a,ns,rfl,q1,hb,λp hpn=>⟨p,m8 ns,rfl,bS,λl hl=>?_⟩⟩
  have F1:=(F.grow s1).grow (bU hpn (tU X.w p (m8 ns)))
  rw[Gu hb]at *
  have z:=iU (K:=X.K) (O:=O) (ds:=oM ns) (Bj ((aD 8).filter λi:Nat=>ns.contains (i:Int))) hl F1.trk
  exact k _ _ ((s1.trans (bU hpn _)).trans (bU hl _)) z.1 λ_=>z.2.back (s1.trans (bU hpn _))
 |non=>cases ev1
 |bl _=>cases ev1
 |int _=>cases ev1
 |str _=>cases ev1
 |tup _=>cases ev1
 |dct _=>cases ev1
 |tdc _=>cases ev1
noncomputable def rB(K:PySem.W.Frag)(f:List D->Res D)(fr:Bool):List V->Hp->VK->Prop:=λvs H Q=>∃O ds d,RRs K H O ds vs/\f ds=.ok d/\(∀a,O a->∃o,H a=some o)/\∀v H',Same H H'->RD K H' O d v->(fr=true->NewL K H H' O d v)->Q v H'
theorem rr1{K:PySem.W.Frag}{H:Hp}{O:Addr->Prop}{d:D}{vs:List V}(h:RRs K H O [d] vs):∃v,vs=[v]/\RR K H O d v:=by
 obtain⟨v,r,rfl,h1,h2⟩:=h
 rw[RRs]at h2;subst h2
 exact⟨v,rfl,h1⟩
theorem Hk (hh:X.calm=true):dH X (.builtin "sum") (λxs H Q=>∃(a:Addr) (ns:List Int),xs=[.ref a]/\SqL X.K H a (ns.map V.int)/\Q (.int ns.sum) H):=by
 intro pins s σ H xs us Q I r h
 obtain⟨a,ns,rfl,hq,q⟩:=h
 obtain⟨u,rfl,rx⟩:=jH r
 cases rx
 obtain⟨its,r',pl,hz⟩:=I.list hq
 have hi:IntsAre its ns:=intsAre_of r'
 have hall:=hi.allInts
 obtain⟨ys,hys⟩:=hall.items
 have hn:(numsOf its.toArray.toList)=ns:=by rw[show its.toArray.toList=its by simp];exact hi.numsOf
 refine sum_intListG (xs:=ys) (I.ok.hd hh) (by rw[<-hys];exact pl.isList) λh' tk t' hk=>?_
 refine⟨.int ns.sum,H,I.kept (t':=tk) hk,⟨t',?_⟩,q⟩
 rw[hys,nums_intItems]at hn
 rw[preSum_eq,sL (by simp),<-hn]
noncomputable def Bt.val:Bt->Value
 |.len=>.builtin "len"
 |.sum=>.builtin "sum"
 |.tuple=>.type "tuple"
 |.list=>.type "list"
 |.int=>.type "int"
 |.str=>.type "str"
 |.bool=>.type "bool"
 |.abs=>.builtin "abs"
 |.min=>.builtin "min"
 |.max=>.builtin "max"
 |.all=>.builtin "all"
 |.any=>.builtin "any"
noncomputable def Bt.nm:Bt->Str
 |.len => "len"
 |.sum => "sum"
 |.tuple => "tuple"
 |.list => "list"
 |.int => "int"
 |.str => "str"
 |.bool => "bool"
 |.abs => "abs"
 |.min => "min"
 |.max => "max"
 |.all => "all"
 |.any => "any"
theorem uF{b:Bt}{ds:List D}{d:D}(h:b.run ds=.ok d)(hb:∀d1 d2,b.two d1 d2=.no):∃d0,ds=[d0]/\b.one d0=.ok d:=by
 unfold Bt.run at h
 split at h
 ·exact⟨_,rfl,h⟩
 ·rw[hb]at h;cases h
 ·cases h
theorem bt_len:dH X (.builtin "len") (rB X.K (Bt.run .len) false):=by
 intro pins s σ H xs us Q I rv h
 obtain⟨O,ds,d,rr,ev,tr,k⟩:=h
 obtain⟨d0,rfl,ev⟩:=uF ev (λ_ _=>rfl)
 obtain⟨v,rfl,r1⟩:=rr1 rr
 have ev:D.len d0=.ok d:=ev
 unfold D.len at ev
 split at ev
 ·cases ev
  obtain⟨a,ys,rfl,q1,w1⟩:=r1.lst
  exact AM pins s σ H _ us Q I rv ⟨a,ys,rfl,.inl q1,k _ H (Same.refl H) (by rw[w1.length];exact rfl) (λz=>by cases z)⟩
 ·cases ev
  obtain⟨a,ys,rfl,q1,w1⟩:=r1.tup
  exact AM pins s σ H _ us Q I rv ⟨a,ys,rfl,.inr q1,k _ H (Same.refl H) (by rw[w1.length];exact rfl) (λz=>by cases z)⟩
 ·obtain⟨c,ev⟩:=aV ev
  cases ev
  cases (show v=_ from r1.rd rfl)
  exact Fl pins s σ H _ us Q I rv ⟨_,rfl,by rw[<-fN];exact of_decide_eq_true c,k _ H (Same.refl H) rfl (λz=>by cases z)⟩
 ·cases ev
  obtain⟨a,ps,rfl,q1,w1⟩:=r1.dct
  obtain⟨u,rfl,ru⟩:=jH rv
  cases ru
  exact d_len I q1 λt s' I'=>⟨.int _,H,I',⟨t,rfl⟩,k _ H (Same.refl H) (by rw[w1.length];exact rfl) (λz=>by cases z)⟩
 ·cases ev
theorem bt_sum (hh:X.calm=true):dH X (.builtin "sum") (rB X.K (Bt.run .sum) false):=by
 intro pins s σ H xs us Q I rv h
 obtain⟨O,ds,d,rr,ev,tr,k⟩:=h
 obtain⟨d0,rfl,ev⟩:=uF ev (λ_ _=>rfl)
 obtain⟨v,rfl,r1⟩:=rr1 rr
 have ev:D.sum d0=.ok d:=ev
 unfold D.sum at ev
 split at ev
 ·obtain⟨ns,e1,ev⟩:=Res.bind_ok ev
  cases ev
  obtain⟨a,ys,rfl,q1,w1⟩:=r1.lst
  have e:=nB e1 w1
  subst e
  exact Hk hh pins s σ H _ us Q I rv ⟨a,ns,rfl,q1,k _ H (Same.refl H) rfl (λz=>by cases z)⟩
 ·cases ev
theorem Hl:dH X (.type "tuple") (rB X.K (Bt.run .tuple) false):=by
 intro pins s σ H xs us Q I rv h
 obtain⟨O,ds,d,rr,ev,tr,k⟩:=h
 obtain⟨d0,rfl,ev⟩:=uF ev (λ_ _=>rfl)
 obtain⟨v,rfl,r1⟩:=rr1 rr
 have ev:D.tuple d0=.ok d:=ev
 unfold D.tuple at ev
 split at ev
 ·cases ev
  obtain⟨a,ys,rfl,q1,w1⟩:=r1.lst
  exact AN pins s σ H _ us Q I rv ⟨a,ys,rfl,.inl ⟨q1,λl hl=>k _ _ (bU hl _) (mX w1 hl) (λz=>by cases z)⟩⟩
 ·cases ev
  obtain⟨a,ys,rfl,q1,w1⟩:=r1.tupV
  exact AN pins s σ H _ us Q I rv ⟨a,ys,rfl,.inr ⟨q1.sq,k _ H (Same.refl H) ⟨a,ys,rfl,q1,w1⟩ (λz=>by cases z)⟩⟩
 ·cases ev
theorem Bk{K:PySem.W.Frag}{H:Hp}{O:Addr->Prop}:∀{ds:List D} {ns:List Str} {xs:List V},iB ds=.ok ns->RDs K H O ds xs->xs=ns.map V.str
 |[],ns,xs,h,w=>by
  rw[iB]at h;cases h
  rw[RDs]at w;subst w;rfl
 |.str i::r,ns,xs,h,w=>by
  rw[iB]at h
  obtain⟨q,h1,h⟩:=Res.bind_ok h
  cases h
  obtain⟨v,ys,rfl,e1,e2⟩:=w
  cases (show v=_ from e1)
  rw[Bk h1 e2];rfl
 |.non::_,_,_,h,_ | .int _::_,_,_,h,_ | .bl _::_,_,_,h,_ | .tup _::_,_,_,h,_ | .lst _::_,_,_,h,_ | .dct _::_,_,_,h,_ | .tdc _::_,_,_,h,_=>by
  rw[iB]at h<;>first|cases h|(intros;rename_i z;cases z)
theorem tcb_of{b:Bt}{H₀:Hp}{O₀:Addr->Prop}{σ:L2.St}{H:Hp}{Q:VK}(h:tE T cf X.K H₀ O₀ (.bt b x) σ H Q):tCB (rB X.K (Bt.run b) (bL T (.bt b x))) (tAr T cf X.K H₀ O₀ x) σ H Q:=by
 obtain⟨O,own,e,d,F,ev,k⟩:=h
 rw[xE_bt]at ev
 obtain⟨ds,e1,ev⟩:=Res.bind_ok ev
 refine⟨O,own,e,ds,F,e1,λvs H1 s1 r1=>?_⟩
 refine⟨O,ds,d,r1,ev,(F.grow s1).trk,λv H' s2 r2 n2=>k v H' (s1.trans s2) r2 λfr=>(n2 fr).back s1⟩
noncomputable def Bt.use:Bt->Bool
 |.list=>false
 |.int=>false
 |.str=>false
 |.bool=>false
 |.abs=>false
 |.min=>false
 |.max=>false
 |.all=>false
 |.any=>false
 |_=>true
theorem se_bt{b:Bt}{n:Str}{pn:Pos}(hu:b.use=true)(hh:X.calm=true)(hn:n=b.nm)(hm:X.mg b.nm=none)(hg:Gl X n)(hp:(p::es).all bA=true)(ha:SAr T cf X x (p::es)):SE T cf X (.bt b x) (.Call (.Name n pn) (p::es) [] pos):=λH₀ O₀=>by
 subst hn
 rw[oB,aH]at hp
 refine PE.imp (λσ H Q h=>tcb_of h) ?_
 cases b with
 |len=>exact jW bt_len hg hm PySem.boot_len (ha H₀ O₀) (by decide) (by decide) (bE hp.1) (kC hp.2)
 |sum=>exact jW (bt_sum hh) hg hm PyProof.Rows.boot_sum (ha H₀ O₀) (by decide) (by decide) (bE hp.1) (kC hp.2)
 |tuple=>exact mC Hl hg hm PyProof.Rows.boot_tuple (ha H₀ O₀) (by decide) (by decide) (bE hp.1) (kC hp.2)
 |list=>cases hu
 |int=>cases hu
 |str=>cases hu
 |bool=>cases hu
 |abs=>cases hu
 |min=>cases hu
 |max=>cases hu
 |all=>cases hu
 |any=>cases hu
noncomputable def Ty.nm:Ty->String
 |.int => "int"
 |.bool => "bool"
 |.str => "str"
 |.tuple => "tuple"
 |.list => "list"
theorem Hm (K:PySem.W.Frag) (t:Ty):PySem.W.kitOne K (.type "NoneType") (.type t.nm)=some (D.isTy .non t):=by cases t<;>rfl
theorem kit_bl (K:PySem.W.Frag) (t:Ty) (b:Bool):PySem.W.kitOne K (.type "bool") (.type t.nm)=some (D.isTy (.bl b) t):=by cases t<;>rfl
theorem Hn (K:PySem.W.Frag) (t:Ty) (i:Int):PySem.W.kitOne K (.type "int") (.type t.nm)=some (D.isTy (.int i) t):=by cases t<;>rfl
theorem Ho (K:PySem.W.Frag) (t:Ty) (x:Str):PySem.W.kitOne K (.type "str") (.type t.nm)=some (D.isTy (.str x) t):=by cases t<;>rfl
theorem Hq (K:PySem.W.Frag) (t:Ty) (x:List D):PySem.W.kitOne K (.type "tuple") (.type t.nm)=some (D.isTy (.tup x) t):=by cases t<;>rfl
theorem Hr (K:PySem.W.Frag) (t:Ty) (x:List D):PySem.W.kitOne K (.type "list") (.type t.nm)=some (D.isTy (.lst x) t):=by cases t<;>rfl
theorem isi_D (t:Ty):dH X (.builtin "isinstance") (λxs H Q=>∃O d v,xs=[v,.ty t.nm]/\RR X.K H O d v/\d.isDct=false/\Q (.bl (d.isTy t)) H):=by
 intro pins s σ H xs us Q I rv h
 obtain⟨O,d,v,rfl,r,nd,q⟩:=h
 obtain⟨u,w,rfl,r1,r2⟩:=vals2 rv
 cases (show w=_ from r2)
 have fin:∀tk,EP X pins σ Q (.bool (d.isTy t)) {s with toks:=tk}:=λtk=>⟨.bl (d.isTy t),H,I.tok tk,rfl,q⟩
 have sn:=uB I r r1
 cases sn with
 |dct ds a ps q w=>cases nd
 |tdc ds a ps q w=>cases nd
 |non=>exact PySem.W.kia_one PySem.W.kitx_none I.kIn True.intro (Hm _ t) (λz=>nomatch z) fin
 |bl b=>exact PySem.W.kia_one PySem.W.kitx_bool I.kIn True.intro (kit_bl _ t b) (λz=>nomatch z) fin
 |int i tk=>exact PySem.W.kia_one PySem.W.kitx_int I.kIn True.intro (Hn _ t i) (λz=>nomatch z) fin
 |str x tk=>exact PySem.W.kia_one PySem.W.kitx_str I.kIn True.intro (Ho _ t x) (λz=>nomatch z) fin
 |tup ds a xs its q w r p=>
  obtain⟨o,h1,h2,_⟩:=p
  exact PySem.W.kia_one PySem.W.kitx_tuple I.kIn ⟨o,h1,h2⟩ (Hq _ t ds) (λz=>nomatch z) fin
 |lst ds a xs its q w r p=>
  obtain⟨o,h1,h2,_⟩:=p.isList
  exact PySem.W.kia_one PySem.W.kitx_list I.kIn ⟨o,h1,h2⟩ (Hr _ t ds) (λz=>nomatch z) fin
theorem Hs(t:Ty):bootBuiltins (Str.ofString t.nm)=some (.type t.nm):=by
 cases t
 ·exact PyProof.Rows.boot_int
 ·exact PyProof.Rows.boot_bool
 ·exact PyProof.Rows.boot_str
 ·exact PyProof.Rows.boot_tuple
 ·exact PyProof.Rows.boot_list
theorem se_isi {t:Ty} {n m:Str} {pn pm:Pos} (hn:n = "isinstance") (hm':m=Str.ofString t.nm) (h0:X.mg "isinstance" = none) (h1:X.mg (Str.ofString t.nm)=none) (hg:Gl X n) (hg':Gl X m) (hp:bA p=true) (ha:SR T cf X x p) :
 SE T cf X (.isi x t) (.Call (.Name n pn) [p,.Name m pm] [] pos):=λH₀ O₀=>by
 subst hn hm'
 have ht:PE X (.Name (Str.ofString t.nm) pm) (tC (.ty t.nm)):=FC hg' h1 (Hs t) rfl (by cases t<;>decide) (by cases t<;>decide)
 refine PE.imp (λσ H Q hq=>?_) (jW (isi_D t) hg h0 PyProof.Rows.boot_isinstance (cK (ha H₀ O₀) (cK ht dO (bE rfl)) (bE hp)) (by decide) (by decide) (bE hp) (kC rfl))
 obtain⟨O,own,e,d,F,ev,k⟩:=hq
 rw[xE_isi]at ev
 obtain⟨d1,e1,ev⟩:=Res.bind_ok ev
 obtain⟨c,ev⟩:=aV ev
 cases ev
 refine⟨O,own,e,d1,F,e1,λv1 H1 s1 r1=>?_⟩
 exact⟨O,d1,v1,rfl,r1,by simpa using c,k _ H1 s1 rfl (λz=>by cases z)⟩
noncomputable def Mt.nm:Mt->Str
 |.join => "join"
noncomputable def uG:Expr->Bool
 |.Name _ _=>true
 |.Constant _ _ _=>true
 |.Subscript _ _ _=>true
 |.BinOp _ _ _ _=>true
 |_=>false
theorem base_of {e:Expr} {nm:Str} {env:Env} (h:uG e=true) (hn:(nm==("__class__" : Str))=false):attributeBase e nm env (eval e env)=eval e env:=by
 cases e<;>first|(cases h;done)|rfl
theorem se_mth{m:Mt}{nm:Str}{apos cpos:Pos}(hnm:nm=m.nm)(hbase:attributeBase p nm X.env (eval p X.env)=eval p X.env)(hline:(apos.endLine==cpos.line)=true)(hp:bA q=true)(ha:SE T cf X x p)(hb:SR T cf X y q) :
 SE T cf X (.mth m x y) (.Call (.Attribute p nm apos) [q] [] cpos):=λH₀ O₀=>by
 subst hnm
 cases m with
 |join=>
  refine PE.imp (λσ H Q hq=>?_) (oI PySem.F.plainAttrs_str PySem.F.slot_str_join PySem.F.type_str_join G6 (ha H₀ O₀) (cK (hb H₀ O₀) dO (bE hp)) hbase (by rw[bE hp];rfl) hline (bE hp) rfl)
  obtain⟨O,own,e,d,F,ev,k⟩:=hq
  (first|rw[oP]at ev|rw[iS]at ev|rw[xE_mth]at ev)
  obtain⟨d1,e1,ev⟩:=Res.bind_ok ev
  obtain⟨d2,e2,ev⟩:=Res.bind_ok ev
  cases d1 with
  |str z=>
   cases d2 with
   |lst ds=>
    have ev:(do let xs<-iB ds;aE (decide (z.length<=64)&&decide ((xs.map (·.length)).sum+xs.length*64<=big)) (.ok (D.str (jK z xs))))=Res.ok d:=ev
    obtain⟨xs,e3,ev⟩:=Res.bind_ok ev
    obtain⟨cc,ev⟩:=aV ev
    rw[aH,decide_eq_true_eq,decide_eq_true_eq]at cc
    cases ev
    refine⟨O,own,e,_,F,e1,λv1 H1 s1 r1 _=>?_⟩
    cases (show v1=_ from r1)
    refine⟨rfl,O,own,e,_,F.grow s1,e2,λv2 H2 s2 r2=>?_⟩
    obtain⟨a,ys,rfl,q1,w1⟩:=r2.lst
    have ey:=Bk e3 w1
    subst ey
    exact⟨z,a,xs,rfl,rfl,q1,cc.1,cc.2,k _ H2 (s1.trans s2) rfl λz=>by cases z⟩
   |_=>cases ev
  |_=>cases ev
end
inductive Pin where
 |dv (d:D) (v:V)|fr (a:Addr) (o:Obj) (u:HO)
noncomputable def PinOk(K:PySem.W.Frag)(H:Hp)(O:Addr->Prop):Pin->Prop
 |.dv d v=>RD K H O d v
 |.fr a o u=>H a=some (.frz o u)
noncomputable def lF(K:PySem.W.Frag)(H:Hp)(O:Addr->Prop):Pin->Prop
 |.dv d v=>RR K H O d v
 |.fr a o u=>H a=some (.frz o u)
section
variable{K:PySem.W.Frag}{H H':Hp}{O O':Addr->Prop}{p:Addr}{t:Pin}
theorem PinOk.rr(h:PinOk K H O t):lF K H O t:=by
 cases t with
 |dv d v=>exact RD.rr h
 |fr a o u=>exact h
theorem PinOk.same(h:PinOk K H O t)(s:Same H H'):PinOk K H' O t:=by
 cases t with
 |dv d v=>exact RD.same s h
 |fr a o u=>exact s _ _ h
theorem PinOk.new(h:PinOk K H O t)(hp:H p=none):PinOk K H (cZ O p) t:=by
 cases t with
 |dv d v=>exact RD.new hp h
 |fr a o u=>exact h
theorem PinOk.weak(h:PinOk K H O t)(s:∀a,O' a->O a):PinOk K H O' t:=by
 cases t with
 |dv d v=>exact RD.weak s h
 |fr a o u=>exact h
theorem PinOk.updM{o o':HO}(h:PinOk K H O t)(hO:O p)(hp:H p=some o)(hm:gP o):PinOk K (L2.upd H p o') O t:=by
 cases t with
 |dv d v=>exact RD.updM hO hp hm h
 |fr a o1 u=>exact(eI (K:=K) hO hp hm).2.2 a o1 u h
theorem PinOk.upd{ys zs:List V}(h:PinOk K H O t)(hO:O p)(hp:H p=some (.lst ys)):PinOk K (L2.upd H p (.lst zs)) O t:=h.updM hO hp trivial
end
noncomputable def Wk1(K:PySem.W.Frag)(J:It)(d0:D)(v0:V)(ds:List D):Prop:=∀i H O,RR K H O d0 v0 ->
 (i<ds.length->J.go i H)/\(ds.length<=i->J.stop i H)/\∀x H' d,ds[i]?=some d->J.yld i H x H'->Same H H'/\RD K H' O d x
noncomputable def Wk(K:PySem.W.Frag)(J:It)(srs:List Pin)(ds:List D):Prop:=∀i H O,(∀t∈srs,lF K H O t) ->
 (i<ds.length->J.go i H)/\(ds.length<=i->J.stop i H)/\∀x H' d,ds[i]?=some d->J.yld i H x H'->Same H H'/\RD K H' O d x
theorem Wk1.wk{K:PySem.W.Frag}{J:It}{d0:D}{v0:V}{ds:List D}(h:Wk1 K J d0 v0 ds):Wk K J [.dv d0 v0] ds:=λi H O r=>h i H O (r (.dv d0 v0) (bX.mpr rfl))
theorem pM{K:PySem.W.Frag}{H:Hp}{O:Addr->Prop}{rd:Bool}{ds:List D}{R:It->Hp->Prop}(k:∀J H' srs,Same H H'->(∀t∈srs,lF K H' O t)->(rd=false->∀t∈srs,PinOk K H' O t)->Wk K J srs ds->R J H') :
 ∀J H' d0 v0,Same H H'->RR K H' O d0 v0->(rd=false->RD K H' O d0 v0)->Wk1 K J d0 v0 ds->R J H':=λJ H' d0 v0 s r rv w=>
 k J H' [.dv d0 v0] s (λt ht=>by rw[bX.mp ht];exact r) (λz t ht=>by rw[bX.mp ht];exact rv z) w.wk
noncomputable def tI(T:Tab)(cf:Nat->List D->Res D)(K:PySem.W.Frag)(H₀:Hp)(O₀:Addr->Prop)(x:E)(rd:Bool):TI:=λσ H R=>∃O own e ds,Fm K H₀ O₀ H O own e σ/\evI T cf x e=.ok ds /\
 ∀J H' srs,Same H H'->(∀t∈srs,lF K H' O t)->(rd=false->∀t∈srs,PinOk K H' O t)->Wk K J srs ds->R J H'
noncomputable def SI(T:Tab)(cf:Nat->List D->Res D)(X:Cx)(tg:Expr)(x:E)(rd:Bool)(p:Expr):Prop:=∀H₀ O₀,PI X tg p (tI T cf X.K H₀ O₀ x rd)
section
variable{T:Tab}{cf:Nat->List D->Res D}{X:Cx}{x y z:E}{p q r tg:Expr}{pos pos':Pos}{es:List Expr}
theorem Ht{K:PySem.W.Frag}{a:Addr}{ds:List D}:Wk1 K (Itl K a) (.lst ds) (.ref a) ds:=by
 intro i H O r
 obtain⟨a',xs,e,q,w⟩:=r.lst
 cases e
 have hl:=w.length
 refine⟨λh=>?_,λh=>⟨xs,q,by lia⟩,λx H' d hd y=>?_⟩
 ·obtain⟨v,h1,h2⟩:=w.get (aX h)
  exact⟨xs,v,q,h1⟩
 ·obtain⟨rfl,y⟩:=y
  refine⟨Same.refl _,?_⟩
  obtain⟨v,h1,h2⟩:=w.get hd
  have:=(y xs q).symm.trans h1
  cases this
  exact h2
theorem wk_tup{K:PySem.W.Frag}{a:Addr}{ds:List D}:Wk1 K (Itt K a) (.tup ds) (.ref a) ds:=by
 intro i H O r
 obtain⟨a',xs,e,q,w⟩:=r.tup
 cases e
 have hl:=w.length
 refine⟨λh=>?_,λh=>⟨xs,q,by lia⟩,λx H' d hd y=>?_⟩
 ·obtain⟨v,h1,h2⟩:=w.get (aX h)
  exact⟨xs,v,q,h1⟩
 ·obtain⟨rfl,y⟩:=y
  refine⟨Same.refl _,?_⟩
  obtain⟨v,h1,h2⟩:=w.get hd
  have:=(y xs q).symm.trans h1
  cases this
  exact h2
theorem uH(lo:Int):∀n,(eA lo n).length=n
 |0=>rfl
 |n+1=>by rw[eA,aP,uH (lo+1) n]
theorem Bl:∀(lo:Int)(n i:Nat),i<n->(eA lo n)[i]?=some (.int (lo+i))
 |lo,0,i,h=>absurd h (zG _)
 |lo,n+1,0,_=>by rw[eA];simp
 |lo,n+1,i+1,h=>by
  rw[eA,Lo,Bl (lo+1) n i (by lia)]
  congr 2
  push_cast
  lia
theorem Bm{K:PySem.W.Frag}{lo:Int}{n:Nat}:Wk1 K (Itr lo n) .non .non (eA lo n):=by
 intro i H O r
 rw[uH]
 refine⟨λh=>h,λh=>h,λx H' d hd y=>?_⟩
 obtain⟨rfl,rfl⟩:=y
 refine⟨Same.refl _,?_⟩
 by_cases hi:i<n
 ·rw[Bl lo n i hi]at hd
  cases hd
  exact rfl
 ·rw[jS (by rw[uH];lia)]at hd
  cases hd
theorem wk_str{K:PySem.W.Frag}{z:Str}:Wk1 K (Its z) (.str z) (.str z) (z.cps.toList.map λc=>D.str (chr1 c)):=by
 intro i H O r
 rw[aF]
 refine⟨λh=>by simpa[Its]using h,λh=>by simpa[Its]using h,λx H' d hd y=>?_⟩
 obtain⟨rfl,c,hc,rfl⟩:=y
 refine⟨Same.refl _,?_⟩
 rw[bK]at hd
 have hc':z.cps.toList[i]?=some c:=by simpa using hc
 rw[hc']at hd
 cases hd
 exact rfl
theorem si_seq{rd:Bool}(ha:SR T cf X x p)(hv:rd=false->SE T cf X x p):SI T cf X tg (.seq x) rd p:=by
 intro H₀ O₀ pins s σ H R I h
 obtain⟨O,own,e,ds,F,ev,k⟩:=h
 replace k:=pM k
 rw[xI_seq]at ev
 obtain⟨d1,e1,ev⟩:=Res.bind_ok ev
 have main:∀{u:Value} {s1:Shared} {v:V} {H1:Hp},Inv X pins σ H1 s1->RelV v u->Same H H1->RR X.K H1 O d1 v->(rd=false->RD X.K H1 O d1 v)->wpAny (model X.prog X.w) X.A (pyIter u) (PIE X pins σ tg R) X.xe s1:=by
  intro u s1 v H1 I1 r1 s1' rr rv
  unfold D.items at ev
  split at ev
  ·cases ev
   obtain⟨a,xs,e,q1,w1⟩:=rr.lst
   subst e
   cases r1
   obtain⟨its,r',pl,hz⟩:=I1.list q1
   refine wpAny_pyIter_list pl.isList ?_
   refine⟨s1.heap.objs.size,[s1.heap.objs.size],_,Itl X.K a,H1,rfl,I1.kept (t':=s1.toks) λb u e=>Heap.get?_push_of_some _ e,FJ a _,⟨_,Heap.get?_push_size _ rfl,rfl,rfl⟩,λb hb=>?_,k _ H1 _ _ s1' rr rv Ht⟩
   rcases aO.mp hb with rfl|hb
   ·exact I1.fpOk (aN _) (I1.hok.fresh (aN _))
   ·cases hb
  ·cases ev
   obtain⟨a,xs,e,q1,w1⟩:=rr.tup
   subst e
   cases r1
   obtain⟨its,r',pl,hz⟩:=I1.tuple q1
   refine wpAny_pyIter_tuple pl ?_
   refine⟨s1.heap.objs.size,[s1.heap.objs.size],_,Itt X.K a,H1,rfl,I1.kept (t':=s1.toks) λb u e=>Heap.get?_push_of_some _ e,FK a _,⟨_,Heap.get?_push_size _ rfl,rfl,rfl⟩,λb hb=>?_,k _ H1 _ _ s1' rr rv wk_tup⟩
   rcases aO.mp hb with rfl|hb
   ·exact I1.fpOk (aN _) (I1.hok.fresh (aN _))
   ·cases hb
  ·cases ev
   rename_i z
   cases (show v=.str z from rr.rd rfl)
   obtain⟨t,rfl⟩:=r1
   exact pi_str I1 (k _ H1 (.str z) (.str z) s1' rr rv wk_str)
  ·cases ev
 cases rd with
 |true=>exact thn (ha H₀ O₀ pins s σ H (λv H1=>Same H H1/\RR X.K H1 O d1 v) I ⟨O,own,e,d1,F,e1,λv H' s' r=>⟨s',r⟩⟩) λu s1 ⟨v,H1,I1,r1,s1',rr⟩=>main I1 r1 s1' rr (λz=>by cases z)
 |false=>exact thn (hv rfl H₀ O₀ pins s σ H (λv H1=>Same H H1/\RD X.K H1 O d1 v) I ⟨O,own,e,d1,F,e1,λv H' s' r _=>⟨s',r⟩⟩) λu s1 ⟨v,H1,I1,r1,s1',rr⟩=>main I1 r1 s1' rr.rr (λ_=>rr)
theorem si_rng {rd:Bool} {n:Str} {pn:Pos} (hn:n = "range") (hg:Gl X n) (hm:X.mg "range" = none) (hp:bA p=true) (ha:SE T cf X x p):SI T cf X tg (.rng x) rd (.Call (.Name n pn) [p] [] pos):=by
 intro H₀ O₀ pins s σ H R I h
 subst hn
 obtain⟨O,own,e,ds,F,ev,k⟩:=h
 replace k:=pM k
 rw[Ac]at ev
 obtain⟨d1,e1,ev⟩:=Res.bind_ok ev
 refine FM hg hm (cK (ha H₀ O₀) dO (bE hp)) (bE hp) pins s σ H R I ⟨O,own,e,d1,F,e1,λv H' s' r _=>?_⟩
 split at ev
 ·obtain⟨c,ev⟩:=aV ev
  cases ev
  cases (show v=_ from r)
  simp only[eP,aH,decide_eq_true_eq]at c
  exact⟨_,rfl,c.1,c.2,k _ H' .non .non s' (.inl rfl) (λ_=>rfl) Bm⟩
 ·cases ev
theorem Hu {rd:Bool} {n:Str} {pn:Pos} (hn:n = "range") (hg:Gl X n) (hm:X.mg "range" = none) (hp:bA p=true) (hq:bA q=true) (ha:SE T cf X x p) (hb:SE T cf X y q):SI T cf X tg (.rng2 x y) rd (.Call (.Name n pn) [p,q] [] pos):=by
 intro H₀ O₀ pins s σ H R I h
 subst hn
 obtain⟨O,own,e,ds,F,ev,k⟩:=h
 replace k:=pM k
 rw[Ad]at ev
 obtain⟨d1,e1,ev⟩:=Res.bind_ok ev
 split at ev
 ·obtain⟨d2,e2,ev⟩:=Res.bind_ok ev
  split at ev
  ·obtain⟨c,ev⟩:=aV ev
   cases ev
   simp only[eP,aH,decide_eq_true_eq]at c
   refine FN hg hm (cK (ha H₀ O₀) (cK (hb H₀ O₀) dO (bE hq)) (bE hp)) (by rw[bE hp,bE hq];rfl) (bE hq) pins s σ H R I ⟨O,own,e,_,F,e1,λv H1 s1 r1 _=>⟨O,own,e,_,F.grow s1,e2,λv2 H2 s2 r2 _=>?_⟩⟩
   cases (show v=_ from r1)
   cases (show v2=_ from r2)
   exact⟨_,_,rfl,⟨c.1.1,c.1.2,c.2.1,c.2.2⟩,k _ H2 .non .non (s1.trans s2) (.inl rfl) (λ_=>rfl) Bm⟩
  ·cases ev
 ·cases ev
noncomputable def Ft(K:PySem.W.Frag)(H₀:Hp)(O₀:Addr->Prop)(ts:List Pin)(e:Nv)(σ:L2.St)(H:Hp):Prop:=∃O own,Fm K H₀ O₀ H O own e σ/\∀t∈ts,PinOk K H O t
noncomputable def tG(K:PySem.W.Frag)(H₀:Hp)(O₀:Addr->Prop)(g:G):TG:=λv σ H Q=>∃O own e d e',Fm K H₀ O₀ H O own e σ/\RD K H O d v/\g.put d e=.ok e'/\∀σ' own',(∀j a,own' j=some a->own j=some a)->Fm K H₀ O₀ H O own' e' σ'->Q σ' H
noncomputable def SG(X:Cx)(g:G)(tg:Expr):Prop:=∀H₀ O₀,PG X tg (tG X.K H₀ O₀ g)
theorem PG.imp{t t':TG}(h:∀v σ H Q,t' v σ H Q->t v σ H Q)(hp:PG X tg t):PG X tg t':=λpins s σ H v u Q I r q=>hp pins s σ H v u Q I r (h v σ H Q q)
theorem Bo{own:Nat->Option Addr}{i:Nat}:∀j a,(λj=>if j=i then none else own j) j=some a->own j=some a:=λj a h=>by
 dsimp only at h
 by_cases hj:j=i
 ·rw[if_pos hj]at h;cases h
 ·rw[if_neg hj]at h;exact h
theorem sg_one{i:Nat}{n:Str}(hN:X.N.Nodup)(hi:X.N[i]?=some n)(hx:Loc X.env.scope n)(hf:X.fn n=true\/X.env.scope.names.lookup n=some .local):SG X (.one i) (.Name n pos):=λH₀ O₀=>
 PG.imp (λv σ H Q ⟨O,own,e,d,e',F,r,ev,k⟩=>by
  cases ev
  exact k _ _ Bo (F.setV i r)) (zX hN hi hx hf)
noncomputable def tGs(K:PySem.W.Frag)(H₀:Hp)(O₀:Addr->Prop)(is:List Nat):TGs:=λvs σ H Q=>∃O own e ds e',Fm K H₀ O₀ H O own e σ/\RDs K H O ds vs/\cY is ds e=.ok e'/\∀σ' own',(∀j a,own' j=some a->own j=some a)->Fm K H₀ O₀ H O own' e' σ'->Q σ' H
noncomputable def SGs(X:Cx)(is:List Nat)(tgs:List Expr):Prop:=∀H₀ O₀,PGs X tgs (tGs X.K H₀ O₀ is)
theorem PGs.imp{tgs:List Expr}{t t':TGs}(h:∀v σ H Q,t' v σ H Q->t v σ H Q)(hp:PGs X tgs t):PGs X tgs t':=λpins s σ H v u Q I r q=>hp pins s σ H v u Q I r (h v σ H Q q)
theorem Hv:SGs X [] []:=λH₀ O₀=>PGs.imp (λvs σ H Q ⟨O,own,e,ds,e',F,r,ev,k⟩=>by
 cases ds with
 |nil=>
  simp only[cY]at ev
  cases ev
  rw[RDs]at r
  exact⟨r,k _ _ (λ_ _ h=>h) F⟩
 |cons d ds=>simp only[cY]at ev;cases ev) FH
theorem Hw{n:Str}{pos:Pos}{es:List Expr}{env:Env}:(assignEach (.Name n pos::es) env).map (·.2)=assign (.Name n pos) env::(assignEach es env).map (·.2):=rfl
theorem Hx{i:Nat}{is:List Nat}{n:Str}(hN:X.N.Nodup)(hi:X.N[i]?=some n)(hx:Loc X.env.scope n)(hf:X.fn n=true\/X.env.scope.names.lookup n=some .local)(h:SGs X is es):SGs X (i::is) (.Name n pos::es):=λH₀ O₀=>
 PGs.imp (λvs σ H Q ⟨O,own,e,ds,e',F,r,ev,k⟩=>by
  cases ds with
  |nil=>simp only[cY]at ev;cases ev
  |cons d ds=>
   rw[cY]at ev
   obtain⟨v,vr,rfl,r1,r2⟩:=r
   exact⟨v,vr,rfl,O,_,_,ds,e',F.setV i r1,r2,ev,λσ' own' h=>k σ' own' λj a q=>Bo j a (h j a q)⟩) (FI (zX hN hi hx hf) (h H₀ O₀) Hw)
noncomputable def nC:List Expr->Bool
 |[]=>true
 |.Name _ _::r=>nC r
 |_=>false
theorem Hy{env:Env}:∀{es:List Expr},nC es=true->(assignEach es env).length=es.length:=by
 intro es
 induction es with
 |nil=>intro _;rfl
 |cons e es ih=>
  intro h
  cases e with
  |Name n pos=>
   show((false,assign (.Name n pos) env)::assignEach es env).length=_
   rw[aP,ih h,aP]
  |_=>exact absurd h aU
theorem Hz{env:Env}:∀{es:List Expr},nC es=true->(assignEach es env).findIdx? (·.1)=none:=by
 intro es
 induction es with
 |nil=>intro _;rfl
 |cons e es ih=>
  intro h
  cases e with
  |Name n pos=>
   show((false,assign (.Name n pos) env)::assignEach es env).findIdx? (·.1)=none
   rw[List.findIdx?_cons,ih h];rfl
  |_=>exact absurd h aU
theorem Bp:∀{is:List Nat} {ds:List D} {e e':Nv},cY is ds e=.ok e'->ds.length=is.length
 |[],[],_,_,_=>rfl
 |[],_::_,_,_,h=>by simp only[cY]at h;cases h
 |_::_,[],_,_,h=>by simp only[cY]at h;cases h
 |i::is,d::ds,e,e',h=>by
  rw[cY]at h
  rw[aP,aP,Bp h]
theorem IA{is:List Nat}{k:Nat}(hc:X.calm=true)(hn:nC es=true)(hl:es.length=is.length)(h:SGs X is es):SG X (.many is) (.Tuple es k pos):=λH₀ O₀=>
 PG.imp (λv σ H Q ⟨O,own,e,d,e',F,r,ev,k⟩=>by
  cases d with
  |tup ds=>
   have ev:cY is ds e=.ok e':=ev
   obtain⟨a,xs,rfl,q,w⟩:=r
   exact⟨a,xs,rfl,q.sq,by rw[w.length,Bp ev,<-hl],O,own,e,ds,e',F,w,ev,k⟩
  |non=>cases ev
  |bl _=>cases ev
  |int _=>cases ev
  |str _=>cases ev
  |lst _=>cases ev
  |dct _=>cases ev
  |tdc _=>cases ev) (pg_tup (n:=es.length) hc (h H₀ O₀) (Hy hn) (Hz hn))
noncomputable def Ends.to(K:PySem.W.Frag)(H₀:Hp)(O₀:Addr->Prop)(ts:List Pin)(D':Ends):Out->Prop
 |.nx e'=>∀σ' H',Ft K H₀ O₀ ts e' σ' H'->D'.nx σ' H'
 |.bk e'=>∀σ' H',Ft K H₀ O₀ ts e' σ' H'->D'.bk σ' H'
 |.ct e'=>∀σ' H',Ft K H₀ O₀ ts e' σ' H'->D'.ct σ' H'
 |.rt d fr=>∀v H',Same H₀ H'->RD K H' O₀ d v->(fr=true->NewR K H₀ H' O₀ d v)->D'.rt v H'
 |.rr d a j b k=>∀v H',Same H₀ H'->RD K H' (λc=>O₀ c\/c=a\/c=b) d v->OwnAt K H' (λc=>O₀ c\/c=a\/c=b) a (.dct j)->OwnAt K H' (λc=>O₀ c\/c=a\/c=b) b (.dct k)->D'.rt v H'
noncomputable def tS(T:Tab)(cf:Nat->List D->Res D)(K:PySem.W.Frag)(H₀:Hp)(O₀:Addr->Prop)(x:S):TS:=λD' σ H=>∃ts e out,Ft K H₀ O₀ ts e σ H/\exS T cf x e=.ok out/\Ends.to K H₀ O₀ ts D' out
noncomputable def SS(T:Tab)(cf:Nat->List D->Res D)(X:Cx)(x:S)(p:Stmt):Prop:=∀H₀ O₀,PS X p (tS T cf X.K H₀ O₀ x)
noncomputable def SB(T:Tab)(cf:Nat->List D->Res D)(X:Cx)(x:S)(p:List Stmt):Prop:=∀H₀ O₀,PSs X p (tS T cf X.K H₀ O₀ x)
theorem PS.imp{st:Stmt}{t t':TS}(h:∀D' σ H,t' D' σ H->t D' σ H)(hp:PS X st t):PS X st t':=λpins s σ H D' I q=>hp pins s σ H D' I (h D' σ H q)
theorem PSs.imp{st:List Stmt}{t t':TS}(h:∀D' σ H,t' D' σ H->t D' σ H)(hp:PSs X st t):PSs X st t':=λpins s σ H D' I q=>hp pins s σ H D' I (h D' σ H q)
variable{a b c:S}{st:Stmt}{sts:List Stmt}
theorem Bq{pins:List (Addr×Obj)}{σ:L2.St}{H:Hp}{s:Shared}{p:Addr}{u:HO}(I:Inv X pins σ H s)(h:H p=some u)(hu:(∃ps,u=.dK ps)\/∃ps,u=.dT ps):∃ob,Inv X pins σ (L2.upd H p (.frz ob u)) s:=by
 rcases hu with⟨ps,rfl⟩|⟨ps,rfl⟩
 ·obtain⟨o,_,_,_,I2⟩:=BJ I h
  exact⟨o,I2⟩
 ·obtain⟨o,_,_,_,I2⟩:=HB I h
  exact⟨o,I2⟩
theorem sb_nil:SB T cf X .nil []:=λH₀ O₀=>PSs.imp (λD' σ H ⟨ts,e,out,F,ev,k⟩=>by
 rw[xS_nil]at ev;cases ev
 exact k σ H F) FF
theorem IB(h1:SS T cf X a st)(h2:SB T cf X b sts):SB T cf X (.cons a b) (st::sts):=λH₀ O₀=>by
 refine PSs.imp (λD' σ H hq=>?_) (FG (h1 H₀ O₀) (h2 H₀ O₀))
 obtain⟨ts,e,out,F,ev,k⟩:=hq
 rw[oS]at ev
 obtain⟨o1,e1,ev⟩:=Res.bind_ok ev
 refine⟨ts,e,o1,F,e1,?_⟩
 cases o1 with
 |nx e'=>exact λσ' H' F'=>⟨ts,e',out,F',ev,k⟩
 |rt d fr=>cases ev;exact k
 |rr _ _ _ _ _=>cases ev;exact k
 |bk e'=>cases ev;exact k
 |ct e'=>cases ev;exact k
theorem IC{i:Nat}(h2:SB T cf X b sts):SB T cf X (.cons (.sealed i) b) sts:=λH₀ O₀ pins s σ H D' I hq=>by
 obtain⟨ts,e,out,⟨O,own,F,tt⟩,ev,k⟩:=hq
 (first|rw[oS]at ev|rw[Af]at ev)
 obtain⟨o1,e1,ev⟩:=Res.bind_ok ev
 (first|rw[oS]at e1|rw[Af]at e1)
 obtain⟨l,e2,e1⟩:=Res.bind_ok e1
 cases e1
 cases hd:l.isDct with
 |false=>
  obtain⟨O',own',F',sub⟩:=F.seal i (Sl.ownA_ok e2) hd
  exact h2 H₀ O₀ pins s σ H D' I ⟨ts,_,out,⟨O',own',F',λt ht=>(tt t ht).weak sub⟩,ev,k⟩
 |true=>
  obtain⟨p,u,g1,g2,g3,g4,g5⟩:=F.sealD i (Sl.ownA_ok e2) hd
  obtain⟨ob,I2⟩:=Bq I g1 g2
  obtain⟨⟨own',F'⟩,_⟩:=g5 ob
  exact h2 H₀ O₀ pins s σ _ D' I2 ⟨ts,_,out,⟨_,own',F',λt ht=>((tt t ht).updM g4.1 g1 g4.2).weak λ_ z=>z.1⟩,ev,k⟩
theorem ss_ret(h:SE T cf X x p):SS T cf X (.ret x) (.Return (some p) pos):=λH₀ O₀=>by
 refine PS.imp (λD' σ H hq=>?_) (oD (h H₀ O₀))
 obtain⟨ts,e,out,⟨O,own,F,tt⟩,ev,k⟩:=hq
 rw[xS_ret]at ev
 obtain⟨d,e1,ev⟩:=Res.bind_ok ev
 cases ev
 refine⟨O,own,e,d,F,e1,λv H' s' r n=>k v H' (F.same.trans s') (r.weak F.sub) λfr=>?_⟩
 rw[aH,cD]at fr
 exact NewR.of (((n fr.1).back F.same).weak F.sub) fr.2
theorem ID {i:Nat} {n:Str} (hN:X.N[i]?=some n) (hv:Vis X.env.scope n) (hd:(n==("__debug__" : Str))=false) (hc:(n==("__classdict__" : Str))=false):SS T cf X (.retO i) (.Return (some (.Name n pos')) pos):=λH₀ O₀ pins s σ H D' I hq=>by
 obtain⟨ts,e,out,⟨O,own,F,tt⟩,ev,k⟩:=hq
 rw[GS]at ev
 obtain⟨l,e1,ev⟩:=Res.bind_ok ev
 cases ev
 cases hz:l.isDct with
 |false=>
  rw[hz]at k
  have q:=F.sl i
  rw[Sl.ownA_ok e1]at q
  obtain⟨p,e2,e3,h1⟩:=q
  have hn:=F.new i p e2
  have nO:¬O₀ p:=λz=>by
   obtain⟨o,w⟩:=F.trk0 p z
   rw[hn.2]at w;cases w
  exact oD (fA hN hv hd hc) pins s σ H D' I ⟨.ref p,eB e3,k _ H F.same (OwnAt.rd nO hz (h1.weak F.sub)) λ_=>⟨λ_=>⟨p,rfl,hn.2,h1.weak λb hb=>hb.elim (F.sub b) λz=>z▸hn.1⟩,λ_ a r z=>by subst z;exact h1.elim⟩⟩
 |true=>
  rw[hz]at k
  obtain⟨p,u,g1,g2,g3,g4,g5⟩:=F.sealD i (Sl.ownA_ok e1) hz
  obtain⟨ob,I2⟩:=Bq I g1 g2
  obtain⟨⟨own',F'⟩,rd⟩:=g5 ob
  exact oD (fA hN hv hd hc) pins s σ _ D' I2 ⟨.ref p,eB g3,k _ _ F'.same (rd.weak F'.sub) λz=>by cases z⟩
noncomputable def eC:Expr->Bool
 |.ListComp _ _ _ _=>false
 |.SetComp _ _ _ _=>false
 |.DictComp _ _ _ _ _=>false
 |_=>true
noncomputable def pN:Expr->Bool
 |.Tuple _ _ _=>false
 |_=>true
theorem iV{e:Expr}{t:Option Expr}{l:Nat}{env:Env}(h:eC e=true):swapsWith e t l env=pure false:=by
 cases e<;>first|rfl|(cases h)
theorem IE{e tg:Expr}{env:Env}(h:pN e=true):swappedStores [tg] e env=pure none:=by
 cases tg<;>first|rfl|(cases e<;>first|rfl|(cases h;done))
theorem IF{tg:Expr}{env:Env}(h:bA tg=true):(assignEach [tg] env).map (·.2)=[assign tg env]:=by
 cases tg<;>first|rfl|(cases h)
theorem ss_asg{g:G}(hx:eC p=true)(ht:pN p=true)(hq:bA tg=true)(h:SE T cf X x p)(hg:SG X g tg):SS T cf X (.asg g x) (.Assign [tg] p pos):=λH₀ O₀=>by
 refine PS.imp (λD' σ H hq=>?_) (ps_asg (h H₀ O₀) (hg H₀ O₀) (iV hx) (IE ht) (IF hq))
 obtain⟨ts,e,out,⟨O,own,F,tt⟩,ev,k⟩:=hq
 rw[oT]at ev
 obtain⟨d,e1,ev⟩:=Res.bind_ok ev
 obtain⟨e2,e3,ev⟩:=Res.bind_ok ev
 cases ev
 refine⟨O,own,e,d,F,e1,λv H' s' r n=>⟨O,own,e,d,e2,F.grow s',r,e3,λσ' own' _ F'=>?_⟩⟩
 exact k σ' H' ⟨O,own',F',λt ht=>(tt t ht).same s'⟩
theorem IG{i:Nat}{n:Str}(hx:eC p=true)(hN:X.N.Nodup)(hi:X.N[i]?=some n)(hl:Loc X.env.scope n)(hf:X.fn n=true\/X.env.scope.names.lookup n=some .local)(h:SE T cf X x p):SS T cf X (.asgO i x) (.Assign [.Name n pos'] p pos):=λH₀ O₀=>by
 refine PS.imp (λD' σ H hq=>?_) (jV hN hi hl (h H₀ O₀) (iV hx) hf)
 obtain⟨ts,e,out,⟨O,own,F,tt⟩,ev,k⟩:=hq
 rw[oU]at ev
 obtain⟨d,e1,ev⟩:=Res.bind_ok ev
 split at ev
 ·obtain⟨c,ev⟩:=aV ev
  cases ev
  refine⟨O,own,e,_,F,e1,λv H' s' r n=>?_⟩
  obtain⟨p,rfl,h2,h3⟩:=n c rfl
  exact k _ H' ⟨_,_,F.setO s' i h2 h3,λt ht=>((tt t ht).new h2).same s'⟩
 ·obtain⟨c,ev⟩:=aV ev
  cases ev
  refine⟨O,own,e,_,F,e1,λv H' s' r n=>?_⟩
  obtain⟨p,rfl,h2,h3⟩:=n c rfl
  exact k _ H' ⟨_,_,F.setO s' i h2 h3,λt ht=>((tt t ht).new h2).same s'⟩
 ·obtain⟨c,ev⟩:=aV ev
  cases ev
  refine⟨O,own,e,_,F,e1,λv H' s' r n=>?_⟩
  obtain⟨p,rfl,h2,h3⟩:=n c rfl
  exact k _ H' ⟨_,_,F.setO s' i h2 h3,λt ht=>((tt t ht).new h2).same s'⟩
 ·cases ev
theorem IH{i:Nat}{n:Str}{dpos:Pos}(hN:X.N.Nodup)(hi:X.N[i]?=some n)(hl:Loc X.env.scope n)(hf:X.fn n=true\/X.env.scope.names.lookup n=some .local):SS T cf X (.newD i) (.Assign [.Name n pos'] (.Dict [] [] dpos) pos):=λH₀ O₀=>by
 refine PS.imp (λD' σ H hq=>?_) (jV hN hi hl GI (iV rfl) hf)
 obtain⟨ts,e,out,⟨O,own,F,tt⟩,ev,k⟩:=hq
 rw[GX]at ev
 cases ev
 intro p hp
 exact k _ _ ⟨_,_,F.setO (bU hp _) i hp (HK (ds:=[]) (ps:=[]) rfl hp),λt ht=>((tt t ht).new hp).same (bU hp _)⟩
theorem II{i:Nat}{n:Str}{dpos:Pos}(hN:X.N.Nodup)(hi:X.N[i]?=some n)(hl:Loc X.env.scope n)(hf:X.fn n=true\/X.env.scope.names.lookup n=some .local):SS T cf X (.newT i) (.Assign [.Name n pos'] (.Dict [] [] dpos) pos):=λH₀ O₀=>by
 refine PS.imp (λD' σ H hq=>?_) (jV hN hi hl GJ (iV rfl) hf)
 obtain⟨ts,e,out,⟨O,own,F,tt⟩,ev,k⟩:=hq
 rw[GY]at ev
 cases ev
 intro p hp
 exact k _ _ ⟨_,_,F.setO (bU hp _) i hp (HL (ds:=[]) (ps:=[]) rfl hp),λt ht=>((tt t ht).new hp).same (bU hp _)⟩
theorem ss_ite{ps qs:List Stmt}(hc:ST T cf X x p)(ha:SB T cf X a ps)(hb:SB T cf X b qs):SS T cf X (.ite x a b) (.If p ps qs pos):=λH₀ O₀=>by
 refine PS.imp (λD' σ H hq=>?_) (sW (hc H₀ O₀) (ha H₀ O₀) (hb H₀ O₀))
 obtain⟨ts,e,out,⟨O,own,F,tt⟩,ev,k⟩:=hq
 rw[xS_ite]at ev
 obtain⟨d,e1,ev⟩:=Res.bind_ok ev
 obtain⟨c,e2,ev⟩:=Res.bind_ok ev
 refine⟨O,own,e,d,c,F,e1,e2,λH1 s1=>?_⟩
 cases c with
 |true=>rw[if_pos rfl]at ev⊢;exact⟨ts,e,out,⟨O,own,F.grow s1,λt ht=>(tt t ht).same s1⟩,ev,k⟩
 |false=>rw[if_neg aU]at ev⊢;exact⟨ts,e,out,⟨O,own,F.grow s1,λt ht=>(tt t ht).same s1⟩,ev,k⟩
theorem ss_for{g:G}{ps:List Stmt}(hp:PassesOwn (model X.prog X.w) X.A X.env X.xe)(hc:X.calm=true)(hq:bA p=true)(hi:SI T cf X tg x false p)(hg:SG X g tg)(hb:SB T cf X b ps):SS T cf X (.forS g x b) (.For tg p ps [] pos):=λH₀ O₀=>by
 refine PS.imp (λD' σ H hq=>?_) (ps_for hp hc (hi H₀ O₀) (hg H₀ O₀) (hb H₀ O₀) (B7 hq))
 obtain⟨ts,e,out,⟨O,own,F,tt⟩,ev,k⟩:=hq
 rw[GT]at ev
 obtain⟨ds,e1,ev⟩:=Res.bind_ok ev
 refine⟨O,own,e,ds,F,e1,λJ H1 srs s1 rr rv wk=>?_⟩
 refine⟨λi m σ H=>m=ds.length-i/\i<=ds.length/\∃e',Ft X.K H₀ O₀ (srs++ts) e' σ H/\bC (λd e0=>do let e1<-g.put d e0;exS T cf b e1) (ds.drop i) e'=.ok out,⟨ds.length,by simp,eM _,e,⟨O,own,F.grow s1,λt ht=>?_⟩,by simpa using ev⟩,?_⟩
 ·rcases eY.mp ht with ht|ht
  ·exact rv rfl t ht
  ·exact(tt t ht).same s1
 rintro i m σ2 H2 ⟨rfl,hi',e',⟨O2,own2,F2,t2⟩,ev2⟩
 obtain⟨w1,w2,w3⟩:=wk i H2 O2 λt ht=>(t2 t (Ed _ ht)).rr
 by_cases hlt:i<ds.length
 ·refine .inr ⟨w1 hlt,λσ' H'=>∃e',Ft X.K H₀ O₀ (srs++ts) e' σ' H'/\bC (λd e0=>do let e1<-g.put d e0;exS T cf b e1) (ds.drop (i+1)) e'=.ok out,λσ' H' n=>⟨ds.length-(i+1),by lia,rfl,hlt,n⟩,λv H' y=>?_⟩
  obtain⟨s3,r3⟩:=w3 v H' _ (aX hlt) y
  rw[yY hlt,bC]at ev2
  obtain⟨o1,ev3,ev4⟩:=Res.bind_ok ev2
  obtain⟨e3,ev5,ev6⟩:=Res.bind_ok ev3
  refine⟨O2,own2,e',_,e3,F2.grow s3,r3,ev5,λσ' own' _ F'=>?_⟩
  refine⟨srs++ts,e3,o1,⟨O2,own',F',λt ht=>(t2 t ht).same s3⟩,ev6,?_⟩
  have down:∀{e'':Nv} {σ'':L2.St} {H'':Hp},Ft X.K H₀ O₀ (srs++ts) e'' σ'' H''->Ft X.K H₀ O₀ ts e'' σ'' H'':=λ⟨O',own',F',t'⟩=>⟨O',own',F',λt ht=>t' t (fT _ ht)⟩
  cases o1 with
  |nx e4=>exact λσ'' H'' F''=>⟨e4,F'',ev4⟩
  |ct e4=>exact λσ'' H'' F''=>⟨e4,F'',ev4⟩
  |bk e4=>cases ev4;exact λσ'' H'' F''=>k σ'' H'' (down F'')
  |rt d fr=>cases ev4;exact k
  |rr _ _ _ _ _=>cases ev4;exact k
 ·have e4:i=ds.length:=by lia
  subst e4
  refine .inl ⟨w2 (aN _),?_⟩
  rw[Lp,bC]at ev2
  cases ev2
  exact k σ2 H2 ⟨O2,own2,F2,λt ht=>t2 t (fT _ ht)⟩
theorem ss_app {i:Nat} {n nm:Str} {px apos cpos:Pos} (hN:X.N[i]?=some n) (hv:Vis X.env.scope n) (hd:(n==("__debug__" : Str))=false) (hc:(n==("__classdict__" : Str))=false) (hnm:nm = "append") (hline:(apos.endLine==cpos.line)=true) (hp:bA p=true) (h:SE T cf X x p) :
 SS T cf X (.app i x) (.Expr (.Call (.Attribute (.Name n px) nm apos) [p] [] cpos) pos):=λH₀ O₀=>by
 subst hnm
 refine PS.imp (λD' σ H hq=>?_) (lX (oI PySem.F.plainAttrs_list PySem.F.slot_list_append PySem.F.type_list_append AR (fA hN hv hd hc) (cK (h H₀ O₀) dO (bE hp)) rfl (by rw[bE hp];rfl) hline (bE hp) rfl) rfl)
 obtain⟨ts,e,out,⟨O,own,F,tt⟩,ev,k⟩:=hq
 rw[xS_app]at ev
 obtain⟨d,e1,ev⟩:=Res.bind_ok ev
 obtain⟨l,e2,ev⟩:=Res.bind_ok ev
 obtain⟨c,ev⟩:=aV ev
 cases ev
 obtain⟨q0,xs0,f1,f2,f3,f4,f5⟩:=F.mut i (Sl.own_ok e2)
 refine⟨.ref q0,eB f1,.inl ⟨rfl,xs0,.of f2⟩,O,own,e,d,F,e1,λv H' s' r _=>?_⟩
 obtain⟨q1,xs1,g1,g2,g3,g4,g5⟩:=(F.grow s').mut i (Sl.own_ok e2)
 have eq:q1=q0:=by rw[f1]at g1;cases g1;rfl
 subst eq
 refine⟨q1,xs1,v,rfl,rfl,g2,by rw[g3.length,<-fN];exact of_decide_eq_true c,?_⟩
 exact k _ _ ⟨O,own,g5 _ _ (g3.append ⟨v,[],rfl,r,rfl⟩),λt ht=>((tt t ht).same s').upd g4 g2⟩
theorem ss_rev {i:Nat} {n nm:Str} {px apos cpos:Pos} (hN:X.N[i]?=some n) (hv:Vis X.env.scope n) (hd:(n==("__debug__" : Str))=false) (hc:(n==("__classdict__" : Str))=false) (hnm:nm = "reverse") (hline:(apos.endLine==cpos.line)=true) :
 SS T cf X (.rev i) (.Expr (.Call (.Attribute (.Name n px) nm apos) [] [] cpos) pos):=λH₀ O₀=>by
 subst hnm
 refine PS.imp (λD' σ H hq=>?_) (lX (pe_bm0 PySem.F.plainAttrs_list PySem.F.slot_list_reverse PySem.F.type_list_reverse Fv (fA hN hv hd hc) rfl hline) rfl)
 obtain⟨ts,e,out,⟨O,own,F,tt⟩,ev,k⟩:=hq
 rw[xS_rev]at ev
 obtain⟨l,e2,ev⟩:=Res.bind_ok ev
 cases ev
 obtain⟨q0,xs0,f1,f2,f3,f4,f5⟩:=F.mut i (Sl.own_ok e2)
 refine⟨.ref q0,eB f1,.inl ⟨rfl,xs0,.of f2⟩,q0,xs0,rfl,rfl,f2,?_⟩
 exact k _ _ ⟨O,own,f5 _ _ f3.reverse,λt ht=>(tt t ht).upd f4 f2⟩
theorem ss_ext {i:Nat} {n nm:Str} {px apos cpos:Pos} (hN:X.N[i]?=some n) (hv:Vis X.env.scope n) (hd:(n==("__debug__" : Str))=false) (hc:(n==("__classdict__" : Str))=false) (hnm:nm = "extend") (hline:(apos.endLine==cpos.line)=true) (hp:bA p=true) (h:SE T cf X x p) :
 SS T cf X (.ext i x) (.Expr (.Call (.Attribute (.Name n px) nm apos) [p] [] cpos) pos):=λH₀ O₀=>by
 subst hnm
 refine PS.imp (λD' σ H hq=>?_) (lX (oI PySem.F.plainAttrs_list PySem.F.slot_list_extend PySem.F.type_list_extend AS (fA hN hv hd hc) (cK (h H₀ O₀) dO (bE hp)) rfl (by rw[bE hp];rfl) hline (bE hp) rfl) rfl)
 obtain⟨ts,e,out,⟨O,own,F,tt⟩,ev,k⟩:=hq
 rw[Ai]at ev
 obtain⟨d,e1,ev⟩:=Res.bind_ok ev
 split at ev
 ·obtain⟨l,e2,ev⟩:=Res.bind_ok ev
  obtain⟨c,ev⟩:=aV ev
  rw[aH]at c
  cases ev
  obtain⟨q0,xs0,f1,f2,f3,f4,f5⟩:=F.mut i (Sl.own_ok e2)
  refine⟨.ref q0,eB f1,.inl ⟨rfl,xs0,.of f2⟩,O,own,e,_,F,e1,λv H' s' r nl=>?_⟩
  obtain⟨b,rfl,hb0,zs,hb1,hb2⟩:=nl c.1 rfl
  obtain⟨q1,xs1,g1,g2,g3,g4,g5⟩:=(F.grow s').mut i (Sl.own_ok e2)
  have eq:q1=q0:=by rw[f1]at g1;cases g1;rfl
  subst eq
  refine⟨q1,b,xs1,zs,rfl,rfl,g2,hb1,by rw[g3.length,hb2.length,<-fN];exact of_decide_eq_true c.2,?_⟩
  exact k _ _ ⟨O,own,g5 _ _ (g3.append (hb2.weak λ_ z=>.inl z)),λt ht=>((tt t ht).same s').upd g4 g2⟩
 ·cases ev
theorem IJ:SS T cf X .never st:=λH₀ O₀=>PS.imp (λD' σ H ⟨ts,e,out,F,ev,k⟩=>by
 rw[G0]at ev;cases ev) sX
theorem ss_exp(hs:swapsWith p none pos.line X.env=pure false)(h:SE T cf X x p):SS T cf X (.exp x) (.Expr p pos):=λH₀ O₀=>by
 refine PS.imp (λD' σ H hq=>?_) (lX (h H₀ O₀) hs)
 obtain⟨ts,e,out,⟨O,own,F,tt⟩,ev,k⟩:=hq
 rw[xS_exp]at ev
 obtain⟨d,e1,ev⟩:=Res.bind_ok ev
 cases ev
 exact⟨O,own,e,d,F,e1,λv H' s' r _=>k _ _ ⟨O,own,F.grow s',λt ht=>(tt t ht).same s'⟩⟩
end
section
variable{T:Tab}{cf:Nat->List D->Res D}{X:Cx}{x y z:E}{p q r tg:Expr}{pos pos':Pos}{es:List Expr}{a b c:S}{st:Stmt}{sts:List Stmt}
end
noncomputable def eT(cells:List (Str×Addr)):List (Str×NameKind)->List (Str×Addr)->List (Str×Addr)
 |[],cs=>cs
 |(n,k)::r,cs=>eT cells r (if(k==.free)=true then(match cells.lookup n with|some c=>(n,c)::cs|none=>cs)else cs)
theorem Br{env:Env}:∀(names:List (Str×NameKind))(cs:List (Str×Addr)),(∀x∈names,x.2=.free->∃c,env.cells.lookup x.1=some c) ->
 (forIn names cs (λ(x:Str×NameKind) (r:List (Str×Addr))=>(if(x.2==.free)=true then(do let c<-cellOf env x.1;pure (ForInStep.yield ((x.1,c)::r)))else pure (ForInStep.yield r):Sem _)))=pure (eT env.cells names cs)
 |[],cs,_=>rfl
 |(n,k)::r,cs,h=>by
  rw[List.forIn_cons]
  have ih:=Br (env:=env) r
  by_cases hk:(k==NameKind.free)=true
  ·have hk':k=.free:=by simpa using hk
   obtain⟨c,hc⟩:=h (n,k) (bF ..) hk'
   simp only at hc
   simp only[hk,if_true]
   unfold cellOf
   rw[hc]
   show(do let r<-(pure (ForInStep.yield ((n,c)::cs)):Sem _);_)=_
   rw[eT,if_pos hk,hc]
   exact ih _ λx hx=>h x (bB _ hx)
  ·simp only[hk,if_false,iO]
   rw[eT,if_neg hk]
   exact ih _ λx hx=>h x (bB _ hx)
theorem IK{scope:Scope}{env:Env}(h:∀x∈scope.names,x.2=.free->∃c,env.cells.lookup x.1=some c):closureFor scope env=pure (eT env.cells scope.names []):=by
 have:=Br (env:=env) scope.names [] h
 unfold closureFor
 rw[<-this]
 first|rfl|simp
theorem Bs{cells:List (Str×Addr)}:∀{names:List (Str×NameKind)} {cs:List (Str×Addr)} {n:Str} {c:Addr},(n,c)∈eT cells names cs->(n,c)∈cs\/((n,NameKind.free)∈names/\cells.lookup n=some c)
 |[],_,_,_,h=>.inl h
 |(m,k)::r,cs,n,c,h=>by
  rw[eT]at h
  rcases Bs h with g|⟨h1,h2⟩
  ·clear h
   split at g
   ·rename_i hk
    have hk':k=.free:=by simpa using hk
    subst hk'
    split at g
    ·rename_i c' hc
     rcases aO.mp g with e|g
     ·cases e
      exact .inr ⟨bF ..,hc⟩
     ·exact .inl g
    ·exact .inl g
   ·exact .inl g
  ·exact .inr ⟨bB _ h1,h2⟩
theorem Bu{cells:List (Str×Addr)}:∀{names:List (Str×NameKind)} {cs:List (Str×Addr)} {x:Str×Addr},x∈cs->x∈eT cells names cs
 |[],_,_,h=>h
 |(m,k)::r,cs,x,h=>by
  rw[eT]
  refine Bu ?_
  split
  ·split
   ·exact bB _ h
   ·exact h
  ·exact h
theorem uI{cells:List (Str×Addr)}:∀{names:List (Str×NameKind)} {cs:List (Str×Addr)} {n:Str} {c:Addr},(n,NameKind.free)∈names->cells.lookup n=some c->(n,c)∈eT cells names cs
 |[],_,_,_,h,_=>by cases h
 |(m,k)::r,cs,n,c,h,hc=>by
  rw[eT]
  rcases aO.mp h with e|h
  ·cases e
   refine Bu ?_
   rw[if_pos (by simp),hc]
   exact bF ..
  ·exact uI h hc
theorem Bv{l:List (Str×Addr)}{n:Str}{c:Addr}(h:(n,c)∈l):∃c',l.lookup n=some c':=by
 induction l with
 |nil=>cases h
 |cons x l ih=>
  obtain⟨m,d⟩:=x
  rw[kT]
  by_cases e:(n==m)=true
  ·rw[e];exact⟨d,rfl⟩
  ·have e':(n==m)=false:=by simpa using e
   rw[e']
   rcases aO.mp h with z|z
   ·cases z;simp at e
   ·exact ih z
theorem Bw{env:Env}:∀{names:List (Str×NameKind)} {x:Str},(∀y∈names,y.2≠.cell) ->
 ((names.map λ(n,k)=>if(k==NameKind.free&&env.scope.kind==.function&&env.kindOf n==some .cell)then(n,NameKind.cell)else(n,k)).lookup x=some .cell \/
  (names.map λ(n,k)=>if(k==NameKind.free&&env.scope.kind==.function&&env.kindOf n==some .cell)then(n,NameKind.cell)else(n,k)).lookup x=some .free)->(x,NameKind.free)∈names
 |[],_,_,h=>by rcases h with h|h<;>cases h
 |(n,k)::r,x,hc,h=>by
  have hk:=hc (n,k) (bF ..)
  have ih:=@Bw env r x λy hy=>hc y (bB _ hy)
  rw[aK]at h
  dsimp only at h
  by_cases hx:(x==n)=true
  ·have hx':x=n:=by simpa using hx
   subst hx'
   refine aO.mpr (.inl ?_)
   by_cases z:(k==NameKind.free&&env.scope.kind==.function&&env.kindOf x==some .cell)=true
   ·have:k=.free:=by
     cases k<;>first|rfl|(exact absurd z (by simp))
    rw[this]
   ·rw[if_neg z]at h
    simp only[kT,beq_self_eq_true]at h
    rcases h with h|h
    ·cases h;exact absurd rfl hk
    ·cases h;rfl
  ·have hx':(x==n)=false:=by simpa using hx
   refine bB _ (ih ?_)
   by_cases z:(k==NameKind.free&&env.scope.kind==.function&&env.kindOf n==some .cell)=true
   ·rw[if_pos z]at h
    simpa only[kT,hx']using h
   ·rw[if_neg z]at h
    simpa only[kT,hx']using h
theorem Bx{env:Env}:∀{names:List (Str×NameKind)} {x:Str},
 (names.map λ(n,k)=>if(k==NameKind.free&&env.scope.kind==.function&&env.kindOf n==some .cell)then(n,NameKind.cell)else(n,k)).lookup x=some .local->names.lookup x=some .local
 |[],_,h=>by cases h
 |(n,k)::r,x,h=>by
  have ih:=@Bx env r x
  rw[aK]at h
  dsimp only at h
  by_cases z:(k==NameKind.free&&env.scope.kind==.function&&env.kindOf n==some .cell)=true
  ·rw[if_pos z]at h
   by_cases hx:(x==n)=true
   ·simp only[kT,hx]at h;cases h
   ·have hx':(x==n)=false:=by simpa using hx
    simp only[kT,hx']at h⊢
    exact ih h
  ·rw[if_neg z]at h
   by_cases hx:(x==n)=true
   ·simp only[kT,hx]at h⊢;exact h
   ·have hx':(x==n)=false:=by simpa using hx
    simp only[kT,hx']at h⊢
    exact ih h
noncomputable def cxC(X:Cx)(scope:Scope)(C:Addr)(Nc:List Str)(s2:Shared)(H2:Hp)(fp:List Addr):Cx where
 prog:=X.prog
 w:=X.w
 K:=X.K
 mg:=X.mg
 base:=X.base
 A:=X.A
 N:=Nc
 s₀:=s2
 H₀:=H2
 env:=compEnvC scope (eT X.env.cells scope.names []) C X.env
 outer:=X.stack
 stack:=X.stack
 ex:=fp
 fn:=λn=>scope.names.lookup n==some .local
 calm:=X.calm
 pn:=[]
 xe:=λ_ _=>False
set_option genInjectivity false in
structure ScopeC(X:Cx)(scope:Scope):Prop where
 kind:scope.kind=.function
 cell:∀y∈scope.names,y.2≠.cell
 names:∀x∈scope.names,x.2=.local->scope.names.lookup x.1=some .local
 nd:∀x∈scope.names,x.2=.free->scope.names.lookup x.1≠some .local
 free:∀x∈scope.names,x.2=.free->X.env.kindOf x.1=some .cell\/X.env.kindOf x.1=some .free
section
variable{X:Cx}{scope:Scope}{C:Addr}{Nc:List Str}{s2:Shared}{H2:Hp}{fp:List Addr}{pins:List (Addr×Obj)}{σ:L2.St}
theorem iW{x:Str}{c:Addr}(h:(eT X.env.cells scope.names []).lookup x=some c):(x,NameKind.free)∈scope.names/\X.env.cells.lookup x=some c:=by
 rcases Bs (PySem.mem_of_lookup h)with z|z
 ·cases z
 ·exact z
theorem ScopeC.cells(S:ScopeC X scope)(ok:X.Ok):∀x∈scope.names,x.2=.free->∃c,X.env.cells.lookup x.1=some c:=λx hx hf=>ok.has x.1 (S.free x hx hf)
theorem cxC_ok(I:Inv X pins σ H2 s2)(S:ScopeC X scope)(hfp:∀b∈fp,gO X pins H2 b)(hfo:∀b∈fp,b<s2.heap.objs.size)(hC:s2.heap.objs.size<=C):(cxC X scope C Nc s2 H2 fp).Ok where
 mod:=I.ok.mod
 kind:=S.kind
 glob:=I.ok.glob
 blt:=I.ok.blt
 above:=hC
 inj:=λx y c h1 h2=>I.ok.inj x y c (iW h1).2 (iW h2).2
 has:=λx h=>by
  have hf:=Bw (env:=X.env) S.cell h
  obtain⟨c,hc⟩:=S.cells I.ok (x,.free) hf rfl
  exact Bv (uI hf hc)
 cab:=λx c h1 h2=>by
  have h1':scope.names.lookup x=some .local:=by simpa[cxC]using h1
  exact absurd h1' (S.nd (x,.free) (iW h2).1 rfl)
 hd:=I.ok.hd
 frames:=I.ok.frames
 stk:=.inl rfl
 exf:=λb hb=>⟨aT (dM (hfo b hb) hC),λx c h=>(hfp b hb).2.2.2.2.1 x c (iW h).2⟩
 bs:=I.bs
 bsz:=bV I.ok.bsz I.sz
 noex:=λb o e hb=>by
  rcases(hfp b hb).2.2.2.1 with z|z
  ·exact I.ok.noex b o e z
  ·exact absurd (dM (Heap.lt_size e) (bV I.ok.bsz z)) (kM _)
 exfs:=λb hb z=>by
  rcases aO.mp (I.stkSub b z)with z|z
  ·exact(hfp b hb).2.1 z
  ·exact(hfp b hb).2.2.1 z
 funs:=I.stack
 frf:=I.stkFree
noncomputable def stC(own:Nat)(caps:List Nat)(σ:L2.St):L2.St:=aW own none++caps.map λi=>cB σ i
set_option genInjectivity false in
structure CapsOk(X:Cx)(scope:Scope)(own:Nat)(caps:List Nat)(Nc:List Str):Prop where
 len:Nc.length=own+caps.length
 nd:caps.Nodup
 cap:∀j i,caps[j]?=some i->∃n,X.N[i]?=some n/\Nc[own+j]?=some n/\(n,NameKind.free)∈scope.names
theorem IL{own:Nat}{caps:List Nat}{j:Nat}{v:V}(h:(stC own caps σ)[j]?=some (some v)):∃k i,j=own+k/\caps[k]?=some i/\cB σ i=some v:=by
 unfold stC at h
 by_cases hj:j<own
 ·rw[kO (by rw[eL];exact hj),lS,if_pos hj]at h
  cases h
 ·rw[gM (by rw[eL];lia),eL,bK]at h
  cases e:caps[j-own]? with
  |none=>rw[e]at h;cases h
  |some i=>
   rw[e]at h
   exact⟨j-own,i,by lia,e,fS.inj h⟩
theorem vis_of(I:Inv X pins σ H2 s2)(S:ScopeC X scope){n:Str}(h:(n,NameKind.free)∈scope.names):Vis X.env.scope n:=by
 rcases S.free _ h rfl with z|z
 ·exact .inr (.inl z)
 ·exact .inr (.inr z)
theorem invC{own:Nat}{caps:List Nat}{h1:Heap}{t1:Nat}(I:Inv X pins σ H2 s2)(S:ScopeC X scope)(P:CapsOk X scope own caps Nc)(ok:(cxC X scope C Nc s2 H2 fp).Ok)
 (keep:∀b o,s2.heap.get? b=some o->h1.get? b=some o) (hC:s2.heap.objs.size<C) (ns:h1.Ns C λ_=>none) (acc:h1.get? s2.heap.objs.size=some {cls:=.type "list", data:=.seq #[] }) :
 Inv (cxC X scope C Nc s2 H2 fp) [] (stC own caps σ) (upd H2 s2.heap.objs.size (.lst [])) {s2 with heap:=h1,toks:=t1}:=by
 have fr:H2 s2.heap.objs.size=none:=I.hok.fresh (aN _)
 have cellK:∀x c v,X.env.cells.lookup x=some c->s2.heap.IsCell c v->h1.IsCell c v:=λx c v _ ⟨o,ho,hd⟩=>⟨o,keep c o ho,hd⟩
 refine⟨ok,rfl,I.bare,Un.laid keep (aN _) fr,⟨_,ns,λi x v e1 e2 e3=>?_⟩,λx c h=>?_,?_,λx c h=>?_,λp hp=>absurd hp (by simp[cxC]),I.hok.laid keep (aN _) ?_,?_⟩
 ·obtain⟨k,i',rfl,hk,hv⟩:=IL e2
  obtain⟨n,hn1,hn2,hn3⟩:=P.cap k i' hk
  have e1':Nc[own+k]?=some x:=e1
  rw[hn2]at e1';cases e1'
  obtain⟨m,hm,hl⟩:=I.loc
  obtain⟨u,ru,lk⟩:=hl i' _ v hn1 (eB hv) (vis_of I S hn3)
  refine⟨u,ru,?_⟩
  rcases lk with⟨kl,_⟩|⟨_,c,hc,hcell⟩
  ·rcases S.free _ hn3 rfl with z|z
   ·rw[kl]at z;cases z
   ·rw[kl]at z;cases z
  ·refine .inr ⟨?_,?_⟩
   ·rcases e3 with z|z
    ·exact absurd (Bx (env:=X.env) z) (S.nd _ hn3 rfl)
    ·exact z
   ·obtain⟨c',hc'⟩:=Bv (uI (cs:=[]) hn3 hc)
    have:=(iW hc').2
    rw[hc]at this;cases this
    exact⟨c,hc',cellK _ c _ hc hcell⟩
 ·obtain⟨v,z⟩:=I.cell x c (iW h).2
  exact⟨v,cellK x c v (iW h).2 z⟩
 ·show upd H2 s2.heap.objs.size (.lst []) C=none
  rw[aL (iK hC)]
  exact I.hok.fresh (iJ hC)
 ·obtain⟨v,z⟩:=I.cell x c (iW h).2
  rw[aL (aT z.lt)]
  exact I.freeC x c (iW h).2
 ·exact⟨eM _,[],0,.nil,acc⟩
 ·show(stC own caps σ).length=Nc.length
  unfold stC
  rw[bR,eL,aF,P.len]
theorem Un.but{fs ex:List Addr}{H H':Hp}{h h1 h2:Heap}{C:Addr}(u:Un fs ex H H' h h1)(hC:h.objs.size<=C)(s:Heap.SameBut C h1 h2):Un fs ex H H' h h2 where
 keep:=λb o e n hb hx=>(s.2 b (aT (dM (Heap.lt_size e) hC))).trans (u.keep b o e n hb hx)
 slot:=λb o e n hb hx=>let ⟨sl,q⟩:=u.slot b o e n hb hx;⟨sl,(s.2 b (aT (dM (Heap.lt_size e) hC))).trans q⟩
 free:=u.free
 there:=λb o e hx=>let ⟨o',q⟩:=u.there b o e hx;⟨o',(s.2 b (aT (dM (Heap.lt_size e) hC))).trans q⟩
 tups:=u.tups
 frzs:=u.frzs
 tbls:=u.tbls
theorem HOk.but{P:Program}{w:World}{H:Hp}{h1 h2:Heap}{C:Addr}(x:HOk P w H h1)(hC:H C=none)(s:Heap.SameBut C h1 h2):HOk P w H h2:=λb ob e=>by
 refine(x b ob e).stay (λc w' hc q=>(s.2 c ?_).trans q) (λ_ q=>q) λ_ _ q=>q
 rintro rfl
 rcases hc with rfl|hc
 ·rw[hC]at e;cases e
 ·rw[hC]at hc;cases hc
theorem outC{σi:L2.St}{Hi:Hp}{s':Shared}{h':Heap}(I:Inv X pins σ H2 s2)(Ic:Inv (cxC X scope C Nc s2 H2 fp) [] σi Hi s')(hfp:∀b∈fp,gO X pins H2 b)(hC:s2.heap.objs.size<=C)(sb:Heap.SameBut C s'.heap h'):Inv X pins σ Hi {s' with heap:=h' }:=by
 refine I.call' (s':={s' with heap:=h' }) (ch:=fp) Ic.os ?_ ?_ Ic.bare λb hb=>?_
 ·exact Un.but (show Un (frs X.stack) fp H2 Hi s2.heap s'.heap from Ic.base) hC sb
 ·exact HOk.but (show HOk X.prog X.w Hi s'.heap from Ic.hok) (show Hi C=none from Ic.free) sb
 ·obtain⟨_,a1,_,a3,a4,a5⟩:=hfp b hb
  exact⟨a3,a1,a4,a5⟩
end
section
variable{prog:Program}{w:World}{A:Around}{R:Result->Shared->Prop}{s:Shared}
theorem IM{elt target iter:Expr}{ifs:List Expr}{scope:Scope}{pos:Pos}{it acc:Value}{env:Env}(I:Nat->Shared->Prop)
 (turn:∀n s,I n s->wpAny (model prog w) A (pyNext it) (λr s₁=>match r with
  |none=>R (.ok .next) s₁
  |some v=>wpAny (model prog w) A (letOwnedTupleGo target it v) (λ_ s₀=>wpAny (model prog w) A (assign target env v) (λ_ s₂=>
   wpAny (model prog w) A (forIn ifs true λc r=>if r=true then do let ok<-isTrue c env (eval c env);pure (ForInStep.yield ok)else pure (ForInStep.yield r)) (λok s₃=>
    if ok=true then wpAny (model prog w) A (eval elt env) (λx s₄=>
     wpAny (model prog w) A (call (.builtin "list.append") [acc,x]) (λ_ s₅=>∃m,m<n/\I m s₅) (λ_ _=>False) s₄) (λ_ _=>False) s₃
    else ∃m,m<n/\I m s₃) (λ_ _=>False) s₂) (λ_ _=>False) s₀) (λ_ _=>False) s₁) (λ_ _=>False) s)
 (n:Nat) (h:I n s) :
 codeAny (model prog w) A (.compLoop (.ListComp elt [⟨target,iter,ifs,0⟩] scope pos) 0 it acc env) R s:=by
 refine codeAny_loop rfl I (λn s hI=>?_) n h
 show wpAny _ A ((compTurn (.ListComp elt [⟨target,iter,ifs,0⟩] scope pos) 0 it acc env).onRaise (λx=>do noteFrame x env;theTreesLotGoes x)) _ _ s
 refine wpAny_noted ?_
 rw[compTurn_list]
 refine wpAny_bind (wpAny_standAt (wpAny_bind (wpAny_mono (turn n s hI) (λr s₁ h₁=>?_) λ_ _ h'=>h'.elim)))
 cases r with
 |none=>exact wpAny_pure h₁
 |some v=>
  refine wpAny_bind (wpAny_mono h₁ (λ_ s₀ h₀=>?_) λ_ _ h'=>h'.elim)
  refine wpAny_bind (wpAny_mono h₀ (λ_ s₂ h₂=>wpAny_bind (wpAny_mono h₂ (λok s₃ h₃=>?_) λ_ _ h'=>h'.elim)) λ_ _ h'=>h'.elim)
  cases ok with
  |false=>exact wpAny_pure ⟨rfl,h₃⟩
  |true=>
   exact wpAny_bind (wpAny_bind (wpAny_mono h₃ (λx s₄ h₄=>wpAny_bind (wpAny_mono h₄ (λ_ s₅ h₅=>wpAny_pure (wpAny_pure ⟨rfl,h₅⟩)) λ_ _ h'=>h'.elim)) λ_ _ h'=>h'.elim))
end
section
variable{K:PySem.W.Frag}{H₀ H H':Hp}{O₀ O O':Addr->Prop}{own:Nat->Option Addr}{e e':Nv}{σ:L2.St}
theorem Fm.updO(F:Fm K H₀ O₀ H O own e σ){p:Addr}{ys zs:List V}(hO:O p)(hp:H p=some (.lst ys))(h0:H₀ p=none)(hn:∀j,own j≠some p):Fm K H₀ O₀ (upd H p (.lst zs)) O own e σ where
 len:=F.len
 sl:=λj=>RS.map (λq=>q.upd hO hp) (λq=>q.upd hO hp) (λq=>q.updM hO hp trivial) (λq=>q.updM hO hp trivial) (λa ys ea _ q=>by
  have:a≠p:=λz=>hn j (z▸ea)
  rw[aL this];exact q) (F.sl j) (pB hO) (eI (K:=K) hO hp trivial).1
 inj:=F.inj
 same:=λb o hb=>by rw[aL (λz=>by rw[z,h0]at hb;cases hb)];exact F.same b o hb
 sub:=F.sub
 trk0:=F.trk0
 trk:=λa ha=>by
  by_cases h:a=p
  ·subst h;exact⟨_,bS⟩
  ·obtain⟨ys,q⟩:=F.trk a ha
   exact⟨ys,by rw[aL h];exact q⟩
 new:=F.new
 nw:=F.nw
theorem Fm.back(F:Fm K H₀ O₀ H O own e σ)(hl:e'.length=e.length)(h:∀j,e'.at j=.no\/e'.at j=e.at j):Fm K H₀ O₀ H O own e' σ where
 len:=hl.trans F.len
 sl:=λj=>by
  rcases h j with z|z
  ·rw[z];trivial
  ·rw[z];exact F.sl j
 inj:=F.inj
 same:=F.same
 sub:=F.sub
 trk0:=F.trk0
 trk:=F.trk
 new:=F.new
 nw:=λj d a h1 h2=>by
  rcases h j with z|z
  ·rw[z]at h1;cases h1
  ·rw[z]at h1;exact F.nw j d a h1 h2
theorem uJ{n:Nat}{caps:List Nat}{e:Nv}(j:Nat):(aQ n caps e).at j=.no\/∃k i,j=n+k/\caps[k]?=some i/\(aQ n caps e).at j=e.at i:=by
 unfold aQ
 by_cases hj:j<n
 ·left
  unfold Nv.at
  rw[kO (by rw[eL];exact hj),lS,if_pos hj];rfl
 ·cases q:caps[j-n]? with
  |none=>
   left
   unfold Nv.at
   rw[gM (by rw[eL];lia),eL,bK,q];rfl
  |some i=>
   right
   refine⟨j-n,i,by lia,q,?_⟩
   show(((aW n Sl.no++caps.map λi=>e.at i))[j]?).getD .no=_
   rw[gM (by rw[eL];lia),eL,bK,q];rfl
theorem IP{l:List Nat}(h:l.Nodup){j k i:Nat}(h1:l[j]?=some i)(h2:l[k]?=some i):j=k:=by
 obtain⟨a,e1⟩:=gL.mp h1
 obtain⟨b,e2⟩:=gL.mp h2
 exact(L9 h).mp (e1.trans e2.symm)
theorem Fm.comp(F:Fm K H₀ O₀ H O own e σ)(n:Nat){caps:List Nat}(hc:caps.Nodup){p:Addr}(hp:H p=none){xs:List V} :
 ∃own',Fm K H₀ O₀ (upd H p (.lst xs)) (cZ O p) own' (aQ n caps e) (stC n caps σ)/\∀j,own' j≠some p:=by
 have np:∀j,own j≠some p:=λj q=>by
  obtain⟨ys,w⟩:=F.trk p (F.new j p q).1
  rw[hp]at w;cases w
 have sm:=bU hp (.lst xs)
 refine⟨λj=>if j<n then none else(caps[j-n]?).bind own,⟨?_,λj=>?_,λj k a h1 h2=>?_,F.same.trans sm,λa h=>.inl (F.sub a h),F.trk0,λa h=>?_,λj a h1=>?_,λj d a h1 h2=>?_⟩,λj h1=>?_⟩
 ·unfold aQ stC
  simp
 ·rcases uJ (n:=n) (caps:=caps) (e:=e) j with z|⟨k,i,rfl,hk,z⟩
  ·rw[z];trivial
  ·rw[z,if_neg (by lia),show n+k-n=k by lia,hk]
   have e1:cB (stC n caps σ) (n+k)=cB σ i:=by
    unfold stC
    unfold cB
    rw[gM (by rw[eL];lia),eL,bK,show n+k-n=k by lia,hk]
    rfl
   rw[e1]
   exact RS.map (λq=>(q.new hp).same sm) (λq=>(q.new hp).same sm) (λq=>(q.new hp).same sm) (λq=>(q.new hp).same sm) (λa ys _ _ q=>sm _ _ q) (F.sl i) (BQ hp sm)
 ·by_cases hj:j<n
  ·rw[if_pos hj]at h1;cases h1
  ·by_cases hk:k<n
   ·rw[if_pos hk]at h2;cases h2
   ·rw[if_neg hj]at h1
    rw[if_neg hk]at h2
    cases q1:caps[j-n]? with
    |none=>rw[q1]at h1;cases h1
    |some i1=>
     cases q2:caps[k-n]? with
     |none=>rw[q2]at h2;cases h2
     |some i2=>
      rw[q1]at h1
      rw[q2]at h2
      have:=F.inj i1 i2 a h1 h2
      subst this
      have:=IP hc q1 q2
      lia
 ·rcases h with h|h
  ·obtain⟨ys,q⟩:=F.trk a h
   exact⟨ys,sm _ _ q⟩
  ·subst h;exact⟨_,bS⟩
 ·by_cases hj:j<n
  ·rw[if_pos hj]at h1;cases h1
  ·rw[if_neg hj]at h1
   cases q1:caps[j-n]? with
   |none=>rw[q1]at h1;cases h1
   |some i1=>
    rw[q1]at h1
    exact⟨.inl (F.new i1 a h1).1,(F.new i1 a h1).2⟩
 ·rcases uJ (n:=n) (caps:=caps) (e:=e) j with z|⟨k,i,rfl,hk,z⟩
  ·rw[z]at h1;cases h1
  ·rw[z]at h1
   refine F.nw i d a h1 ?_
   rw[<-h2]
   unfold stC
   unfold cB
   rw[gM (by rw[eL];lia),eL,bK,show n+k-n=k by lia,hk]
   rfl
 ·dsimp only at h1
  by_cases hj:j<n
  ·rw[if_pos hj]at h1;cases h1
  ·rw[if_neg hj]at h1
   cases q1:caps[j-n]? with
   |none=>rw[q1]at h1;cases h1
   |some i1=>
    rw[q1]at h1
    exact np i1 h1
noncomputable def G.below(n:Nat):G->Bool
 |.one i=>decide (i<n)
 |.many is=>is.all λi=>decide (i<n)
theorem By{n:Nat}:∀{is:List Nat} {ds:List D} {e e':Nv},(is.all λi=>decide (i<n))=true->cY is ds e=.ok e'->e'.length=e.length/\∀j,n<=j->e'.at j=e.at j
 |[],[],e,e',_,h=>by rw[cY]at h;cases h;exact⟨rfl,λ_ _=>rfl⟩
 |[],_::_,_,_,_,h=>by simp only[cY]at h;cases h
 |_::_,[],_,_,_,h=>by simp only[cY]at h;cases h
 |i::is,d::ds,e,e',hb,h=>by
  rw[cY]at h
  rw[oB,aH]at hb
  obtain⟨h1,h2⟩:=By hb.2 h
  have hi:=of_decide_eq_true hb.1
  exact⟨by rw[h1,eN],λj hj=>by rw[h2 j hj,fM (by lia)]⟩
theorem IQ{n:Nat}{g:G}{d:D}{e e':Nv}(hb:g.below n=true)(h:g.put d e=.ok e'):e'.length=e.length/\∀j,n<=j->e'.at j=e.at j:=by
 cases g with
 |one i=>
  have h:Res.ok (e.set i (.v d))=.ok e':=h
  cases h
  have hi:i<n:=of_decide_eq_true hb
  exact⟨eN,λj hj=>fM (by lia)⟩
 |many is=>
  cases d with
  |tup ds=>exact By hb h
  |non=>cases h
  |bl _=>cases h
  |int _=>cases h
  |str _=>cases h
  |lst _=>cases h
  |dct _=>cases h
  |tdc _=>cases h
end
section
variable{T:Tab}{cf:Nat->List D->Res D}{X:Cx}{x y z:E}{p q r tg iter:Expr}{pos:Pos}
noncomputable def Src(K:PySem.W.Frag)(H:Hp)(O:Addr->Prop)(p:Addr)(d:D)(v:V):Prop:=RD K H O d v\/∃a,v=.ref a/\a≠p/\OwnAt K H O a d
theorem Src.rr{K:PySem.W.Frag}{H:Hp}{O:Addr->Prop}{p:Addr}{d:D}{v:V}(h:Src K H O p d v):RR K H O d v:=by
 rcases h with z|⟨al,z1,z2,z3⟩
 ·exact .inl z
 ·exact .inr ⟨al,z1,z3⟩
theorem Src.same{K:PySem.W.Frag}{H H':Hp}{O:Addr->Prop}{p:Addr}{d:D}{v:V}(h:Src K H O p d v)(s:Same H H'):Src K H' O p d v:=by
 rcases h with z|⟨al,z1,z2,z3⟩
 ·exact .inl (z.same s)
 ·exact .inr ⟨al,z1,z2,z3.same s⟩
theorem Src.upd{K:PySem.W.Frag}{H:Hp}{O:Addr->Prop}{p:Addr}{d:D}{v:V}{ys zs:List V}(h:Src K H O p d v)(hO:O p)(hp:H p=some (.lst ys)):Src K (L2.upd H p (.lst zs)) O p d v:=by
 rcases h with z|⟨al,z1,z2,z3⟩
 ·exact .inl (z.upd hO hp)
 ·exact .inr ⟨al,z1,z2,z3.updM hO hp trivial z2⟩
noncomputable def PinS(K:PySem.W.Frag)(H:Hp)(O:Addr->Prop)(p:Addr):Pin->Prop
 |.dv d v=>Src K H O p d v
 |.fr a o u=>H a=some (.frz o u)
theorem PinS.rr{K:PySem.W.Frag}{H:Hp}{O:Addr->Prop}{p:Addr}{t:Pin}(h:PinS K H O p t):lF K H O t:=by
 cases t with
 |dv d v=>exact Src.rr h
 |fr a o u=>exact h
theorem PinS.same{K:PySem.W.Frag}{H H':Hp}{O:Addr->Prop}{p:Addr}{t:Pin}(h:PinS K H O p t)(s:Same H H'):PinS K H' O p t:=by
 cases t with
 |dv d v=>exact Src.same h s
 |fr a o u=>exact s _ _ h
theorem PinS.upd{K:PySem.W.Frag}{H:Hp}{O:Addr->Prop}{p:Addr}{t:Pin}{ys zs:List V}(h:PinS K H O p t)(hO:O p)(hp:H p=some (.lst ys)):PinS K (L2.upd H p (.lst zs)) O p t:=by
 cases t with
 |dv d v=>exact Src.upd h hO hp
 |fr a o u=>
  have h:H a=some (.frz o u):=h
  show L2.upd H p (.lst zs) a=some (.frz o u)
  rw[aL (oC h hp (by intro z;cases z))];exact h
noncomputable def nD(ifs:List Expr)(cond:E)(P:Expr->Prop):Prop:=(ifs=[]/\cond=.con (.bl true))\/∃c,ifs=[c]/\P c
theorem Bz{n:Nat}{caps:List Nat}{g:G}{elt src cond:E}{pe:Expr}{ifs:List Expr}{scope:Scope}{Nc:List Str}(hc:X.calm=true)(S:ScopeC X scope)(P:CapsOk X scope n caps Nc)(hb:g.below n=true)
 (hplain:bA iter=true) (hsrc:SI T cf X tg src true iter)
 (body:∀C s2 H2 fp,(cxC X scope C Nc s2 H2 fp).Ok->SG (cxC X scope C Nc s2 H2 fp) g tg/\SE T cf (cxC X scope C Nc s2 H2 fp) elt pe/\nD ifs cond (ST T cf (cxC X scope C Nc s2 H2 fp) cond))
 {use:Option (Value->Sem Unit)} {H₀:Hp} {O₀:Addr->Prop} {pins:List (Addr×Obj)} {s:Shared} {σ:L2.St} {H:Hp} {O:Addr->Prop} {own:Nat->Option Addr} {e:Nv} {d:D} {Q:Value->Shared->Prop} (I:Inv X pins σ H s) (F:Fm X.K H₀ O₀ H O own e σ)
 (ev:evE T cf (.comp n caps g elt src cond) e=.ok d)
 (fin:∀C s2 H2 Hi s' a,Inv X pins σ H2 s2->Same H H2->s2.heap.objs.size<C->(∀h',Heap.SameBut C s'.heap h'->Inv X pins σ Hi {s' with heap:=h' })->(∃m,s'.heap.Ns C m)->Hi C=none->Same H Hi->Fm X.K H₀ O₀ Hi O own e σ->RD X.K Hi O d (.ref a)->NewL X.K H Hi O d (.ref a)->a≠C ->
  compPost (model X.prog X.w) X.A X.xe use Q (.ref a) C (.ok .next) s') :
 wpAny (model X.prog X.w) X.A (comprehension (.ListComp pe [⟨tg,iter,ifs,0⟩] scope pos) scope X.env (firstIterPos [⟨tg,iter,ifs,0⟩] pos) (newList []) false (eval iter X.env) use) Q X.xe s:=by
 (first|rw[tM]at ev|rw[iS]at ev|rw[Ab]at ev)
 obtain⟨ds,e1,ev⟩:=Res.bind_ok ev
 obtain⟨ys,e2,ev⟩:=Res.bind_ok ev
 obtain⟨cz,ev⟩:=aV ev
 cases ev
 have hz:=of_decide_eq_true cz
 refine wpAny_comprehension_free rfl (B7 hplain) (IK (S.cells I.ok)) S.kind S.names ?_
 refine thn (hsrc H₀ O₀ pins s σ H (λJ H2=>∃srs,Same H H2/\(∀t∈srs,lF X.K H2 O t)/\Wk X.K J srs ds) I ⟨O,own,e,ds,F,e1,λJ H' srs s' rr _ wk=>⟨srs,s',rr,wk⟩⟩) λv s1 h1=>thn h1 λitv s2 h2=>?_
 obtain⟨it,fp,tn,J,H2,rfl,I2,Tn,tn0,hfp,srs,s12,rr0,wk⟩:=h2
 refine wpAny_newObj_type (wpAny_newFunctionEnv S.cell (by intro y hy;simp at hy) (λh₁ hns₁ hsb₁=>?_) S.kind)
 dsimp only at hns₁ hsb₁⊢
 generalize hH2:s2.heap.push {cls:=.type "list", dict:=none,data:=.seq ([]:List Value).toArray}=HP at hns₁ hsb₁⊢
 have hC:HP.objs.size=s2.heap.objs.size+1:=by rw[<-hH2,Heap.size_push]
 have hCl:s2.heap.objs.size<HP.objs.size:=by rw[hC];exact oA _
 have below:∀b,b<s2.heap.objs.size->b≠HP.objs.size:=λb hb=>by rw[hC];exact aT (gY hb)
 have old:∀b o,s2.heap.get? b=some o->h₁.get? b=some o:=λb o e=>hsb₁.extBut b o (below b (Heap.lt_size e)) (Heap.get?_push_of_some _ (hH2▸Heap.get?_push_of_some _ e))
 have hacc:h₁.get? s2.heap.objs.size=some {cls:=.type "list", data:=.seq #[] }:=hsb₁.extBut _ _ (aT hCl) (Heap.get?_push_of_some _ (hH2▸Heap.get?_push_size _ rfl))
 have hfo:∀b∈fp,b<s2.heap.objs.size:=λb hb=>let ⟨o,q,_⟩:=Tn.obj 0 _ tn0 b hb;Heap.lt_size q
 have ok:=cxC_ok (Nc:=Nc) I2 S hfp hfo (iJ hCl)
 have fr:H2 s2.heap.objs.size=none:=I2.hok.fresh (aN _)
 have F2:=F.grow s12
 obtain⟨ownc,Fc,nown⟩:=F2.comp n (caps:=caps) P.nd fr (xs:=[])
 obtain⟨bg,be,bt⟩:=body HP.objs.size s2 H2 fp ok
 have I0:=invC (t1:=s2.toks+([]:List (Str×Value)).length) (fp:=fp) I2 S P ok old hCl (by simpa using hns₁) hacc
 have fpn:∀{Hi:Hp} {pins':List (Addr×Obj)},(∀b∈fp,Hi b=none)->(∀b∈fp,∀p∈pins',p.1≠b)->∀b∈fp,gO (cxC X scope HP.objs.size Nc s2 H2 fp) pins' Hi b:=λhn hpp b hb=>by
  refine⟨hn b hb,(ok.exf b hb).1,ok.exfs b hb,.inl hb,(ok.exf b hb).2,λp hp=>hpp b hb p (by simpa[cxC]using hp)⟩
 let f : D → Res (Option D) := fun d => do
     let e1<-g.put d (aQ n caps e)
     let c<-evE T cf cond e1
     let k<-c.truth
     if k then do let y<-evE T cf elt e1;.ok (some y)else .ok none
 have loop:∀s₃:Shared,s₃={s2 with heap:=h₁,toks:=s2.toks+([]:List (Str×Value)).length} ->
  codeAny (model X.prog X.w) X.A (.compLoop (.ListComp pe [⟨tg,iter,ifs,0⟩] scope pos) 0 (.ref it) (.ref s2.heap.objs.size) (compEnvC scope (eT X.env.cells scope.names []) HP.objs.size X.env))
   (compPost (model X.prog X.w) X.A X.xe use Q (.ref s2.heap.objs.size) HP.objs.size) s₃:=by
  rintro s₃ rfl
  refine IM (λk s'=>∃i σi Hi own' as bs,k=ds.length+1-i/\i<=ds.length/\Inv (cxC X scope HP.objs.size Nc s2 H2 fp) [] σi Hi s'/\tn i s'.heap/\(∀b∈fp,Hi b=none)/\Same H2 Hi /\
   Fm X.K H₀ O₀ Hi (cZ O s2.heap.objs.size) own' (aQ n caps e) σi/\(∀j,own' j≠some s2.heap.objs.size)/\aR f (ds.drop i)=.ok bs/\ys=as++bs/\as.length<=i /\
   (∃xs,Hi s2.heap.objs.size=some (.lst xs)/\RDs X.K Hi (cZ O s2.heap.objs.size) as xs)/\∀t∈srs,PinS X.K Hi (cZ O s2.heap.objs.size) s2.heap.objs.size t) ?_ (ds.length+1) ?_
  ·rintro k s' ⟨i,σi,Hi,own',as,bs,rfl,hi,Ii,tni,fri,smi,Fi,noi,evd,rfl,hal,⟨xs,hx,wx⟩,rri⟩
   have stat:∀b∈fp,gO (cxC X scope HP.objs.size Nc s2 H2 fp) [] Hi b:=fpn fri (λb _ p hp=>by cases hp)
   obtain⟨w1,w2,w3⟩:=wk i Hi (cZ O s2.heap.objs.size) λt ht=>(rri t ht).rr
   by_cases hlt:i<ds.length
   ·refine thn (Tn.item (cxC X scope HP.objs.size Nc s2 H2 fp) rfl rfl rfl hc i [] s' σi Hi (λ_ _=>False) Ii stat tni (w1 hlt)) λr s4 ⟨u,hr,h4⟩=>?_
    subst hr
    refine thn h4 λ_ s5 ⟨v,H5,I5,r5,y5,tn5,fr5⟩=>?_
    obtain⟨s35,rv⟩:=w3 v H5 _ (aX hlt) y5
    have I5':=I5.pinned (fpn fr5 (λb _ p hp=>by cases hp)) (Tn.obj _ _ tn5)
    rw[yY hlt,aR]at evd
    obtain⟨o,ef,evd⟩:=Res.bind_ok evd
    obtain⟨b',eb,evd⟩:=Res.bind_ok evd
    obtain⟨e3,ep,ef⟩:=Res.bind_ok ef
    obtain⟨dc,ec,ef⟩:=Res.bind_ok ef
    obtain⟨kc,et,ef⟩:=Res.bind_ok ef
    have F5:=Fi.grow s35
    refine thn (bg H₀ O₀ _ s5 σi H5 v u (λσ' H'=>H'=H5/\∃own'',Fm X.K H₀ O₀ H5 (cZ O s2.heap.objs.size) own'' e3 σ'/\∀j,own'' j≠some s2.heap.objs.size) I5' r5 ⟨_,own',_,_,e3,F5,rv,ep,λσ' own'' hle F'=>⟨rfl,own'',F',λj q=>noi j (hle j _ q)⟩⟩) λ_ s6 ⟨σ6,H6,I6,q6⟩=>?_
    obtain⟨rfl,own6,F6,no6⟩:=q6
    have tests:wpAny (model X.prog X.w) X.A (forIn ifs true λc r=>if r=true then do let ok<-isTrue c (compEnvC scope (eT X.env.cells scope.names []) HP.objs.size X.env) (eval c (compEnvC scope (eT X.env.cells scope.names []) HP.objs.size X.env));pure (ForInStep.yield ok)else pure (ForInStep.yield r))
     (λok s7=>ok=kc/\∃H7,Inv (cxC X scope HP.objs.size Nc s2 H2 fp) ([]++kW fp s5.heap) σ6 H7 s7/\Same H6 H7) (λ_ _=>False) s6:=by
     rcases bt with⟨hi0,hc0⟩|⟨c0,hi0,st0⟩
     ·subst hi0 hc0
      (first|rw[tM]at ec|rw[iS]at ec|rw[Ab]at ec);cases ec;cases et
      exact wpAny_tests_nil ⟨rfl,H6,I6,Same.refl _⟩
     ·subst hi0
      refine wpAny_tests_one (thn (st0 H₀ O₀ _ s6 σ6 H6 (λb H'=>b=kc/\Same H6 H') I6 ⟨_,own6,e3,dc,kc,F6,ec,et,λH' s=>⟨rfl,s⟩⟩) λb s7 ⟨H7,I7,q1,q2⟩=>⟨q1,H7,I7,q2⟩)
    refine thn tests λok s7 ⟨hok,H7,I7,s57⟩=>?_
    subst hok
    have F7:=F6.grow s57
    obtain⟨pl1,pl2⟩:=IQ hb ep
    have bk:∀j,(aQ n caps e).at j=.no\/(aQ n caps e).at j=e3.at j:=λj=>by
     by_cases hj:n<=j
     ·exact .inr (pl2 j hj).symm
     ·rcases uJ (n:=n) (caps:=caps) (e:=e) j with z|⟨k,i,rfl,_,_⟩
      ·exact .inl z
      ·exact absurd (Ep n k) hj
    have keepT:∀{H8:Hp} {s8:Shared} {σ8:L2.St},Inv (cxC X scope HP.objs.size Nc s2 H2 fp) ([]++kW fp s5.heap) σ8 H8 s8->tn (i+1) s8.heap/\∀b∈fp,H8 b=none:=λI8=>
     ⟨Tn.keep _ _ _ tn5 λb hb o q=>(I8.pin (b,o) (fT _ (fT _ (oE hb q)))).1,λb hb=>by
      obtain⟨o,q,_⟩:=Tn.obj _ _ tn5 b hb
      exact(I8.pin (b,o) (fT _ (fT _ (oE hb q)))).2.1⟩
    cases ok with
    |false=>
     rw[if_neg aU]at ef⊢
     cases ef
     cases evd
     obtain⟨t1,t2⟩:=keepT I7
     exact⟨ds.length+1-(i+1),by lia,i+1,σ6,H7,own6,as,bs,rfl,hlt,I7.unpinned,t1,t2,smi.trans (s35.trans s57),F7.back pl1.symm bk,no6,eb,rfl,Nat.le_succ_of_le hal,⟨xs,s57 _ _ (s35 _ _ hx),(wx.same s35).same s57⟩,λt ht=>((rri t ht).same s35).same s57⟩
    |true=>
     rw[if_pos rfl]at ef⊢
     obtain⟨dy,ey,ef⟩:=Res.bind_ok ef
     cases ef
     cases evd
     refine thn (be H₀ O₀ _ s7 σ6 H7 (λv H'=>Same H7 H'/\RD X.K H' (cZ O s2.heap.objs.size) dy v) I7 ⟨_,own6,e3,dy,F7,ey,λv H' s r _=>⟨s,r⟩⟩) λwv s8 ⟨vy,H8,I8,r8,s78,rd8⟩=>?_
     have sm8:=s35.trans (s57.trans s78)
     have hx8:=sm8 _ _ hx
     have F8:=F7.grow s78
     have wx8:=wx.same sm8
     have h0:H₀ s2.heap.objs.size=none:=(F.same.trans s12).free fr
     refine thn (AR (X:=cxC X scope HP.objs.size Nc s2 H2 fp) _ s8 σ6 H8 (.ref s2.heap.objs.size) [vy] (.ref s2.heap.objs.size) [wv] (λ_ H'=>H'=upd H8 s2.heap.objs.size (.lst (xs++[vy]))) I8 rfl (.cons r8 .nil) ⟨_,xs,vy,rfl,rfl,hx8,by rw[wx.length,<-fN];lia,rfl⟩) λ_ s9 ⟨v9,H9,I9,r9,e9⟩=>?_
     subst e9
     obtain⟨t1,t2⟩:=keepT I9
     have smU:Same H2 (upd H8 s2.heap.objs.size (.lst (xs++[vy]))):=λb o q=>by
      rw[aL (hZ q fr)]
      exact sm8 _ _ (smi _ _ q)
     refine⟨ds.length+1-(i+1),by lia,i+1,σ6,_,own6,as++[dy],b',rfl,hlt,I9.unpinned,t1,t2,smU,(F8.updO (.inr rfl) hx8 h0 no6).back pl1.symm bk,no6,eb,by simp,?_,⟨xs++[vy],bS,?_⟩,λt ht=>((rri t ht).same sm8).upd (.inr rfl) hx8⟩
     ·rw[bR,fG];lia
     ·exact(wx8.append (RDs.cons rd8 RDs.nil)).upd (.inr rfl) hx8
   ·have hii:i=ds.length:=by lia
    subst hii
    refine thn (Tn.done (cxC X scope HP.objs.size Nc s2 H2 fp) rfl rfl rfl hc _ [] s' σi Hi (λ_ _=>False) Ii stat tni (w2 (aN _))) λr s4 ⟨hr,I4⟩=>?_
    subst hr
    rw[Lp,aR]at evd
    cases evd
    have nO:¬O s2.heap.objs.size:=λz=>by
     obtain⟨o,q⟩:=F2.trk _ z
     rw[fr]at q;cases q
    refine fin HP.objs.size s2 H2 Hi s4 s2.heap.objs.size I2 s12 hCl (λh' sb=>outC I2 I4 hfp (iJ hCl) sb) ?_ I4.free (s12.trans smi) (F.grow (s12.trans smi)) ?_ ?_ (aT hCl)
    ·obtain⟨m,hn,_⟩:=I4.loc
     exact⟨m,hn⟩
    ·exact⟨_,xs,rfl,.inl ⟨nO,.inl hx⟩,by rw[lR];exact wx.weak λ_ z=>.inl z⟩
    ·exact λ_=>⟨_,rfl,s12.free fr,xs,hx,by rw[lR];exact wx⟩
  ·refine⟨0,_,_,ownc,[],ys,rfl,eM _,I0,Tn.keep _ _ _ tn0 λb _ o q=>old b o q,λb hb=>?_,bU fr _,Fc,nown,by simpa using e2,rfl,aN _,⟨[],bS,rfl⟩,?_⟩
   ·rw[aL (aT (hfo b hb))];exact(hfp b hb).1
   ·intro t ht
    have r0:=rr0 t ht
    cases t with
    |fr a o u=>exact bU fr _ _ _ r0
    |dv d0 v0=>
     rcases r0 with z|⟨al,z1,z2⟩
     ·exact .inl ((z.new fr).same (bU fr _))
     ·obtain⟨ob,hob,_⟩:=z2.obj
      exact .inr ⟨al,z1,hZ hob fr,(z2.new fr).same (bU fr _)⟩
 exact codeAny_compStart_list (loop _ rfl) (Tn.self _ 0 _ _ _ (Tn.keep _ _ _ tn0 λb _ o q=>old b o q) (loop _ rfl))
end
section
variable{T:Tab}{cf:Nat->List D->Res D}{X:Cx}{x y z:E}{p q r tg iter:Expr}{pos pos' pos'':Pos}
theorem CA{n:Nat}{caps:List Nat}{g:G}{elt src cond:E}{pe:Expr}{ifs:List Expr}{scope:Scope}{Nc:List Str}(hc:X.calm=true)(S:ScopeC X scope)(P:CapsOk X scope n caps Nc)(hb:g.below n=true)
 (hplain:bA iter=true) (hsrc:SI T cf X tg src true iter)
 (body:∀C s2 H2 fp,(cxC X scope C Nc s2 H2 fp).Ok->SG (cxC X scope C Nc s2 H2 fp) g tg/\SE T cf (cxC X scope C Nc s2 H2 fp) elt pe/\nD ifs cond (ST T cf (cxC X scope C Nc s2 H2 fp) cond)) :
 SE T cf X (.comp n caps g elt src cond) (.ListComp pe [⟨tg,iter,ifs,0⟩] scope pos):=by
 intro H₀ O₀ pins s σ H Q I ⟨O,own,e,d,F,ev,k⟩
 rw[eval_ListComp]
 refine Bz (use:=none) hc S P hb hplain hsrc body I F ev ?_
 intro C s2 H2 Hi s' a I2 s12 hC hI ns hn sm Fi rd nl hne
 obtain⟨m,ns⟩:=ns
 exact⟨m,ns,λh' sb=>⟨.ref a,Hi,hI h' sb,rfl,k _ Hi sm rd λ_=>nl⟩⟩
theorem IR{i:Nat}{nm:Str}{n:Nat}{caps:List Nat}{g:G}{elt src cond:E}{pe:Expr}{ifs:List Expr}{scope:Scope}{Nc:List Str}(hN:X.N.Nodup)(hi:X.N[i]?=some nm)(hl:Loc X.env.scope nm)(hf:X.fn nm=true\/X.env.scope.names.lookup nm=some .local)
 (hsw:swapsWith (.ListComp pe [⟨tg,iter,ifs,0⟩] scope pos) (some (.Name nm pos')) pos''.line X.env=pure true)
 (hc:X.calm=true) (S:ScopeC X scope) (P:CapsOk X scope n caps Nc) (hb:g.below n=true)
 (hplain:bA iter=true) (hsrc:SI T cf X tg src true iter)
 (body:∀C s2 H2 fp,(cxC X scope C Nc s2 H2 fp).Ok->SG (cxC X scope C Nc s2 H2 fp) g tg/\SE T cf (cxC X scope C Nc s2 H2 fp) elt pe/\nD ifs cond (ST T cf (cxC X scope C Nc s2 H2 fp) cond)) :
 ∀H₀ O₀,PS X (.Assign [.Name nm pos'] (.ListComp pe [⟨tg,iter,ifs,0⟩] scope pos) pos'') (λD' σ H=>∃O own e d,Fm X.K H₀ O₀ H O own e σ/\evE T cf (.comp n caps g elt src cond) e=.ok d/\∀v H',Same H H'->RD X.K H' O d v->NewL X.K H H' O d v->D'.nx (σ.set i (some v)) H'):=by
 intro H₀ O₀ pins s σ H D' I ⟨O,own,e,d,F,ev,k⟩
 rw[exec_Assign_Name_used _ _ _ _ hsw]
 refine wpAny_bind (wpAny_standAt (wpAny_bind ?_))
 show wpAny _ X.A (do let _<-comprehension (.ListComp pe [⟨tg,iter,ifs,0⟩] scope pos) scope X.env _ (newList []) false (eval iter X.env) (some (assign (.Name nm pos') X.env))) _ _ s
 refine wpAny_bind (wpAny_mono (Bz (use:=some (assign (.Name nm pos') X.env)) (Q:=λ_ s'=>SP X pins D' .next s') hc S P hb hplain hsrc body I F ev ?_) (λ_ s' hq=>wpAny_pure (wpAny_pure hq)) λ_ _ e=>e)
 intro C s2 H2 Hi s' a I2 s12 hC hI ns hn sm Fi rd nl hne
 obtain⟨m,ns⟩:=ns
 have I':Inv X pins σ Hi s':=by
  have:=hI s'.heap (.refl ..)
  exact this
 show wpAny _ X.A (assign (.Name nm pos') X.env (.ref a)) _ _ _
 refine wpAny_assign_Name (zR (v:=.ref a) I' hN hi hl rfl (λs'' I'' ⟨a0,sb,ha0⟩=>?_) hf)
 have lt0:a0<s2.heap.objs.size:=by
  rcases ha0 with z|z
  ·rw[z];exact I2.lt
  ·obtain⟨v,w⟩:=I2.cell nm a0 z
   exact w.lt
 have neC:C≠a0:=iK (kR lt0 hC)
 refine⟨m,ns.sameBut sb neC,λh' sb'=>?_⟩
 refine⟨σ.set i (some (.ref a)),Hi,?_,k _ Hi sm rd nl⟩
 refine I''.turned (t':=s''.toks) (it:=C) (λb o hb' e=>(sb'.2 b hb').trans e) hn (iK (kR I2.lt hC)) (.inr (bV I2.sz (iJ hC))) (λx c e z=>?_) (λp hp z=>?_)
 ·obtain⟨v,w⟩:=I2.cell x c e
  exact absurd (kR w.lt hC) (by rw[z];exact kM _)
 ·exact absurd (kR (Heap.lt_size (I2.pin p hp).1) hC) (by rw[z];exact kM _)
theorem IS{i:Nat}{nm:Str}{n:Nat}{caps:List Nat}{g:G}{elt src cond:E}{pe:Expr}{ifs:List Expr}{scope:Scope}{Nc:List Str}(hN:X.N.Nodup)(hi:X.N[i]?=some nm)(hl:Loc X.env.scope nm)(hf:X.fn nm=true\/X.env.scope.names.lookup nm=some .local)
 (hc:X.calm=true) (S:ScopeC X scope) (P:CapsOk X scope n caps Nc) (hb:g.below n=true)
 (hplain:bA iter=true) (hsrc:SI T cf X tg src true iter) (o:Bool)
 (body:∀C s2 H2 fp,(cxC X scope C Nc s2 H2 fp).Ok->SG (cxC X scope C Nc s2 H2 fp) g tg/\SE T cf (cxC X scope C Nc s2 H2 fp) elt pe/\nD ifs cond (ST T cf (cxC X scope C Nc s2 H2 fp) cond)) :
 SS T cf X (if o then .asgO i (.comp n caps g elt src cond)else .asg (.one i) (.comp n caps g elt src cond)) (.Assign [.Name nm pos'] (.ListComp pe [⟨tg,iter,ifs,0⟩] scope pos) pos''):=by
 intro H₀ O₀
 have main:PS X (.Assign [.Name nm pos'] (.ListComp pe [⟨tg,iter,ifs,0⟩] scope pos) pos'') (λD' σ H=>∃O own e d,Fm X.K H₀ O₀ H O own e σ/\evE T cf (.comp n caps g elt src cond) e=.ok d/\∀v H',Same H H'->RD X.K H' O d v->NewL X.K H H' O d v->D'.nx (σ.set i (some v)) H'):=by
  have hsw:∃b:Bool,swapsWith (.ListComp pe [⟨tg,iter,ifs,0⟩] scope pos) (some (.Name nm pos')) pos''.line X.env=pure b:=⟨_,rfl⟩
  obtain⟨b,hsw⟩:=hsw
  cases b with
  |true=>exact IR hN hi hl hf hsw hc S P hb hplain hsrc body H₀ O₀
  |false=>
   refine PS.imp (λD' σ H hq=>?_) (jV hN hi hl (CA hc S P hb hplain hsrc body H₀ O₀) hsw hf)
   obtain⟨O,own,e,d,F,ev,k⟩:=hq
   exact⟨O,own,e,d,F,ev,λv H' s' r n=>k v H' s' r (n rfl)⟩
 refine PS.imp (λD' σ H hq=>?_) main
 obtain⟨ts,e,out,⟨O,own,F,tt⟩,ev,k⟩:=hq
 cases o with
 |true=>
  rw[if_pos rfl]at ev
  (first|rw[oT]at ev|rw[oU]at ev)
  obtain⟨d,e1,ev⟩:=Res.bind_ok ev
  split at ev
  ·obtain⟨c,ev⟩:=aV ev
   cases ev
   refine⟨O,own,e,_,F,e1,λv H' s' r n=>?_⟩
   obtain⟨p,rfl,h2,h3⟩:=n rfl
   exact k _ H' ⟨_,_,F.setO s' i h2 h3,λt ht=>((tt t ht).new h2).same s'⟩
  ·obtain⟨c,ev⟩:=aV ev
   cases ev
   refine⟨O,own,e,_,F,e1,λv H' s' r n=>?_⟩
   obtain⟨p,rfl,h2,h3⟩:=n rfl
   exact k _ H' ⟨_,_,F.setO s' i h2 h3,λt ht=>((tt t ht).new h2).same s'⟩
  ·obtain⟨c,ev⟩:=aV ev
   cases ev
   refine⟨O,own,e,_,F,e1,λv H' s' r n=>?_⟩
   obtain⟨p,rfl,h2,h3⟩:=n rfl
   exact k _ H' ⟨_,_,F.setO s' i h2 h3,λt ht=>((tt t ht).new h2).same s'⟩
  ·cases ev
 |false=>
  rw[if_neg aU]at ev
  (first|rw[oT]at ev|rw[oU]at ev)
  obtain⟨d,e1,ev⟩:=Res.bind_ok ev
  obtain⟨e2,e3,ev⟩:=Res.bind_ok ev
  cases ev
  cases e3
  exact⟨O,own,e,d,F,e1,λv H' s' r n=>k _ H' ⟨O,_,(F.grow s').setV i r,λt ht=>(tt t ht).same s'⟩⟩
theorem IT{pins:List (Addr×Obj)}{σ:L2.St}{H:Hp}{s:Shared}{h':Heap}{t':Nat}{a b:Addr}(I:Inv X pins σ H s)(k:∀c o,c≠a->c≠b->s.heap.get? c=some o->h'.get? c=some o)(na:H a=none)(nb:H b=none)
 (fa:a≠X.env.locals/\(a∈X.ex\/X.s₀.heap.objs.size<=a)/\(∀x c,X.env.cells.lookup x=some c->c≠a)/\∀p∈X.pn++pins,p.1≠a)
 (fb:b≠X.env.locals/\(b∈X.ex\/X.s₀.heap.objs.size<=b)/\(∀x c,X.env.cells.lookup x=some c->c≠b)/\∀p∈X.pn++pins,p.1≠b):Inv X pins σ H {s with heap:=h',toks:=t' }:=by
 have nn:∀c u,H c=some u->c≠a/\c≠b:=λc u e=>⟨λz=>(by rw[z,na]at e;cases e),λz=>(by rw[z,nb]at e;cases e)⟩
 have no2:∀{c},c∉[a,b]->c≠a/\c≠b:=λhc=>⟨λz=>hc (by simp[z]),λz=>hc (by simp[z])⟩
 refine I.step (g':=s.gens) (d':=s.drawn) (ch:=[a,b]) (λc hc=>?_) (λc o _ _ hc e _=>k c o (no2 hc).1 (no2 hc).2 e) (λc o _ _ hc e _=>⟨o.slots,k c o (no2 hc).1 (no2 hc).2 e⟩) (λ_ _ _ _ n=>n)
  (λc o hc e=>⟨o,k c o (no2 hc).1 (no2 hc).2 e⟩) (λ_ _ e=>e) (λ_ _ _ e=>e) (λb ps e=>⟨#[],by rw[e];simp⟩) (λm hm=>?_) (λc u e=>?_) I.bare
 ·rcases aO.mp hc with rfl|hc
  ·exact⟨fa.2.1,fa.1,fa.2.2.1,fa.2.2.2⟩
  ·have e:c=b:=by simpa using hc
   subst e
   exact⟨fb.2.1,fb.1,fb.2.2.1,fb.2.2.2⟩
 ·obtain⟨o,es,ep,ho,r⟩:=hm
  exact⟨o,es,ep,k _ o (Ne.symm fa.1) (Ne.symm fb.1) ho,r⟩
 ·refine(I.hok c u e).stay (λc' v hc q=>?_) (λ_ q=>q) λ_ _ q=>q
  have:c'≠a/\c'≠b:=by
   rcases hc with z|z
   ·rw[z];exact nn c u e
   ·exact nn c' _ z
  exact k c' v this.1 this.2 q
noncomputable def Ite(K:PySem.W.Frag)(a:Addr):It:=
 ⟨λi H=>∃xs x,SqL K H a xs/\xs[i]?=some x,λi H x H'=>∃p y,H p=none/\x=.ref p/\H'=upd H p (.tup [.int i,y])/\∀xs,SqL K H a xs->xs[i]?=some y,λi H=>∃xs,SqL K H a xs/\xs.length<=i⟩
theorem IU{Pg:Program}{w:World}{K:PySem.W.Frag}{es:List Expr}{kk:Nat}{pos:Pos}(a en it:Addr)(hne:en≠it):Turn Pg w K (.Tuple es kk pos) (Ite K a) [en,it] en (λi h=>∃old,IsEnum h en it i old/\h.IsListIter it a i) where
 mem:=by simp
 obj:=λi h st b hb=>by
  obtain⟨old,st1,o,e,c,d⟩:=st
  rcases aO.mp hb with rfl|hb
  ·exact⟨_,st1,λv z=>by
    have z':Data.fields _=Data.cell v:=z
    cases z'⟩
  ·have e':b=it:=by simpa using hb
   subst e'
   exact⟨o,e,λv z=>by rw[d]at z;cases z⟩
 keep:=λi h h' st k=>by
  obtain⟨old,st1,st2⟩:=st
  exact⟨old,k en (by simp) _ st1,st2.at λo e=>k it (by simp) o e⟩
 item:=by
  intro X hP hw hK hc i pins s σ H E I hf st hg
  subst hP hw hK
  obtain⟨xs,x,hq,hx⟩:=hg
  obtain⟨old,st1,st2⟩:=st
  obtain⟨its,rv,p,hz⟩:=I.list hq
  obtain⟨u,hu,ru⟩:=rv.get hx
  obtain⟨f0,f1,f2,f3,f4,f5⟩:=hf en (by simp)
  obtain⟨g0,g1,g2,g3,g4,g5⟩:=hf it (by simp)
  refine wpAny_pyNext_enum_item st1 st2 p.isList (x:=u) (by simpa using hu) hne λh₁ heo hit₁ ht₁ hz₁ hk₁=>?_
  refine⟨_,rfl,wpAny_letOwnedTupleGo_enum heo λh₂ he₂ hs₂=>?_⟩
  replace hs₂:Heap.SameBut en h₁ h₂:=hs₂
  have enl:en<s.heap.objs.size:=Heap.lt_size st1
  have itl:it<s.heap.objs.size:=by
   obtain⟨o,q,_⟩:=id st2
   exact Heap.lt_size q
  have fr:H s.heap.objs.size=none:=I.hok.fresh (aN _)
  have hm:∃hm:Heap,hm=s.heap.push {cls:=.type "tuple", data:=.seq #[.int i s.toks,u] }:=⟨_,rfl⟩
  obtain⟨hm,ehm⟩:=hm
  have I1:Inv X pins σ (upd H s.heap.objs.size (.tup [.int i,x])) {s with heap:=hm}:=by
   rw[ehm]
   refine I.laid (t':=s.toks) (λb o q=>Heap.get?_push_of_some _ q) (aN _) ?_
   exact⟨by show 2<=sizeLine;decide,[.int i s.toks,u],.cons ⟨_,rfl⟩ (.cons ru .nil),⟨_,Heap.get?_push_size _ rfl,rfl,_,rfl⟩⟩
  have kept:∀b o,b≠en->b≠it->hm.get? b=some o->h₂.get? b=some o:=λb o hb1 hb2 q=>by
   refine(hs₂.2 b hb1).trans ?_
   rw[ehm]at q
   rcases Heap.get?_push_cases q with⟨e1,e2⟩|q
   ·rw[e1,e2];exact ht₁
   ·exact hk₁ b o hb1 hb2 q
  have up:∀{c:Addr},c<s.heap.objs.size->H c=none->upd H s.heap.objs.size (.tup [.int i,x]) c=none:=λhl hn=>by rw[aL (aT hl)];exact hn
  have I2:Inv X pins σ (upd H s.heap.objs.size (.tup [.int i,x])) {s with heap:=h₂,toks:=s.toks+1}:=IT (s:={s with heap:=hm}) (t':=s.toks+1) I1 kept (up enl f0) (up itl g0) ⟨f1,f3,f4,f5⟩ ⟨g1,g3,g4,g5⟩
  refine⟨.ref s.heap.objs.size,_,I2,rfl,⟨_,x,fr,rfl,rfl,λys hy=>by rw[I.list_inj hy hq];exact hx⟩,⟨u,?_,hit₁.extBut hs₂.extBut (Ne.symm hne)⟩,λb hb=>?_⟩
  ·have:((i+1:Nat):Int)=(i:Int)+1:=by push_cast;rfl
   rw[this];exact he₂
  ·rcases aO.mp hb with rfl|hb
   ·exact up enl f0
   ·have e':b=it:=by simpa using hb
    subst e'
    exact up itl g0
 done:=by
  intro X hP hw hK hc i pins s σ H E I hf st hg
  subst hP hw hK
  obtain⟨xs,hq,hx⟩:=hg
  obtain⟨old,st1,st2⟩:=st
  obtain⟨its,rv,p,hz⟩:=I.list hq
  obtain⟨g0,g1,g2,g3,g4,g5⟩:=hf it (by simp)
  have hl:=rv.length
  exact wpAny_pyNext_enum_end (I.ok.hd hc) st1 st2 p.isList (by simp;lia) λh' eb=>⟨rfl,I.turned (t':=s.toks) (λb o hb e=>eb b o hb e) g0 g1 g3 g4 g5⟩
 self:=λ_ _ _ _ _ st h=>by
  obtain⟨old,st1,_⟩:=st
  exact wpAny_pyIter_enum st1 h
theorem uK(k:Int):∀ds:List D,(cR k ds).length=ds.length
 |[]=>rfl
 |d::ds=>by rw[cR,aP,aP,uK (k+1) ds]
theorem CB:∀(k:Int)(ds:List D)(i:Nat)(d:D),ds[i]?=some d->(cR k ds)[i]?=some (.tup [.int (k+i),d])
 |k,[],i,d,h=>by simp at h
 |k,d0::ds,0,d,h=>by simp at h;subst h;rw[cR];simp
 |k,d0::ds,i+1,d,h=>by
  rw[cR,Lo,CB (k+1) ds i d (by simpa using h)]
  congr 4
  push_cast
  lia
theorem IV{K:PySem.W.Frag}{a:Addr}{ds:List D}:Wk1 K (Ite K a) (.lst ds) (.ref a) (cR 0 ds):=by
 intro i H O r
 obtain⟨a',xs,e,q,w⟩:=r.lst
 cases e
 have hl:=w.length
 rw[uK]
 refine⟨λh=>?_,λh=>⟨xs,q,by lia⟩,λx H' d hd y=>?_⟩
 ·obtain⟨v,h1,h2⟩:=w.get (aX h)
  exact⟨xs,v,q,h1⟩
 ·obtain⟨p,yv,hp,rfl,rfl,hy⟩:=y
  refine⟨bU hp _,?_⟩
  have hi:i<ds.length:=by
   have:=(gL.mp hd).1
   rwa [uK]at this
  obtain⟨v,h1,h2⟩:=w.get (aX hi)
  have:=(hy xs q).symm.trans h1
  cases this
  rw[CB 0 ds i _ (aX hi)]at hd
  cases hd
  refine mX (RDs.cons ?_ (RDs.cons h2 RDs.nil)) hp
  show V.int (i:Int)=V.int (0+(i:Int))
  rw[Int.zero_add]
theorem IW {rd:Bool} {n:Str} {pn:Pos} {es:List Expr} {kk:Nat} {tpos:Pos} (hn:n = "enumerate") (hg:Gl X n) (hm:X.mg "enumerate" = none) (hp:bA p=true) (ha:SR T cf X x p) (hv:rd=false->SE T cf X x p) :
 SI T cf X (.Tuple es kk tpos) (.enum x) rd (.Call (.Name n pn) [p] [] pos):=by
 intro H₀ O₀ pins s σ H R I h
 subst hn
 obtain⟨O,own,e,ds,F,ev,k⟩:=h
 replace k:=pM k
 rw[Ae]at ev
 obtain⟨d1,e1,ev⟩:=Res.bind_ok ev
 have main:∀{u:Value} {s1:Shared} {v:V} {H1:Hp},Inv X pins σ H1 s1->RelV v u->Same H H1->RR X.K H1 O d1 v->(rd=false->RD X.K H1 O d1 v)->wpAny (model X.prog X.w) X.A (call (.type "enumerate") [u]) (λv s1=>wpAny (model X.prog X.w) X.A (pyIter v) (PIE X pins σ (.Tuple es kk tpos) R) X.xe s1) X.xe s1:=by
  intro u s1 v H1 I1 r1 s1' rr rv
  cases d1 with
  |lst dl=>
   cases ev
   obtain⟨a,xs,e,q1,w1⟩:=rr.lst
   subst e
   cases r1
   obtain⟨its,r',pl,hz⟩:=I1.list q1
   refine call_enumerate_list pl.isList λh' he hit hz' hk=>?_
   refine wpAny_pyIter_enum he ?_
   have I2:Inv X pins σ H1 {s1 with heap:=h' }:=I1.kept (t':=s1.toks) hk
   refine⟨s1.heap.objs.size+1,[s1.heap.objs.size+1,s1.heap.objs.size],_,Ite X.K a,H1,rfl,I2,IU a _ _ (zE _),⟨_,he,hit⟩,λb hb=>?_,k _ H1 _ _ s1' rr rv IV⟩
   rcases aO.mp hb with rfl|hb
   ·exact I1.fpOk (jG _) (I1.hok.fresh (jG _))
   ·have e':b=s1.heap.objs.size:=by simpa using hb
    subst e'
    exact I1.fpOk (aN _) (I1.hok.fresh (aN _))
  |tup _=>cases ev
  |non=>cases ev
  |bl _=>cases ev
  |int _=>cases ev
  |str _=>cases ev
  |dct _=>cases ev
  |tdc _=>cases ev
 cases rd with
 |true=>
  refine Call_ (jU I hg hm PyProof.Rows.boot_enumerate (PyProof.Rows.callWith_type1 (thn (cK (ha H₀ O₀) dO (bE hp) pos pins s σ H (λvs H1=>∃v,vs=[v]/\Same H H1/\RR X.K H1 O d1 v) I ⟨O,own,e,d1,F,e1,λv H' s' r=>⟨v,rfl,s',r⟩⟩) λus s1 ⟨vs,H1,I1,r1,v,ev1,s1',rr⟩=>?_) (bE hp) rfl))
  subst ev1
  obtain⟨u,rfl,ru⟩:=jH r1
  exact main I1 ru s1' rr (λz=>by cases z)
 |false=>
  refine Call_ (jU I hg hm PyProof.Rows.boot_enumerate (PyProof.Rows.callWith_type1 (thn (cK (hv rfl H₀ O₀) dO (bE hp) pos pins s σ H (λvs H1=>∃v,vs=[v]/\Same H H1/\RD X.K H1 O d1 v) I ⟨O,own,e,d1,F,e1,λv H' s' r _=>⟨v,rfl,s',r⟩⟩) λus s1 ⟨vs,H1,I1,r1,v,ev1,s1',rr⟩=>?_) (bE hp) rfl))
  subst ev1
  obtain⟨u,rfl,ru⟩:=jH r1
  exact main I1 ru s1' rr.rr (λ_=>rr)
end
section
variable{K:PySem.W.Frag}{H₀ H H':Hp}{O₀ O O':Addr->Prop}{own:Nat->Option Addr}{e:Nv}{σ:L2.St}
theorem CC{H:Hp}{O:Addr->Prop}(ks:List Int):RDs K H O (ks.map D.int) (ks.map V.int):=by
 induction ks with
 |nil=>exact rfl
 |cons k ks ih=>exact⟨.int k,ks.map V.int,rfl,rfl,ih⟩
theorem rds_kk{H:Hp}{O:Addr->Prop}(ks:List (Sum Int Str)):RDs K H O (ks.map eV) (ks.map kV):=by
 induction ks with
 |nil=>exact rfl
 |cons k ks ih=>exact⟨kV k,ks.map kV,rfl,by cases k<;>exact rfl,ih⟩
end
section
variable{T:Tab}{cf:Nat->List D->Res D}{X:Cx}{x y z:E}{p q r tg:Expr}{pos pos':Pos}{es:List Expr}
end
section
variable{prog:Program}{w:World}{A:Around}{E:Value->Shared->Prop}{s:Shared}
set_option maxHeartbeats 1600000 in
theorem IX{a:Addr}{kvs:List (Key×Value)}{ep:Nat}{Q:List Value->Shared->Prop}(hh:A.handled=none)(hd:(a==sysModules)=false)(hz:kvs.length<64)(hS:s.heap.DictAt (aY prog w) a kvs ep)
 (hQ:∀vs h' tk,vs.length=kvs.length->(∀(i:Nat) v,vs[i]?=some v->∃k x,kvs[i]?=some (k,x)/\hJ k v=true)->s.heap.objs.size<=h'.objs.size->(∀b o,b<s.heap.objs.size->s.heap.get? b=some o->h'.get? b=some o)->Q vs {s with heap:=h',toks:=tk}) :
 wpAny (model prog w) A (collect (.ref a)) Q E s:=by
 have hT:=hS.dictOf.typeIs (s:=s)
 have hlt:a<s.heap.objs.size:=by obtain⟨o,es,ho,_⟩:=hS;exact Heap.lt_size ho
 unfold collect
 refine wpAny_bind (wpAny_runValue (codeAny_builtin PySem.F.entry_proto_collect ?_))
 rw[Around.under_plainId PySem.F.plain_proto_collect _]
 show wpAny _ A.in1 (newList []>>=λl=>again (.builtin "list.__iadd__" ⟨[l,.ref a],[]⟩)) _ _ s
 refine wpAny_bind (wpAny_newObj_type ?_)
 refine wpAny_pure ⟨plainId_quiet PySem.F.plain_list_iadd _,codeAny_builtin PySem.F.entry_list_iadd ?_⟩
 rw[Around.under_plainId PySem.F.plain_list_iadd _]
 have hS₁:(s.heap.push {cls:=.type "list", data:=.seq ([]:List Value).toArray}).get? s.heap.objs.size=some {cls:=.type "list", data:=.seq ([]:List Value).toArray}:=Heap.get?_push_size _ rfl
 have hE₁:(s.heap.push {cls:=.type "list", data:=.seq ([]:List Value).toArray}).DictAt (aY prog w) a kvs ep:=hS.at' λo e=>Heap.get?_push_of_some _ e
 have hsz₁:(s.heap.push {cls:=.type "list", data:=.seq ([]:List Value).toArray}).objs.size=s.heap.objs.size+1:=size_push' _ _
 have hk₁:∀b o,s.heap.get? b=some o->(s.heap.push {cls:=.type "list", data:=.seq ([]:List Value).toArray}).get? b=some o:=λb o e=>Heap.get?_push_of_some _ e
 generalize s.heap.push {cls:=.type "list", data:=.seq ([]:List Value).toArray}=H1 at *
 have h1:Builtin.List.listSameRef (.ref s.heap.objs.size) (.ref a)=false:=by simp[Builtin.List.listSameRef,iK hlt]
 show wpAny _ A.in1 (Builtin.List.listExtendWith (.ref s.heap.objs.size) (.ref a) (.ref s.heap.objs.size)) _ _ _
 unfold Builtin.List.listExtendWith
 have hT1:Shared.TypeIs {s with heap:=H1} (.ref a) "dict" := hE₁.dictOf.typeIs (s:={s with heap:=H1})
 refine wpAny_bind (wpAny_typeOf hT1 ?_)
 rw[if_neg (by rw[h1];decide)]
 refine wpAny_bind (wpAny_pyIter_dict (s:={s with heap:=H1}) hd hE₁ ?_)
 show wpAny _ _ _ _ _ {s with heap:=H1.push {cls:=.type "dict_keyiterator", data:=.fields #[.ref a,.int 0 0,.int kvs.length 0,.int ep 0] } }
 have hI2:(H1.push {cls:=.type "dict_keyiterator", data:=.fields #[.ref a,.int 0 0,.int kvs.length 0,.int ep 0] }).get? H1.objs.size=some {cls:=.type "dict_keyiterator", data:=.fields #[.ref a,.int 0 0,.int kvs.length 0,.int ep 0] }:=Heap.get?_push_size _ rfl
 have hk₂:∀b o,H1.get? b=some o->(H1.push {cls:=.type "dict_keyiterator", data:=.fields #[.ref a,.int 0 0,.int kvs.length 0,.int ep 0] }).get? b=some o:=λb o e=>Heap.get?_push_of_some _ e
 generalize H1.push {cls:=.type "dict_keyiterator", data:=.fields #[.ref a,.int 0 0,.int kvs.length 0,.int ep 0] }=H2 at *
 have hE₂:H2.DictAt (aY prog w) a kvs ep:=hE₁.at' λo e=>hk₂ _ o e
 have hT2:Shared.TypeIs {s with heap:=H2} (.ref a) "dict" := hE₂.dictOf.typeIs (s:={s with heap:=H2})
 refine wpAny_bind (wpAny_holding ?_)
 unfold Builtin.List.listLengthHint
 refine wpAny_bind (wpAny_specialOf hT2 PySem.F.slot_dict_len.lookup ?_)
 (generalize hid:("dict.__len__" : String)=id0;(fail_if_success (clear hid id0));wp_delta;rw[show splitId id0=some ("dict", "__len__")from by subst hid;decide +kernel];subst hid)
 refine wpAny_bind (wpAny_isInstance (b:=true) hT2 (by rw[isSubtype_type];kernel_rfl) ?_)
 rw[if_neg (by decide)]
 show wpAny _ A.in1 (typeOf (Value.ref a)>>=_) _ _ _
 refine wpAny_bind (wpAny_typeOf hT2 ?_)
 refine wpAny_pure ?_
 rw[if_pos (by decide +kernel)]
 refine wpAny_bind (wpAny_rule ?_)
 have hL2:H2.get? s.heap.objs.size=some (seqObj "list" #[] 0):=hk₂ _ _ hS₁
 unfold Builtin.List.listTouch
 refine wpAny_bind ?_
 refine wpAny_bind (listUpdate_at (s:={s with heap:=H2}) hL2 rfl ?_)
 have hL3:=get?_update_seq hL2 (·.push Value.none)
 refine listUpdate_at (s:={s with heap:=H2.update s.heap.objs.size (Obj.mapSeq (·.push Value.none)) }) hL3 rfl ?_
 have hL4:∃c,((H2.update s.heap.objs.size (Obj.mapSeq (·.push Value.none))).update s.heap.objs.size (Obj.mapSeq (·.pop))).get? s.heap.objs.size=some (seqObj "list" #[] c):=⟨_,(get?_update_seq hL3 (·.pop)).trans (by rw[show((#[]:Array Value).push Value.none).pop=#[]from rfl])⟩
 obtain⟨c4,hL4⟩:=hL4
 have hk₃:∀b o,b≠s.heap.objs.size->H2.get? b=some o->((H2.update s.heap.objs.size (Obj.mapSeq (·.push Value.none))).update s.heap.objs.size (Obj.mapSeq (·.pop))).get? b=some o:=λb o hb e=>by
  rw[Heap.get?_update_other _ _ (λh=>hb h.symm),Heap.get?_update_other _ _ (λh=>hb h.symm)];exact e
 dsimp only
 generalize (H2.update s.heap.objs.size (Obj.mapSeq (·.push Value.none))).update s.heap.objs.size (Obj.mapSeq (·.pop))=H3 at *
 have hIs:H3.IsKeyIter H1.objs.size a 0 kvs.length ep:=⟨_,hk₃ _ _ (by rw[hsz₁];exact zE _) hI2,rfl,rfl⟩
 have hE₃:H3.DictAt (aY prog w) a kvs ep:=hE₂.at' λo e=>hk₃ _ o (aT hlt) e
 have W:=(Walks.dictKeys (prog:=prog) (w:=w) (knd:=aY prog w) (A:=A.in1) hh H1.objs.size a (by rw[hsz₁];exact aT (gY hlt)) kvs ep).toS
 refine wpAny_pure ⟨plainId_quiet PySem.F.plain_extend_loop _,codeAny_extend_loopS W (by rw[sizeLine_eq];lia) s.heap.objs.size ?_ _ kvs.length 0 _ #[] c4 (by lia) (eM _) ⟨hIs,hE₃⟩ hL4 (ItemsOf.nil _) λs' acc' c' hm hS' hacc=>?_⟩
 ·rw[hsz₁]
  simp only[aO,fH,or_false,not_or]
  exact⟨aT (oA _),iK hlt⟩
 ·show wpAny _ A (load s.heap.objs.size>>=_) _ _ s'
  refine wpAny_bind (wpAny_load hS' ?_)
  obtain⟨h',g',d',tk',os'⟩:=s'
  have eg:g'=s.gens:=hm.gens
  have ed:d'=s.drawn:=hm.drawn
  have eo:os'=s.os:=hm.os
  subst eg;subst ed;subst eo
  refine wpAny_pure ?_
  have hge:s.heap.objs.size<=h'.objs.size:=iJ (Heap.lt_size hS')
  refine hQ acc'.toList h' tk' (by rw[jP];exact hacc.1) (λi v hv=>by rw[jR]at hv;exact hacc.2 i v hv) hge λb o hb e=>?_
  refine hm.heap b o ?_ (hk₃ b o (aT hb) (hk₂ b o (hk₁ b o e)))
  rw[hsz₁]
  simp only[aO,fH,or_false,not_or]
  exact⟨aT hb,aT (gY hb)⟩
theorem intsAre_of:∀{vs:List Value} {ns:List Int},vs.length=ns.length->(∀(i:Nat) v,vs[i]?=some v->∃n t,ns[i]?=some n/\v=.int n t)->IntsAre vs ns
 |[],[],_,_=>.nil
 |[],_::_,h,_=>by cases h
 |_::_,[],h,_=>by cases h
 |v::vs,n::ns,h,q=>by
  obtain⟨m,t,e1,e2⟩:=q 0 v rfl
  cases e1
  subst e2
  exact .cons n t (intsAre_of (by simpa using h) λi v hv=>q (i+1) v hv)
theorem IY{n:Int}{v:Value}(h:hJ (.inl n) v=true):∃t,v=.int n t:=Value.isInt_shape (k:=n) (v:=v) h
theorem IZ{a:Addr}{kvs:List (Key×Value)}{ep:Nat}{ns:List Int}{Q:Value->Shared->Prop}(hh:A.handled=none)(hd:(a==sysModules)=false)(hk:kvs.map (·.1)=ns.map Sum.inl)(hz:ns.length<64)(hS:s.heap.DictAt (aY prog w) a kvs ep)
 (h:∀h' tk l its c ns',(∀b o,b<s.heap.objs.size->s.heap.get? b=some o->h'.get? b=some o)->s.heap.objs.size<=l->h'.get? l=some (seqObj "list" its c)->IntsAre its.toList ns'->ns'.Perm ns->ns'.Pairwise (·<=·)->Q (.ref l) {s with heap:=h',toks:=tk}) :
 wpAny (model prog w) A (call (.builtin "sorted") [.ref a]) Q E s:=by
 have hl:kvs.length=ns.length:=by have:=congrArg yV hk;rw[aF,aF]at this;exact this
 refine Calls.call_function_entry kind_sorted plain_sorted entry_sorted (args_sorted1 _) ?_
 unfold Builtin.«sorted»
 refine wpAny_bind (m:=checkCount "sorted" 1 1 _) (wpAny_pure ?_)
 refine wpAny_bind (IX (A:=A.in1) hh hd (by lia) hS λvs H1 tk hvl hva hsz hk1=>?_)
 have hI:IntsAre vs ns:=intsAre_of (by rw[hvl,hl]) λi v hv=>by
  obtain⟨k,x,e1,e2⟩:=hva i v hv
  have e3:(kvs.map (·.1))[i]?=some k:=by rw[bK,e1];rfl
  rw[hk,bK]at e3
  cases e4:ns[i]? with
  |none=>rw[e4]at e3;cases e3
  |some n=>
   rw[e4]at e3
   cases e3
   obtain⟨t,rfl⟩:=IY e2
   exact⟨n,t,rfl,rfl⟩
 have h64:vs.length<64:=by lia
 refine wpAny_bind (wpAny_newList ?_ (by rw[sizeLine_eq];lia))
 have hoL:(H1.push (seqObj "list" vs.toArray 0)).get? H1.objs.size=some (seqObj "list" vs.toArray 0):=Heap.get?_push_size _ rfl
 refine wpAny_bind (wpAny_holding (wpAny_call_entry slot_list_sort ⟨_,hoL,rfl⟩ entry_list_sort (list_sort_tree (s:={s with heap:=H1.push (seqObj "list" vs.toArray 0),toks:=tk}) hoL hI h64 λout ns' a1 a2 a3=>⟨_,rfl,?_⟩) (args_list_sort _)))
 obtain⟨c,hc⟩:=sortedHeap_at (out:=out) (vs:=vs) hoL
 refine wpAny_pure ⟨_,rfl,h _ _ _ out c ns' (λb o hb q=>?_) hsz hc a1 a2 a3⟩
 have hb1:b<H1.objs.size:=dM hb hsz
 rw[sortedHeap_old (aT hb1) (by rw[size_push'];exact gY hb1),Heap.get?_push_ne _ _ _ (aT hb1)]
 exact hk1 b o hb q
theorem I_ {X:Cx} (hc:X.calm=true):dH X (.builtin "sorted") (λvs H Q=>∃(a:Addr) (ps:List (Key×V)) (ns:List Int),vs=[.ref a]/\Rd H a (.dK ps)/\ps.map (·.1)=ns.map Sum.inl/\ns.length<64/\∀(l:Addr) (ns':List Int),H l=none->ns'.Perm ns->ns'.Pairwise (·<=·)->Q (.ref l) (upd H l (.lst (ns'.map V.int)))):=by
 intro pins s σ H vs us Q I rv h
 obtain⟨a,ps,ns,rfl,hR,hk,hz,q⟩:=h
 obtain⟨u,rfl,ru⟩:=rv.one
 cases ru
 obtain⟨_,hd,xs,r,m⟩:=(show ObjOk X.prog X.w H s.heap a (.dK ps)from mH I.hok hR)
 obtain⟨ep,m⟩:=m.dictAt
 refine IZ (I.ok.hd hc) hd (by rw[<-KV.keys r];exact hk) hz m λh' tk l its c ns' hk hge hl hI hp hs=>?_
 refine⟨.ref l,_,I.laid (t':=tk) (λb o e=>hk b o (Heap.lt_size e) e) hge ?_,rfl,q _ ns' (I.hok.fresh hge) hp hs⟩
 refine⟨by rw[aF,hp.length_eq,sizeLine_eq];lia,its.toList,c,oW hI,by simpa using hl⟩
theorem Ia {X:Cx} (hc:X.calm=true):dH X (.builtin "sorted") (λvs H Q=>(∃(a:Addr) (ns:List Int),vs=[.ref a]/\SqL X.K H a (ns.map V.int)/\ns.length<64/\∀(l:Addr) (ns':List Int),H l=none->ns'.Perm ns->ns'.Pairwise (·<=·)->Q (.ref l) (upd H l (.lst (ns'.map V.int)))) \/
 ∃(a:Addr)(ps:List (Key×V))(ns:List Int),vs=[.ref a]/\Rd H a (.dK ps)/\ps.map (·.1)=ns.map Sum.inl/\ns.length<64/\∀(l:Addr)(ns':List Int),H l=none->ns'.Perm ns->ns'.Pairwise (·<=·)->Q (.ref l) (upd H l (.lst (ns'.map V.int)))):=by
 intro pins s σ H vs us Q I rv h
 rcases h with h|h
 ·exact Gz pins s σ H vs us Q I rv h
 ·exact I_ hc pins s σ H vs us Q I rv h
end
end Tr
namespace Tr
open PySem PySem.Spec PyProof.Rows L2 PySem.W
noncomputable def AskB{α:Type}(n:Nat)(R:α->Prop):KasT α->Prop
 |.ret a=>R a
 |.ask i j k=>i<n/\j<n/\∀b,AskB n R (k b)
theorem AskB.bind{α β:Type}{n:Nat}{R:α->Prop}{S:β->Prop}{f:α->KasT β}(hf:∀a,R a->AskB n S (f a)):∀{t:KasT α},AskB n R t->AskB n S (t.bind f)
 |.ret a,h=>hf a h
 |.ask i j k,h=>⟨h.1,h.2.1,λb=>AskB.bind hf (h.2.2 b)⟩
noncomputable def BelA(n:Nat)(p:Array Nat):Prop:=∀x∈p.toList,x<n
theorem BelA.getD{n:Nat}{p:Array Nat}(h:BelA n p)(h0:0<n)(i:Nat):p.getD i 0<n:=by
 by_cases hi:i<p.size
 ·rw[show p.getD i 0=p[i] by simp[Array.getD,hi]]
  exact h _ (by simp)
 ·rw[show p.getD i 0=0 by simp[Array.getD,hi]];exact h0
theorem BelA.perm{n:Nat}{p q:Array Nat}(h:BelA n p)(e:q.Perm p):BelA n q:=λx hx=>h x ((Array.perm_iff_toList_perm.mp e).mem_iff.mp hx)
theorem BelA.rev{n:Nat}{p:Array Nat}(h:BelA n p)(i j:Nat):BelA n (kas_rev p i j):=h.perm (mirror_perm ..)
theorem uL{n:Nat}(h0:0<n){p:Array Nat}(h:BelA n p):∀f m,AskB n (λ_=>True) (kas_asc p f m)
 |0,_=>trivial
 |f+1,m=>⟨h.getD h0 _,h.getD h0 _,λb=>by
  cases b with
  |true=>exact trivial
  |false=>exact uL h0 h f (m+1)⟩
theorem pO{n:Nat}(h0:0<n):∀(f:Nat)(p:Array Nat)(m q:Nat),BelA n p->AskB n (λr:Array Nat×Nat×Nat=>BelA n r.1) (kas_desc f p m q)
 |0,_,_,_,h=>h
 |f+1,p,m,q,h=>⟨h.getD h0 _,h.getD h0 _,λb=>by
  cases b with
  |true=>
   dsimp only
   rw[if_pos rfl]
   split
   ·exact pO h0 f _ _ _ (h.rev _ _)
   ·exact pO h0 f _ _ _ h
  |false=>
   dsimp only
   rw[if_neg aU]
   exact⟨h.getD h0 _,h.getD h0 _,λb=>by
    cases b with
    |true=>exact h
    |false=>exact pO h0 f _ _ _ h⟩⟩
theorem CD{n:Nat}(h0:0<n){p:Array Nat}(h:BelA n p)(m r:Nat):AskB n (λr:Nat×Array Nat=>BelA n r.2) (kas_tail3 m r p):=by
 unfold kas_tail3
 refine AskB.bind (R:=λ_=>True) ?_ (uL h0 (h.rev 0 m) _ _)
 exact λ_ _=>h.rev 0 m
theorem CF{n:Nat}(h0:0<n){p:Array Nat}(h:BelA n p)(m r:Nat):AskB n (λr:Nat×Array Nat=>BelA n r.2) (kas_descPart m r p):=
 AskB.bind (λz hz=>by
  split
  ·exact CD h0 (BelA.rev hz _ _) _ _
  ·exact CD h0 hz _ _) (pO h0 _ p _ _ h)
theorem Ib{n:Nat}(h0:0<n){p:Array Nat}(h:BelA n p)(r:Nat):AskB n (λr:Nat×Array Nat=>BelA n r.2) (kas_count r p):=
 AskB.bind (R:=λ_=>True) (λm _=>by
  split
  ·exact h
  ·split
   ·exact⟨h.getD h0 _,h.getD h0 _,λb=>by
     cases b with
     |true=>exact h
     |false=>exact CF h0 (h.rev _ _) _ _⟩
   ·exact CF h0 h _ _) (uL h0 h _ _)
theorem uM{n:Nat}(h0:0<n){p:Array Nat}(h:BelA n p)(k:Nat):∀f l r,AskB n (λ_=>True) (kas_place p k f l r)
 |0,_,_=>trivial
 |f+1,l,r=>by
  show AskB n _ (if l≥r then _ else _)
  split
  ·exact trivial
  ·exact⟨h.getD h0 _,h.getD h0 _,λb=>by
    cases b with
    |true=>exact uM h0 h k f _ _
    |false=>exact uM h0 h k f _ _⟩
theorem CG{n:Nat}(h0:0<n):∀(f:Nat)(p:Array Nat)(k:Nat),BelA n p->AskB n (λr:Array Nat=>BelA n r) (kas_bin f p k)
 |0,_,_,h=>h
 |f+1,p,k,h=>AskB.bind (R:=λ_=>True) (λl _=>CG h0 f _ _ (h.perm (bubble_perm ..))) (uM h0 h k k 0 k)
theorem Ie{n:Nat}(h0:0<n):AskB n (λr:Array Nat=>BelA n r) (kas_sort n):=
 AskB.bind (λr hr=>by
  split
  ·exact CG h0 _ _ _ hr
  ·exact hr) (Ib h0 (λx hx=>by simpa using hx) n)
noncomputable def TpI (h:Heap) (v:Value) (ks:List Int):Prop:=∃a o items n,v=.ref a/\h.get? a=some o/\o.cls=.type "tuple" /\ o.data=.seq items n/\IntsAre items.toList ks
noncomputable def TpIs(h:Heap):List Value->List (List Int)->Prop
 |[],kss=>kss=[]
 |v::vs,kss=>∃ks r,kss=ks::r/\TpI h v ks/\TpIs h vs r
theorem TpIs.len{h:Heap}:∀{vs:List Value} {kss:List (List Int)},TpIs h vs kss->kss.length=vs.length
 |[],_,e=>by cases (show _=[]from e);rfl
 |v::vs,_,e=>by
  obtain⟨ks,r,rfl,_,e⟩:=e
  rw[aP,aP,TpIs.len e]
theorem TpIs.at{h:Heap}:∀{vs:List Value} {kss:List (List Int)},TpIs h vs kss->∀i,i<vs.length->TpI h (vs.getD i .none) (kss.getD i [])
 |v::vs,_,e,0,_=>by
  obtain⟨ks,r,rfl,e,_⟩:=e
  exact e
 |v::vs,_,e,i+1,hi=>by
  obtain⟨ks,r,rfl,_,e⟩:=e
  exact TpIs.at e i (by rw[aP]at hi;lia)
theorem TpIs.mono {h h':Heap} (k:∀b o,o.cls=.type "tuple" -> h.get? b=some o->h'.get? b=some o):∀{vs:List Value} {kss:List (List Int)},TpIs h vs kss->TpIs h' vs kss
 |[],_,e=>e
 |v::vs,_,e=>by
  obtain⟨ks,r,rfl,⟨a,o,xs,n,h1,h2,h3⟩,e⟩:=e
  exact⟨ks,r,rfl,⟨a,o,xs,n,h1,k _ _ h3.1 h2,h3⟩,TpIs.mono k e⟩
section
variable{prog:Program}{w:World}{A:Around}{E:Value->Shared->Prop}{s:Shared}
theorem CI{α:Type}{n:Nat}{R:α->Prop}{lt:Nat->Nat->Bool}{cmp:Nat->Nat->(Bool->Shared->Prop)->Shared->Prop}{Q:α->Shared->Prop}(hc:∀i j C,i<n->j<n->C (lt i j) s->cmp i j C s):∀(t:KasT α),AskB n R t->Q (mM lt t) s->t.kasWp cmp Q s
 |.ret a,_,h=>h
 |.ask i j k,hb,h=>hc i j _ hb.1 hb.2.1 (CI hc (k (lt i j)) (hb.2.2 _) h)
theorem Ig{a b:Int}{t u:Tok}{Q:Value->Shared->Prop}(h:Q (.bool (decide (a<b))) s):wpAny (model prog w) A (richCompare .Lt (.int a t) (.int b u)) Q E s:=
 wpAny_richCompare_same (op:=.Lt) (typeIs_int s a t) (typeIs_int s b u) slot_int_lt (call_int_lt ⟨nofun,h⟩) rfl
theorem Ih {x y:List Int} {a b:Addr} {oa ob:Obj} {xs ys:Array Value} {na nb:Nat} {P:PySem.Fin->Shared->Prop} (hoa:s.heap.get? a=some oa) (hda:oa.data=.seq xs na) (hia:IntsAre xs.toList x) (hob:s.heap.get? b=some ob) (hcb:ob.cls=.type "tuple") (hdb:ob.data=.seq ys nb) (hib:IntsAre ys.toList y) (h:P (.done (.ret (.bool (eW x y)))) s) :
 wpAny (model prog w) A (Builtin.«tuple.__lt__» ⟨[.ref a,.ref b],[]⟩) P E s:=by
 have hTb:s.TypeIs (.ref b) "tuple" := ⟨ob,hob,hcb⟩
 show wpAny _ _ (isInstance (.ref b) (.type "tuple")>>=_) _ _ s
 refine wpAny_bind (wpAny_isInstance hTb isSubtype_tuple_tuple ?_)
 simp only[Bool.not_true,iO,if_false]
 refine wpAny_bind (wpAny_tupleItemsOf hoa hda ?_)
 refine wpAny_bind (wpAny_tupleItemsOf hob hdb ?_)
 refine wpAny_bind ?_
 refine wpAny_forIn_list _
  (λrest r s'=>r.1=none/\s'=s/\∃x' y' xs' ys',rest=List.zip xs' ys'/\IntsAre xs' x'/\IntsAre ys' y'/\eW x' y'=eW x y/\decide (xs'.length<ys'.length)=decide (xs.size<ys.size))
  _ ?_ ?_ _ _ ⟨rfl,rfl,x,y,xs.toList,ys.toList,rfl,hia,hib,rfl,by simp⟩
 ·rintro⟨u,v⟩ rest r s' ⟨hr,rfl,x',y',xs',ys',hz,hx',hy',hdec,hlen⟩
  cases hx' with
  |nil=>simp at hz
  | @cons k1 u' x'' xs'' hx''=>
   cases hy' with
   |nil=>simp at hz
   | @cons k2 v' y'' ys'' hy''=>
    simp only[List.zip_cons_cons,List.cons.injEq,Prod.mk.injEq]at hz
    obtain⟨⟨rfl,rfl⟩,rfl⟩:=hz
    refine wpAny_bind (wpAny_eqBool_int ?_)
    by_cases hk:k1=k2
    ·subst hk
     simp only[beq_self_eq_true,Bool.not_true,iO,if_false]
     refine wpAny_pure ⟨rfl,rfl,xs'',ys'',x'',y'',rfl,hx'',hy'',?_,by simpa using hlen⟩
     rw[<-hdec,eW,if_pos rfl]
    ·rw[show(k1==k2)=false by simpa using hk]
     simp only[Em,if_true]
     rw[<-hdec,eW,if_neg hk]at h
     refine wpAny_bind (wpAny_rule (wpAny_bind (Ig ?_)))
     exact wpAny_bind (wpAny_pure (wpAny_pure (wpAny_pure h)))
 ·rintro⟨r1,r2⟩ s' ⟨hr,rfl,x',y',xs',ys',hz,hx',hy',hdec,hlen⟩
  simp only at hr
  subst hr
  refine wpAny_pure ?_
  have hfin:decide (xs.size<ys.size)=eW x y:=by
   rw[<-hdec,<-hlen]
   cases hx' with
   |nil=>
    cases hy' with
    |nil=>simp[eW]
    |cons _ _=>simp[eW]
   |cons _ _=>
    cases hy' with
    |nil=>simp[eW]
    |cons _ _=>simp at hz
  show P (.done (.ret (.bool (decide (xs.size<ys.size))))) s'
  rw[hfin];exact h
theorem Ij{u v:Value}{x y:List Int}{Q:Bool->Shared->Prop}(hu:A.units<cLine)(hx:TpI s.heap u x)(hy:TpI s.heap v y)(h:Q (eW x y) s):wpAny (model prog w) A (oneLt' true u v) Q E s:=by
 obtain⟨a,oa,xs,na,rfl,hoa,hca,hda,hia⟩:=hx
 obtain⟨b,ob,ys,nb,rfl,hob,hcb,hdb,hib⟩:=hy
 have hTa:s.TypeIs (.ref a) "tuple" := ⟨oa,hoa,hca⟩
 rw[oneLt'_eq]
 simp only[if_true]
 refine wpAny_bind (wpAny_cRoomFor_or (.inr hu) ?_)
 refine wpAny_bind (wpAny_callSpecialIfBound?_slot hTa F.slot_tuple_lt (wpAny_call_entry F.slot_tuple_lt hTa F.entry_tuple_lt (Ih hoa hda hia hob hcb hdb hib ⟨_,rfl,?_⟩) (F.args_tuple_lt_2 _ _)))
 exact wpAny_truthy_bool h
theorem CJ:∀{vs:List Value} {kss:List (List Int)} {Q:List (Option Value)->Shared->Prop},TpIs s.heap vs kss->(∀fs:List (Option Value),fs.length=vs.length->(∀i:Nat,kss[i]?=some []->fs[i]?=some none)->Q fs s)->wpAny (model prog w) A (vs.mapM firstOfTuple') Q E s
 |[],_,Q,h,hq=>by
  cases (show _=[]from h)
  rw[List.mapM_nil]
  exact wpAny_pure (hq [] rfl λi hi=>by cases hi)
 | v :: vs, _, Q, h, hq => by
     obtain⟨ks,kss,rfl,h1,h2⟩:=h
     obtain⟨a,o,xs,n,rfl,ho,hc,hd,hi⟩:=h1
     rw[List.mapM_cons]
     refine wpAny_bind ?_
     rw[kas_first_eq]
     refine wpAny_bind (Looks.here (show Looks (model prog w) s.heap (typeOf (.ref a)) o.cls from(Looks.ld ho).andThen .now) ?_)
     rw[hc,if_neg (by first|decide|simp)]
     refine wpAny_bind (listItems_at ho hd (wpAny_pure ?_))
     refine wpAny_bind (CJ (Q:=λfs s'=>wpAny (model prog w) A (pure (xs[0]?::fs)) Q E s') h2 λfs hl hf=>wpAny_pure (hq _ (by rw[aP,aP,hl]) λi hi=>?_))
     cases i with
     |zero=>
      cases (show some ks=some []from hi)
      have:xs.toList=[]:=by cases hi':xs.toList with
       |nil=>rfl
       |cons z r=>
        have hi:IntsAre xs.toList []:=by assumption
        rw[hi']at hi;cases hi
      have:xs[0]?=none:=by rw[<-jR,this];rfl
      show some xs[0]?=some none
      rw[this]
     |succ i=>exact hf i hi
theorem Ik{vs:List Value}{kss:List (List Int)}{Q:SortKind->Shared->Prop}(h:TpIs s.heap vs ([]::kss))(hq:Q oneType' s):wpAny (model prog w) A (keyKind' vs.toArray) Q E s:=by
 have hT:∀v∈vs,Looks (model prog w) s.heap (typeOf v) (.type "tuple"):=by
  have:∀{vs:List Value} {kss:List (List Int)},TpIs s.heap vs kss->∀v∈vs,Looks (model prog w) s.heap (typeOf v) (.type "tuple"):=by
   intro vs
   induction vs with
   |nil=>intro _ _ v hv;cases hv
   |cons u r ih=>
    intro kss h v hv
    obtain⟨ks,rs,rfl,⟨a,o,xs,n,rfl,ho,hc,hd,hi⟩,h2⟩:=h
    rcases aO.mp hv with z|z
    ·subst z
     rw[<-hc]
     exact(Looks.ld ho).andThen .now
    ·exact ih h2 v z
  exact this h
 have hl:=h.len
 rw[keyKind'_eq,Lq,map_eq_pure_bind]
 refine wpAny_bind (wpAny_bind (CJ h λfs hf h0=>wpAny_pure ?_))
 have e0:=h0 0 rfl
 have na:(fs.toArray.all (·.isSome))=false:=by
  rw[Lr,Ls]
  intro z
  have:=dN.mp z none (gW e0)
  cases this
 have n0:(fs.toArray[0]?.bind id).isSome=false:=by
  rw[List.getElem?_toArray,e0];rfl
 rw[if_neg (by rw[na];exact aU),if_neg (by rw[n0];exact aU)]
 rw[oneTypeOnly'_eq,Lq,map_eq_pure_bind]
 refine wpAny_bind (wpAny_bind (wpAny_bind (kas_mapM (r:=.type "tuple") _ (λv hv Q' hq=>(hT v hv).here hq) (wpAny_pure ?_))))
 have hall:((zH (λ_=>Value.type "tuple") vs).toArray.all λx=>x==Value.type "tuple")=true:=by
  simp only[Lr,Eo,dN]
  intro _ _
  rfl
 have h00:(zH (λ_=>Value.type "tuple") vs).toArray[0]?=some (.type "tuple"):=by
  cases vs with
  |nil=>rw[aP]at hl;cases hl
  |cons _ _=>rfl
 rw[h00]
 simp only[hall,if_true]
 exact wpAny_pure (wpAny_pure hq)
theorem Il {a:Addr} {vs:List Value} {kss:List (List Int)} {n:Nat} {P:PySem.Fin->Shared->Prop} (ho:s.heap.get? a=some (seqObj "list" vs.toArray n)) (ht:TpIs s.heap vs ([]::kss)) (h2:2<=vs.length) (h64:vs.length<64) (hu:A.units<cLine)
 (h:(eQ ([]::kss)).length=vs.length->P (.done (.ret .none)) {s with heap:=sortedHeap s.heap a vs (lV ((eQ ([]::kss)).map λi=>vs.getD i Value.none)) }) :
 wpAny (model prog w) A (Builtin.«list.sort» ⟨[.ref a],[]⟩) P E s:=by
 have ha:a<s.heap.objs.size:=Heap.lt_size ho
 obtain⟨e1,ho1⟩:∃e1,(s.heap.update a (Obj.mapSeq λ_=>(#[]:Array Value))).get? a=some (seqObj "list" #[] e1):=⟨_,get?_update_seq ho λ_=>#[]⟩
 have ho6:(((s.heap.update a (Obj.mapSeq λ_=>(#[]:Array Value))).push (seqObj "tuple" vs.toArray 0)).push (seqObj "list" #[] 0)).get? a=some (seqObj "list" #[] e1):=
  Heap.get?_push_of_some _ (Heap.get?_push_of_some _ ho1)
 have tp:TpIs (((s.heap.update a (Obj.mapSeq λ_=>(#[]:Array Value))).push (seqObj "tuple" vs.toArray 0)).push (seqObj "list" #[] 0)) vs ([]::kss):=ht.mono λb o hc hb=>by
  have ne:b≠a:=λz=>by
   rw[z,ho]at hb
   cases hb
   injection hc with hc
   exact absurd hc (by decide)
  refine Heap.get?_push_of_some _ (Heap.get?_push_of_some _ ?_)
  rw[Heap.get?_update_ne _ _ _ _ ne];exact hb
 have hl:=ht.len
 rw[list_sort_plain]
 refine wpAny_bind (listItems_at ho rfl ?_)
 refine wpAny_bind (listUpdate_at ho rfl ?_ (by rw[bP,sizeLine_eq];lia) (eM _))
 refine wpAny_bind (seqEpoch_at ho1 rfl ?_)
 refine wpAny_bind (wpAny_newTuple ?_ (by show vs.length<=_;rw[sizeLine_eq];lia))
 refine wpAny_bind (wpAny_newList ?_ (eM _))
 refine wpAny_holding ?_
 show wpAny (model prog w) A _ P E {s with heap:=((s.heap.update a (Obj.mapSeq λ_=>(#[]:Array Value))).push (seqObj "tuple" vs.toArray 0)).push (seqObj "list" #[] 0) }
 dsimp only
 have hn2:¬vs.toArray.size<2:=by rw[bP];lia
 rw[if_neg hn2,if_neg hn2]
 refine wpAny_bind (Ik (s:={s with heap:=((s.heap.update a (Obj.mapSeq λ_=>(#[]:Array Value))).push (seqObj "tuple" vs.toArray 0)).push (seqObj "list" #[] 0) }) tp ?_)
 have est:SortSt.mk' oneType' (vs.toArray.zip vs.toArray) #[] 7 none=kas_st oneType' (pairsOf vs) (lV (aD vs.length)):=by
  have e:=kas_range (pairsOf vs)
  rw[pairsOf_size]at e
  show SortSt.mk' oneType' (pairsOf vs) #[] 7 none=SortSt.mk' oneType' ((lV (aD vs.length)).map (kas_item (pairsOf vs))) #[] 7 none
  rw[e]
 have run:=kas_runs (prog:=prog) (w:=w) (A:=A) (κ:=oneType') (it:=pairsOf vs) (E:=E) (s:={s with heap:=((s.heap.update a (Obj.mapSeq λ_=>(#[]:Array Value))).push (seqObj "tuple" vs.toArray 0)).push (seqObj "list" #[] 0) }) (G:=λp s'=>p=mM (λi j=>eW (([]::kss).getD i []) (([]::kss).getD j [])) (kas_sort vs.length)/\s'={s with heap:=((s.heap.update a (Obj.mapSeq λ_=>(#[]:Array Value))).push (seqObj "tuple" vs.toArray 0)).push (seqObj "list" #[] 0) }) (Q:=λ_ st' s'=>∃p:Array Nat,p.size=vs.length/\arrOf st'=p.map (kas_item (pairsOf vs))/\failedOf st'=none/\p=mM (λi j=>eW (([]::kss).getD i []) (([]::kss).getD j [])) (kas_sort vs.length)/\s'={s with heap:=((s.heap.update a (Obj.mapSeq λ_=>(#[]:Array Value))).push (seqObj "tuple" vs.toArray 0)).push (seqObj "list" #[] 0) })
  h2 h64 (λp' st' s' a1 a2 a3 a4=>⟨p',a1,a2,a3,a4⟩) (CI (lt:=λi j=>eW (([]::kss).getD i []) (([]::kss).getD j [])) (λi j C hi hj hC=>by
   rw[<-kas_ask_eq]
   show wpAny (model prog w) A (keyLt' oneType' (vs.getD i Value.none) (vs.getD j Value.none)) C _ _
   rw[keyLt'_oneType]
   exact Ij hu (tp.at i hi) (tp.at j hj) hC) (kas_sort vs.length) (Ie (by lia)) ⟨rfl,rfl⟩)
 rw[<-est]at run
 refine wpAny_bind (wpAny_mono run ?_ λ_ _ e=>e)
 rintro⟨⟨⟩,st'⟩ s' ⟨p,hp,har,hf,hpe,rfl⟩
 dsimp only
 have hout:(arrOf st').map (·.2)=lV ((eQ ([]::kss)).map λi=>vs.getD i Value.none):=by
  apply sJ.mp
  rw[har,Array.map_map,El]
  unfold eQ
  rw[hl,<-hpe]
  exact fU λi _=>by show(kas_item (pairsOf vs) i).2=_;rw[kas_item_eq]
 have hsz:(lV ((eQ ([]::kss)).map λi=>vs.getD i Value.none)).size=vs.length:=by
  rw[<-hout,Lu,har,Lu,hp]
 rw[hout]
 refine wpAny_bind (seqEpoch_at ho6 rfl ?_)
 refine wpAny_bind (listUpdate_at ho6 rfl ?_ (eM _) (bV (Nat.le_of_eq hsz) (by rw[sizeLine_eq];lia)))
 rw[hf]
 simp only[bne_self_eq_false,iO,if_false]
 exact wpAny_pure (h (by rw[bP,aF]at hsz;exact hsz))
theorem Im{l:Addr}{vs:List Value}{kss:List (List Int)}{Q:Value->Shared->Prop}(hl:s.heap.IsList l vs.toArray)(ht:TpIs s.heap vs ([]::kss))(h2:2<=vs.length)(h64:vs.length<64)(hu:A.units+64<cLine)
 (h:(eQ ([]::kss)).length=vs.length->Q (.ref (s.heap.objs.size+1)) {s with heap:=sortedAll s.heap vs (lV ((eQ ([]::kss)).map λi=>vs.getD i Value.none)) }) :
 wpAny (model prog w) A (call (.builtin "sorted") [.ref l]) Q E s:=by
 refine Calls.call_function_entry kind_sorted plain_sorted entry_sorted (args_sorted1 _) ?_
 unfold Builtin.«sorted»
 refine wpAny_bind (m:=checkCount "sorted" 1 1 _) (wpAny_pure ?_)
 refine wpAny_bind (collect_list hl ?_ (by rw[sizeLine_eq];lia))
 refine wpAny_bind (wpAny_newList ?_ (by rw[sizeLine_eq];lia))
 have hsz:((s.heap.push (seqObj "list" #[] 0)).update s.heap.objs.size (Obj.mapSeq (·++vs.toArray))).objs.size=s.heap.objs.size+1:=by
  rw[Heap.size_update,size_push']
 have hoL:(((s.heap.push (seqObj "list" #[] 0)).update s.heap.objs.size (Obj.mapSeq (·++vs.toArray))).push (seqObj "list" vs.toArray 0)).get? (s.heap.objs.size+1)=some (seqObj "list" vs.toArray 0):=by
  rw[<-hsz];exact Heap.get?_push_size _ rfl
 have tp:TpIs (((s.heap.push (seqObj "list" #[] 0)).update s.heap.objs.size (Obj.mapSeq (·++vs.toArray))).push (seqObj "list" vs.toArray 0)) vs ([]::kss):=ht.mono λb o _ hb=>by
  refine Heap.get?_push_of_some _ ?_
  rw[Heap.get?_update_ne _ _ _ _ (aT (Heap.lt_size hb))]
  exact Heap.get?_push_of_some _ hb
 show wpAny _ _ _ _ _ {s with heap:=((s.heap.push (seqObj "list" #[] 0)).update s.heap.objs.size (Obj.mapSeq (·++vs.toArray))).push (seqObj "list" vs.toArray 0) }
 rw[hsz]
 refine wpAny_bind (wpAny_holding (wpAny_call_entry slot_list_sort ⟨_,hoL,rfl⟩ entry_list_sort (Il (s:={s with heap:=((s.heap.push (seqObj "list" #[] 0)).update s.heap.objs.size (Obj.mapSeq (·++vs.toArray))).push (seqObj "list" vs.toArray 0) }) hoL tp h2 h64 (by show A.units+1+1<cLine;lia) λhp=>⟨_,rfl,?_⟩) (args_list_sort _)))
 exact wpAny_pure ⟨_,rfl,h hp⟩
end
noncomputable def TpV(K:PySem.W.Frag)(H:Hp):List V->List (List Int)->Prop
 |[],kss=>kss=[]
 |v::r,kss=>∃a ks q,v=.ref a/\kss=ks::q/\SqT K H a (ks.map V.int)/\TpV K H r q
theorem CK{X:Cx}{pins:List (Addr×Obj)}{σ:L2.St}{H:Hp}{s:Shared}(I:Inv X pins σ H s):∀{xs:List V} {its:List Value} {kss:List (List Int)},TpV X.K H xs kss->Vals xs its->TpIs s.heap its kss
 |[],its,kss,h,r=>by
  cases r
  exact h
 |v::xs,its,kss,h,r=>by
  obtain⟨a,ks,q,rfl,rfl,h1,h2⟩:=h
  cases r with
  |cons r1 r=>
   cases r1
   obtain⟨its',r',⟨o,e,hc,n,hd⟩,_⟩:=I.tuple h1
   exact⟨ks,q,rfl,⟨a,o,_,n,rfl,e,hc,hd,by simpa using tV r'⟩,CK I h2 r⟩
theorem CL:∀{xs:List V} {its:List Value},Vals xs its->∀i,RelV (xs.getD i .non) (its.getD i Value.none)
 |_,_,.nil,i=>by cases i<;>exact rfl
 |_,_,.cons r1 r,0=>r1
 |_,_,.cons r1 r,i+1=>CL r i
theorem CM{xs:List V}{its:List Value}(r:Vals xs its):∀ps:List Nat,Vals (ps.map λi=>xs.getD i .non) (ps.map λi=>its.getD i Value.none)
 |[]=>.nil
 |p::ps=>.cons (CL r p) (CM r ps)
theorem Io {X:Cx} (hR:X.A.units+64<cLine):dH X (.builtin "sorted") (λvs H Q=>∃(a:Addr) (xs:List V) (kss:List (List Int)),vs=[.ref a]/\SqL X.K H a xs/\TpV X.K H xs ([]::kss)/\2<=xs.length/\xs.length<64/\∀l:Addr,H l=none->Q (.ref l) (upd H l (.lst ((eQ ([]::kss)).map λi=>xs.getD i .non)))):=by
 intro pins s σ H vs us Q I rv h
 obtain⟨a,xs,kss,rfl,hS,ht,h2,h64,q⟩:=h
 obtain⟨u,rfl,ru⟩:=rv.one
 cases ru
 obtain⟨its,r,pl,hz⟩:=I.list hS
 have hl:=r.length
 refine Im pl.isList (CK I ht r) (by lia) (by lia) hR λhp=>?_
 obtain⟨e,he⟩:=sortedAll_at s.heap its (lV ((eQ ([]::kss)).map λi=>its.getD i Value.none))
 have hge:s.heap.objs.size<=s.heap.objs.size+1:=jG _
 refine⟨.ref (s.heap.objs.size+1),_,I.laid (t':=s.toks) (λb o x=>sortedAll_old x) hge ?_,rfl,q _ (I.hok.fresh hge)⟩
 exact⟨by rw[aF,hp,sizeLine_eq];lia,_,e,CM r _,he⟩
end Tr
namespace Tr
open PySem PySem.Spec PyProof.Rows L2
section
variable{prog:Program}{w:World}{A:Around}{s:Shared}{d:Addr}{es:Array DictEntry}{ep:Nat}
theorem RawD.to{h h':Heap}(x:RawD h d es ep)(e:∀o,h.get? d=some o->h'.get? d=some o):RawD h' d es ep:=let ⟨o,h1,h2⟩:=x;⟨o,e _ h1,h2⟩
theorem Ip(hh:A.handled=none)(I:Addr)(hne:d≠I) :
 Walks prog w A I [I,d] [I] es.size (λi v=>∃en,es[i]?=some en/\v=en.key) (λi h=>h.IsKeyIter I d i es.size ep/\RawD h d es ep) where
 sub:=λb hb=>by simp at hb;simp[hb]
 frame:=λ_ _ _ st hk=>⟨st.1.at λo e=>hk I (by simp) o e,st.2.to λo e=>hk d (by simp) o e⟩
 item:=λi s Q E hi st hQ=>by
  have hx:es[i]?=some es[i]:=kS hi
  refine BM st.1 st.2 hx λh' hit' hs'=>?_
  exact hQ _ h' s.toks ⟨_,hx,rfl⟩ ⟨hit',st.2.to λo e=>hs'.extBut d o hne e⟩ λb o hb e=>hs'.extBut b o (λh=>hb (by simp[h])) e
 done:=λs Q E st hQ=>BN hh st.1 st.2 (by simp) λh' he'=>hQ h' s.toks λb o hb e=>he' b o (λh=>hb (by simp[h])) e
 self:=λ_ _ _ _ st hQ=>wpAny_pyIter_keyiter st.1 hQ
set_option maxHeartbeats 1600000 in
theorem Iq {R:Result->Shared->Prop} (hh:A.handled=none) (nd:(d==sysModules)=false) (hz:es.size<64) (hr:RawD s.heap d es ep) (S:Addr) (res:Value) (c₀:Nat) (hS:s.heap.get? S=some (seqObj "list" #[] c₀))
 (hR:∀h' tk acc' c',(∀b o,b≠S->s.heap.get? b=some o->h'.get? b=some o)->h'.get? S=some (seqObj "list" acc' c') ->
  ItemsOf (λi v=>∃en,es[i]?=some en/\v=en.key) acc' es.size->R (.ok (.ret res)) {s with heap:=h',toks:=tk}) :
 wpAny (model prog w) A.in1 (Builtin.List.listExtendWith (.ref S) (.ref d) res)
  (λfin s'=>match fin with | .done f=>R (.ok f) s' | .again c'=>c'.quiet=true/\codeAny (model prog w) A c' R s') (λe s'=>R (.error e) s') s:=by
 have hlt:d<s.heap.objs.size:=by obtain⟨o,ho,_⟩:=hr;exact Heap.lt_size ho
 have hSd:S≠d:=λe=>by
  obtain⟨o,ho,hx,hd⟩:=hr
  rw[<-e,hS]at ho
  cases ho
  cases hd
 have hSlt:S<s.heap.objs.size:=Heap.lt_size hS
 have hSI:S≠s.heap.objs.size:=aT hSlt
 have h1:Builtin.List.listSameRef (.ref S) (.ref d)=false:=by simp[Builtin.List.listSameRef,hSd]
 have hT1:=hr.ty
 unfold Builtin.List.listExtendWith
 refine wpAny_bind (wpAny_typeOf hT1 ?_)
 rw[if_neg (by rw[h1];decide)]
 refine wpAny_bind (BL nd hr ?_)
 have hI2:(s.heap.push {cls:=.type "dict_keyiterator", data:=.fields #[.ref d,.int 0 0,.int es.size 0,.int ep 0] }).get? s.heap.objs.size=some {cls:=.type "dict_keyiterator", data:=.fields #[.ref d,.int 0 0,.int es.size 0,.int ep 0] }:=Heap.get?_push_size _ rfl
 have hk₂:∀b o,s.heap.get? b=some o->(s.heap.push {cls:=.type "dict_keyiterator", data:=.fields #[.ref d,.int 0 0,.int es.size 0,.int ep 0] }).get? b=some o:=λb o e=>Heap.get?_push_of_some _ e
 show wpAny _ _ _ _ _ {s with heap:=s.heap.push {cls:=.type "dict_keyiterator", data:=.fields #[.ref d,.int 0 0,.int es.size 0,.int ep 0] } }
 generalize s.heap.push {cls:=.type "dict_keyiterator", data:=.fields #[.ref d,.int 0 0,.int es.size 0,.int ep 0] }=H2 at *
 have hr2:RawD H2 d es ep:=hr.to λo e=>hk₂ _ o e
 have hT2:Shared.TypeIs {s with heap:=H2} (.ref d) "dict" := hr2.ty (s:={s with heap:=H2})
 refine wpAny_bind (wpAny_holding ?_)
 unfold Builtin.List.listLengthHint
 refine wpAny_bind (wpAny_specialOf hT2 PySem.F.slot_dict_len.lookup ?_)
 (generalize hid:("dict.__len__" : String)=id0;(fail_if_success (clear hid id0));wp_delta;rw[show splitId id0=some ("dict", "__len__")from by subst hid;decide +kernel];subst hid)
 refine wpAny_bind (wpAny_isInstance (b:=true) hT2 (by rw[isSubtype_type];kernel_rfl) ?_)
 rw[if_neg (by decide)]
 show wpAny _ A.in1 (typeOf (Value.ref d)>>=_) _ _ _
 refine wpAny_bind (wpAny_typeOf hT2 ?_)
 refine wpAny_pure ?_
 rw[if_pos (by decide +kernel)]
 refine wpAny_bind (wpAny_rule ?_)
 have hL2:H2.get? S=some (seqObj "list" #[] c₀):=hk₂ _ _ hS
 unfold Builtin.List.listTouch
 refine wpAny_bind ?_
 refine wpAny_bind (listUpdate_at (s:={s with heap:=H2}) hL2 rfl ?_)
 have hL3:=get?_update_seq hL2 (·.push Value.none)
 refine listUpdate_at (s:={s with heap:=H2.update S (Obj.mapSeq (·.push Value.none)) }) hL3 rfl ?_
 have hL4:∃c,((H2.update S (Obj.mapSeq (·.push Value.none))).update S (Obj.mapSeq (·.pop))).get? S=some (seqObj "list" #[] c):=⟨_,(get?_update_seq hL3 (·.pop)).trans (by rw[show((#[]:Array Value).push Value.none).pop=#[]from rfl])⟩
 obtain⟨c4,hL4⟩:=hL4
 have hk₃:∀b o,b≠S->H2.get? b=some o->((H2.update S (Obj.mapSeq (·.push Value.none))).update S (Obj.mapSeq (·.pop))).get? b=some o:=λb o hb e=>by
  rw[Heap.get?_update_other _ _ (λh=>hb h.symm),Heap.get?_update_other _ _ (λh=>hb h.symm)];exact e
 dsimp only
 generalize (H2.update S (Obj.mapSeq (·.push Value.none))).update S (Obj.mapSeq (·.pop))=H3 at *
 have hIs:H3.IsKeyIter s.heap.objs.size d 0 es.size ep:=⟨_,hk₃ _ _ hSI.symm hI2,rfl,rfl⟩
 have hr3:RawD H3 d es ep:=hr2.to λo e=>hk₃ _ o hSd.symm e
 have W:=(Ip (prog:=prog) (w:=w) (A:=A.in1) (d:=d) (es:=es) (ep:=ep) hh s.heap.objs.size (aT hlt)).toS
 refine wpAny_pure ⟨plainId_quiet PySem.F.plain_extend_loop _,codeAny_extend_loopS W (by rw[sizeLine_eq];lia) S ?_ _ es.size 0 _ #[] c4 (by lia) (eM _) ⟨hIs,hr3⟩ hL4 (ItemsOf.nil _) λs' acc' c' hm hS' hacc=>?_⟩
 ·simp only[aO,fH,or_false,not_or]
  exact⟨hSI,hSd⟩
 ·rw[Moved.eq_with hm]
  refine hR s'.heap s'.toks acc' c' (λb o hb e=>hm.heap b o ?_ (hk₃ b o hb (hk₂ b o e))) hS' hacc
  simp only[aO,fH,or_false,not_or]
  exact⟨hb,aT (Heap.lt_size e)⟩
theorem Ir {R:Result->Shared->Prop} (hh:A.handled=none) (nd:(d==sysModules)=false) (hz:es.size<64) (hr:RawD s.heap d es ep) (S:Addr) (hS:s.heap.get? S=some {cls:=.type "list", data:=.seq #[] })
 (hR:∀h' tk acc' c',(∀b o,b≠S->s.heap.get? b=some o->h'.get? b=some o)->h'.get? S=some (seqObj "list" acc' c') ->
  ItemsOf (λi v=>∃en,es[i]?=some en/\v=en.key) acc' es.size->R (.ok (.ret .none)) {s with heap:=h',toks:=tk}) :
 wpAny (model prog w) A.in1 (Builtin.«list.__init__» ⟨[.ref S,.ref d],[]⟩)
  (λfin s'=>match fin with | .done f=>R (.ok f) s' | .again c'=>c'.quiet=true/\codeAny (model prog w) A c' R s') (λe s'=>R (.error e) s') s:=by
 have hSd:S≠d:=λe=>by
  obtain⟨o,ho,hx,hd⟩:=hr
  rw[<-e,hS]at ho
  cases ho
  cases hd
 show wpAny _ _ (do let old<-Builtin.List.listItems (.ref S);Builtin.List.listUpdate (.ref S) (λ_=>#[]);letGo old.toList.reverse;Builtin.List.listExtendWith (.ref S) (.ref d) .none) _ _ s
 refine wpAny_bind ?_
 unfold Builtin.List.listItems
 refine wpAny_bind (wpAny_seqItems hS rfl (wpAny_pure ?_))
 show wpAny _ _ (updateSeq S (λ_=>#[])>>=λ_=>letGo (#[]:Array Value).toList.reverse>>=λ_=>Builtin.List.listExtendWith (.ref S) (.ref d) .none) _ _ s
 refine wpAny_bind (wpAny_updateSeq hS rfl ?_)
 have hS₂:=Heap.get?_update_self (Obj.mapSeq (λ_=>(#[]:Array Value))) hS rfl
 have oth:∀b o,b≠S->s.heap.get? b=some o->(s.heap.update S (Obj.mapSeq (λ_=>(#[]:Array Value)))).get? b=some o:=
  λb o hb e=>(Heap.get?_update_other _ _ (Ne.symm hb)).trans e
 refine wpAny_bind (wpAny_letGo ?_)
 refine Iq hh nd hz (hr.to λo e=>oth d o hSd.symm e) S .none _ hS₂ λh' tk acc' c' hk hS' hacc=>?_
 exact hR h' tk acc' c' (λb o hb e=>hk b o hb (oth b o hb e)) hS' hacc
theorem Iu{E:Value->Shared->Prop}{Q:Value->Shared->Prop}(hh:A.handled=none)(nd:(d==sysModules)=false)(hz:es.size<64)(hr:RawD s.heap d es ep)
 (hQ:∀h' tk acc' c',(∀b o,s.heap.get? b=some o->h'.get? b=some o) ->
  h'.get? s.heap.objs.size=some (seqObj "list" acc' c')->ItemsOf (λi v=>∃en,es[i]?=some en/\v=en.key) acc' es.size->Q (.ref s.heap.objs.size) {s with heap:=h',toks:=tk}) :
 wpAny (model prog w) A (call (.type "list") [.ref d]) Q E s:=by
 refine callType_codes (Q₁:=λobj s₁=>obj=.ref s.heap.objs.size/\s₁={s with heap:=s.heap.push {cls:=.type "list", data:=.seq #[] } }) F.called_list (F.typeCall_list_1 _) F.entry_list_init
  (code_list_new _ ⟨rfl,rfl⟩) λobj s₁ h₁=>?_
 obtain⟨rfl,rfl⟩:=h₁
 have hS:(s.heap.push {cls:=.type "list", data:=.seq #[] }).get? s.heap.objs.size=some {cls:=.type "list", data:=.seq #[] }:=Heap.get?_push_size _ rfl
 refine⟨⟨_,hS,rfl⟩,F.args_list_init_2 _ _,Ir (A:=A.in1) hh nd hz (hr.to λo e=>Heap.get?_push_of_some _ e) _ hS λh' tk acc' c' hk hS' hacc=>?_⟩
 exact⟨rfl,hQ h' tk acc' c' (λb o e=>hk b o (aT (Heap.lt_size e)) (Heap.get?_push_of_some _ e)) hS' hacc⟩
end
noncomputable def KTs(H:Hp):List (List Key×V)->List V->Prop
 |[],ys=>ys=[]
 |q::r,ys=>∃b t,ys=.ref b::t/\H b=some (.tup (q.1.map kV))/\KTs H r t
theorem CN{H:Hp}:∀{ps:List (List Key×V)} {its:List Value},its.length=ps.length->(∀(i:Nat)(q:List Key×V),ps[i]?=some q->∃b,its[i]?=some (.ref b)/\H b=some (.tup (q.1.map kV)))->∃ys,KTs H ps ys/\Vals ys its
 |[],[],_,_=>⟨[],rfl,.nil⟩
 |[],_::_,h,_=>by cases h
 |_::_,[],h,_=>by cases h
 |q::ps,u::its,h,k=>by
  obtain⟨b,e1,e2⟩:=k 0 q rfl
  cases e1
  obtain⟨ys,h1,h2⟩:=CN (ps:=ps) (its:=its) (by simpa using h) λi q hq=>k (i+1) q hq
  exact⟨.ref b::ys,⟨b,ys,rfl,e2,h1⟩,.cons rfl h2⟩
theorem KTs.length{H:Hp}:∀{ps:List (List Key×V)} {ys:List V},KTs H ps ys->ys.length=ps.length
 |[],_,h=>by cases (show _=[]from h);rfl
 |q::ps,_,h=>by
  obtain⟨b,t,rfl,_,h⟩:=h
  rw[aP,aP,KTs.length h]
theorem Iv {X:Cx} (hc:X.calm=true):dH X (.type "list") (λvs H Q=>∃(a:Addr) (o:Obj) (ps:List (List Key×V)),vs=[.ref a]/\H a=some (.frz o (.dT ps))/\ps.length<64/\∀(l:Addr) (ys:List V),H l=none->KTs H ps ys->Q (.ref l) (upd H l (.lst ys))):=by
 intro pins s σ H vs us Q I rv h
 obtain⟨a,o,ps,rfl,hf,h64,q⟩:=h
 obtain⟨u,rfl,ru⟩:=rv.one
 cases ru
 obtain⟨e1,e2,e3,xs,e4,o',es,ep,g1,g2,g3,g4⟩:=(show ObjOk X.prog X.w H s.heap a (.frz o (.dT ps))from I.hok a _ hf)
 have eo:o'=o:=by rw[e1]at g1;cases g1;rfl
 subst eo
 obtain⟨x1,x2,x3,x4⟩:=oX I hf g3
 refine Iu (I.ok.hd hc) x2 (by lia) x1 λh' tk acc' c' kp e hacc=>?_
 obtain⟨ys,k1,k2⟩:=CN (H:=H) (ps:=ps) (its:=acc'.toList) (by rw[jP,hacc.1,x3]) λi q hq=>by
  obtain⟨en,b,y1,y2,y3⟩:=x4 i q hq
  have hi:i<acc'.size:=by
   rw[hacc.1,x3]
   exact(gL.mp hq).1
  obtain⟨en',z1,z2⟩:=hacc.2 i acc'[i] (kS hi)
  rw[y1]at z1
  cases z1
  exact⟨b,by rw[jR,kS hi,z2,y2],y3⟩
 refine⟨.ref s.heap.objs.size,_,I.laid (t':=tk) kp (aN _) (show ObjOk X.prog X.w _ h' _ (.lst ys)from⟨by rw[k1.length,sizeLine_eq];lia,acc'.toList,c',k2,by simpa using e⟩),rfl,q _ ys (I.hok.fresh (aN _)) k1⟩
theorem CO{K:PySem.W.Frag}{H:Hp}{O:Addr->Prop}:∀{ds:List D} {kss:List (List Int)} {xs:List V},jL ds=.ok kss->RDs K H O ds xs->TpV K H xs kss
 |[],kss,xs,h,r=>by
  cases h
  cases (show xs=[]from r)
  exact rfl
 |.tup ks::ds,kss,xs,h,r=>by
  obtain⟨a,e1,h⟩:=Res.bind_ok (show(cN ks>>=λa=>jL ds>>=λq=>Res.ok (a::q))=.ok kss from h)
  obtain⟨q,e2,h⟩:=Res.bind_ok h
  cases h
  obtain⟨v,r',rfl,⟨b,ys,rfl,h1,h2⟩,h3⟩:=r
  rw[nB e1 h2]at h1
  exact⟨b,a,q,rfl,rfl,h1.sq,CO e2 h3⟩
 |.non::_,_,_,h,_ | .bl _::_,_,_,h,_ | .int _::_,_,_,h,_ | .str _::_,_,_,h,_ | .lst _::_,_,_,h,_ | .dct _::_,_,_,h,_ | .tdc _::_,_,_,h,_=>by cases h
theorem CP{K:PySem.W.Frag}{H:Hp}{O:Addr->Prop}:∀{ds:List D} {xs:List V},RDs K H O ds xs->∀i,RD K H O (ds.getD i .non) (xs.getD i .non)
 |[],xs,h,i=>by
  cases (show xs=[]from h)
  cases i<;>exact rfl
 |d::ds,xs,h,0=>by
  obtain⟨v,r,rfl,h1,_⟩:=h
  exact h1
 |d::ds,xs,h,i+1=>by
  obtain⟨v,r,rfl,_,h2⟩:=h
  exact CP h2 i
theorem CQ{K:PySem.W.Frag}{H:Hp}{O:Addr->Prop}{ds:List D}{xs:List V}(h:RDs K H O ds xs):∀ps:List Nat,RDs K H O (ps.map λi=>ds.getD i .non) (ps.map λi=>xs.getD i .non)
 |[]=>rfl
 |p::ps=>⟨_,_,rfl,CP h p,CQ h ps⟩
theorem CT{K:PySem.W.Frag}{H:Hp}{O:Addr->Prop}:∀{kvs:List (List (Sum Int Str)×D)} {ps:List (List Key×V)} {ys:List V},RDt K H O kvs ps->KTs H ps ys->RDs K H O (kvs.map λkv=>.tup (kv.1.map eV)) ys
 |[],ps,ys,h,k=>by
  cases (show ps=[]from h)
  exact k
 |(q,d)::kvs,ps,ys,h,k=>by
  obtain⟨v,r,rfl,_,h2⟩:=h
  obtain⟨b,t,rfl,e,k2⟩:=k
  exact⟨.ref b,t,rfl,⟨b,_,rfl,.inl e,rds_kk q⟩,CT h2 k2⟩
section
variable{T:Tab}{cf:Nat->List D->Res D}{X:Cx}{x:E}{p:Expr}{pos:Pos}
theorem Iw {pn:Pos} (hR:gA X) (hm1:X.mg "sorted" = none) (hg1:Gl X "sorted") (hp:bA p=true) (ha:SR T cf X x p):SE T cf X (.srtT x) (.Call (.Name "sorted" pn) [p] [] pos):=λH₀ O₀=>by
 refine PE.imp (λσ H Q hq=>?_) (jW (Io hR) hg1 hm1 (by decide +kernel) (cK (ha H₀ O₀) dO (bE hp)) (by decide) (by decide) (bE hp) rfl)
 obtain⟨O,own,e,d,F,ev,k⟩:=hq
 (first|rw[A_]at ev|rw[iS]at ev)
 obtain⟨d1,e1,ev1⟩:=Res.bind_ok ev
 refine⟨O,own,e,d1,F,e1,λv1 H1 s1 r1=>?_⟩
 cases d1 with
 |lst ds=>
  obtain⟨kss,e2,ev2⟩:=Res.bind_ok (show(jL ds>>=_)=Res.ok d from ev1)
  obtain⟨a,xs,rfl,q1,w1⟩:=r1.lst
  split at ev2
  ·obtain⟨c,ev3⟩:=aV ev2
   cases ev3
   rw[aH,decide_eq_true_eq,decide_eq_true_eq]at c
   have hl:=w1.length
   refine⟨a,xs,_,rfl,q1,CO e2 w1,by lia,by lia,λl hl=>?_⟩
   have z:=λps=>iU (K:=X.K) (O:=O) (CQ w1 ps) hl (F.grow s1).trk
   exact k _ _ (s1.trans (bU hl _)) (z _).1 λ_=>(z _).2.back s1
  ·cases ev2
 |_=>cases ev1
theorem se_dkl {pn:Pos} (hh:X.calm=true) (hm1:X.mg "list" = none) (hg1:Gl X "list") (hp:bA p=true) (ha:SE T cf X x p):SE T cf X (.dkl x) (.Call (.Name "list" pn) [p] [] pos):=λH₀ O₀=>by
 refine PE.imp (λσ H Q hq=>?_) (mC (Iv hh) hg1 hm1 (by decide +kernel) (cK (ha H₀ O₀) dO (bE hp)) (by decide) (by decide) (bE hp) rfl)
 obtain⟨O,own,e,d,F,ev,k⟩:=hq
 rw[Aa]at ev
 obtain⟨d1,e1,ev1⟩:=Res.bind_ok ev
 refine⟨O,own,e,d1,F,e1,λv1 H1 s1 r1 _=>?_⟩
 cases d1 with
 |tdc kvs=>
  obtain⟨c,ev2⟩:=aV ev1
  cases ev2
  obtain⟨a,ps,rfl,⟨o,hf⟩,w⟩:=r1
  have hl:=w.length
  have c:=of_decide_eq_true c
  refine⟨a,o,ps,rfl,hf,by lia,λl ys hl hk=>?_⟩
  have z:=iU (K:=X.K) (O:=O) (CT w hk) hl (F.grow s1).trk
  exact k _ _ (s1.trans (bU hl _)) z.1 λ_=>z.2.back s1
 |_=>cases ev1
end
section
variable{T:Tab}{cf:Nat->List D->Res D}{X:Cx}{x y z:E}{p q r tg:Expr}{pos pos':Pos}{es:List Expr}
noncomputable def spM(K:PySem.W.Frag)(j:Nat)(F:List D->Res D)(fr:Bool):Sp:=λvs H Q E=>∃O ds Hb d0 v0,Same Hb H/\(∀a,O a->∃o,Hb a=some o)/\RDs K H O ds vs/\ds[j]?=some d0/\vs[j]?=some v0/\NV K H O d0 v0/\(∀a,v0=.ref a->Hb a=none) /\
 ((∃d,F ds=.ok d/\∀v H',Same Hb H'->RD K H' O d v->(fr=true->NewR K Hb H' O d v)->Q v H')\/∃c d,F ds=.err c d/\∀od H',Same Hb H'->uE d od H'->E (cvK K c) od H')
noncomputable def uN(a b:Addr)(H H':Hp):Prop:=∀c o,c≠a->c≠b->H c=some o->H' c=some o
noncomputable def spR(K:PySem.W.Frag)(F:List D->Res D)(vs:List V)(H:Hp)(Q:VK)(_:XK):Prop:=∃(O:Addr->Prop)(x y:D)(j k:List (Sum Int Str×D))(v w:V)(a b:Addr)(r:D)(j' k':List (Sum Int Str×D)),
 vs=[v,.ref a,.ref b,w]/\a≠b/\(O a/\O b/\∀c,O c->∃o,H c=some o)/\(RD K H O x v/\RD K H O y w/\OwnAt K H O a (.dct j)/\OwnAt K H O b (.dct k))/\F [x,.tup [.int (a:Nat),.dct j],.tup [.int (b:Nat),.dct k],y]=.ok (.tup [r,.dct j',.dct k']) /\
 ∀v H',uN a b H H'->RD K H' O r v->OwnAt K H' O a (.dct j')->OwnAt K H' O b (.dct k')->Q v H'
noncomputable def gQ(K:PySem.W.Frag)(T:Tab)(F:List D->Res D)(i:Nat):Sp:=match T.mv i with
 |none=>spD K F (T.fresh i)
 |some j=>if j=1000 then spR K F else spM K j F (T.fresh i)
theorem nE{K:PySem.W.Frag}{F:List D->Res D}{i:Nat}(h:T.mv i=none):gQ K T F i=spD K F (T.fresh i):=by unfold gQ;rw[h]
theorem CU{K:PySem.W.Frag}{F:List D->Res D}{i j:Nat}(h:T.mv i=some j)(hj:¬j=1000):gQ K T F i=spM K j F (T.fresh i):=by unfold gQ;rw[h];exact if_neg hj
theorem uO{K:PySem.W.Frag}{F:List D->Res D}{i:Nat}(h:T.mv i=some 1000):gQ K T F i=spR K F:=by unfold gQ;rw[h];exact if_pos rfl
noncomputable def lG(T:Tab)(cf:Nat->List D->Res D)(X:Cx)(f:Nat)(n:Str):Prop:=
 ∃k a fd ps,FnOk X.prog X.w X.K X.mg X.base (CXE X.prog X.w) k a fd ps (gQ X.K T (cf f) f)/\Room k X.A/\X.mg n=some (.ref a)/\PySem.W.keepIn X.K (.ref a)=true/\Binds X.K fd ps []
theorem Iy{d:D}(h:d.flatL=true):∃ds,d=.lst ds/\D.flats ds=true:=by
 cases d with
 |lst ds=>exact⟨ds,rfl,h⟩
 |_=>cases h
theorem NewL.nv{K:PySem.W.Frag}{H H':Hp}{O:Addr->Prop}{d:D}{v:V}(n:NewL K H H' O d v)(h:d.flatL=true)(tr:∀a,O a->∃o,H a=some o):NV K H' O d v/\∀a,v=.ref a->H a=none:=by
 obtain⟨ds,rfl,hf⟩:=Iy h
 obtain⟨a,rfl,ha,xs,hx,hr⟩:=n rfl
 have nO:¬O a:=λz=>by
  obtain⟨o,w⟩:=tr a z
  rw[ha]at w;cases w
 exact⟨.inr ⟨ds,a,xs,rfl,hf,rfl,hx,nO,hr.flat hf⟩,λb e=>by cases e;exact ha⟩
theorem uP(n:Int):∀(l:List Int),(fC n l).Perm (n::l)
 |[]=>.refl _
 |m::r=>by
  unfold fC
  split
  ·exact .refl _
  ·exact((uP n r).cons m).trans (.swap n m r)
theorem uQ:∀(l:List Int),(dR l).Perm l
 |[]=>.refl _
 |n::r=>(uP n (dR r)).trans ((uQ r).cons n)
theorem CV(n:Int):∀{l:List Int},l.Pairwise (·<=·)->(fC n l).Pairwise (·<=·)
 |[],_=>Lv _ _
 |m::r,h=>by
  obtain⟨h1,h2⟩:=jT.mp h
  unfold fC
  split
  ·rename_i c
   refine jT.mpr ⟨λy hy=>?_,h⟩
   rcases aO.mp hy with rfl|hy
   ·exact c
   ·exact Int.le_trans c (h1 y hy)
  ·rename_i c
   refine jT.mpr ⟨λy hy=>?_,CV n h2⟩
   rcases aO.mp ((uP n r).mem_iff.mp hy)with rfl|hy
   ·lia
   ·exact h1 y hy
theorem uR:∀(l:List Int),(dR l).Pairwise (·<=·)
 |[]=>.nil
 |n::r=>CV n (uR r)
theorem uS:∀{a b:List Int},a.Perm b->a.Pairwise (·<=·)->b.Pairwise (·<=·)->a=b
 |[],b,h,_,_=>(sO.nil_eq h)
 |x::a,[],h,_,_=>absurd h.length_eq (by simp)
 |x::a,y::b,h,ha,hb=>by
  obtain⟨a1,a2⟩:=jT.mp ha
  obtain⟨b1,b2⟩:=jT.mp hb
  have e:x=y:=by
   have h1:x∈y::b:=h.mem_iff.mp (bF ..)
   have h2:y∈x::a:=h.mem_iff.mpr (bF ..)
   rcases aO.mp h1 with z|z
   ·exact z
   ·rcases aO.mp h2 with w|w
    ·exact w.symm
    ·exact Ll (a1 y w) (b1 x z)
  subst e
  rw[uS (sO.cons_inv h) a2 b2]
theorem CW{K:PySem.W.Frag}{H:Hp}{O:Addr->Prop}:∀{kvs:List (Sum Int Str×D)} {ps:List (Key×V)} {ns:List Int},jM kvs=.ok ns->RDk K H O kvs ps->ps.map (·.1)=ns.map Sum.inl
 |[],ps,ns,h,r=>by cases h;cases (show ps=[]from r);rfl
 |(.inl n,d)::q,ps,ns,h,r=>by
  obtain⟨m,e1,h⟩:=Res.bind_ok (show(jM q>>=λx=>Res.ok (n::x))=.ok ns from h)
  cases h
  obtain⟨v,r',e,_,h2⟩:=r
  subst e
  rw[aK,aK,CW e1 h2]
 |(.inr _,d)::q,ps,ns,h,r=>by cases h
theorem se_srt {pn:Pos} (hcm:X.calm=true) (hm1:X.mg "sorted" = none) (hg1:Gl X "sorted") (hp:bA p=true) (ha:SR T cf X x p):SE T cf X (.srt x) (.Call (.Name "sorted" pn) [p] [] pos):=λH₀ O₀=>by
 refine PE.imp (λσ H Q hq=>?_) (jW (Ia hcm) hg1 hm1 (by decide +kernel) (cK (ha H₀ O₀) dO (bE hp)) (by decide) (by decide) (bE hp) rfl)
 obtain⟨O,own,e,d,F,ev,k⟩:=hq
 (first|rw[iS]at ev|rw[xE_srt]at ev)
 obtain⟨d1,e1,ev1⟩:=Res.bind_ok ev
 refine⟨O,own,e,d1,F,e1,λv1 H1 s1 r1=>?_⟩
 cases d1 with
 |lst ds=>
  obtain⟨ns,e2,ev2⟩:=Res.bind_ok (show(cN ds>>=_)=Res.ok d from ev1)
  obtain⟨c,ev3⟩:=aV ev2
  cases ev3
  obtain⟨a,xs,rfl,q1,w1⟩:=r1.lst
  rw[nB e2 w1]at q1
  refine .inl ⟨a,ns,rfl,q1,of_decide_eq_true c,λl ns' hl hp hs=>?_⟩
  rw[uS (hp.trans (uQ ns).symm) hs (uR ns)]
  have z:=iU (K:=X.K) (O:=O) (CC (dR ns)) hl (F.grow s1).trk
  exact k _ _ (s1.trans (bU hl _)) z.1 λ_=>z.2.back s1
 |dct kvs=>
  obtain⟨ns,e2,ev2⟩:=Res.bind_ok (show(jM kvs>>=_)=Res.ok d from ev1)
  obtain⟨c,ev3⟩:=aV ev2
  cases ev3
  obtain⟨a,ps,rfl,q1,w1⟩:=r1.dct
  refine .inr ⟨a,ps,ns,rfl,q1,CW e2 w1,of_decide_eq_true c,λl ns' hl hp hs=>?_⟩
  rw[uS (hp.trans (uQ ns).symm) hs (uR ns)]
  have z:=iU (K:=X.K) (O:=O) (CC (dR ns)) hl (F.grow s1).trk
  exact k _ _ (s1.trans (bU hl _)) z.1 λ_=>z.2.back s1
 |_=>cases ev1
theorem CY{e:Nv}{H₀ H H':Hp}{O₀ O:Addr->Prop}{own:Nat->Option Addr}{σ:L2.St}{K:PySem.W.Frag}{d:D}{v:V}(F:Fm K H₀ O₀ H O own e σ)(s:Same H H')(ev:evE T cf x e=.ok d)(hn:mQ T x e=true)(hf:d.flatL=true)(n:bL T x=true->NewL K H H' O d v)
 (hv:∀j,x=.var j->cB σ j=some v):NV K H' O d v/\∀a,v=.ref a->H₀ a=none:=by
 unfold mQ at hn
 rw[fV]at hn
 rcases hn with hn|hn
 ·obtain⟨h1,h2⟩:=(n hn).nv hf F.trk
  exact⟨h1,λa e=>F.same.free (h2 a e)⟩
 ·cases x with
  |var j=>
   have hn:(e.at j).isN=true:=hn
   have q:=F.sl j
   cases w:e.at j with
   |n d'=>
    rw[w]at q
    (first|rw[tL]at ev|rw[A8]at ev)
    rw[w]at ev
    cases ev
    obtain⟨v',e1,r⟩:=q
    rw[hv j rfl]at e1
    cases e1
    exact⟨r.map (λq=>q.same s) λa xs z q=>⟨z,s _ _ q⟩,λa e=>F.nw j _ a w (by rw[hv j rfl,e])⟩
   |_=>rw[w]at hn;cases hn
  |_=>cases hn
noncomputable def CZ:E->Option Nat
 |.var j=>some j
 |_=>none
theorem Iz{i:Nat}{n:Str}(hx:eC p=true)(hN:X.N.Nodup)(hi:X.N[i]?=some n)(hl:Loc X.env.scope n)(hf:X.fn n=true\/X.env.scope.names.lookup n=some .local)(hv:CZ x=none)(h:SE T cf X x p):SS T cf X (.asgN i x) (.Assign [.Name n pos'] p pos):=λH₀ O₀=>by
 refine PS.imp (λD' σ H hq=>?_) (jV hN hi hl (h H₀ O₀) (iV hx) hf)
 obtain⟨ts,e,out,⟨O,own,F,tt⟩,ev,k⟩:=hq
 rw[Aj]at ev
 obtain⟨d,e1,ev⟩:=Res.bind_ok ev
 obtain⟨c,ev⟩:=aV ev
 cases ev
 rw[aH,fV]at c
 refine⟨O,own,e,d,F,e1,λv H' s' r n=>?_⟩
 have key:NV X.K H' O d v/\∀a,v=.ref a->H₀ a=none:=by
  rcases c.2 with z|z
  ·cases d with
   |non=>cases (show v=_ from r);exact⟨.inl ⟨rfl,rfl⟩,λa e=>by cases e⟩
   |_=>cases z
  ·exact CY F s' e1 c.1 z n λj e=>by rw[e]at hv;cases hv
 exact k _ H' ⟨O,_,(F.grow s').setN i key.1 key.2,λt ht=>(tt t ht).same s'⟩
theorem JA {i j:Nat} {n m:Str} {pm:Pos} (hN:X.N.Nodup) (hi:X.N[i]?=some n) (hl:Loc X.env.scope n) (hf:X.fn n=true\/X.env.scope.names.lookup n=some .local) (hj:X.N[j]?=some m) (hv:Vis X.env.scope m) (hd:(m==("__debug__" : Str))=false) (hc:(m==("__classdict__" : Str))=false):SS T cf X (.asgN i (.var j)) (.Assign [.Name n pos'] (.Name m pm) pos):=λH₀ O₀=>by
 refine PS.imp (λD' σ H hq=>?_) (jV hN hi hl (fA hj hv hd hc) (iV rfl) hf)
 obtain⟨ts,e,out,⟨O,own,F,tt⟩,ev,k⟩:=hq
 rw[Aj]at ev
 obtain⟨d,e1,ev⟩:=Res.bind_ok ev
 obtain⟨c,ev⟩:=aV ev
 cases ev
 rw[aH,fV]at c
 obtain⟨v,g1,g2⟩:=F.val (i:=j) (by rw[tL]at e1;exact e1)
 have g3:cB σ j=some v:=by unfold cB;rw[g1];rfl
 have key:NV X.K H O d v/\∀a,v=.ref a->H₀ a=none:=by
  rcases c.2 with z|z
  ·cases d with
   |non=>cases (show v=_ from g2);exact⟨.inl ⟨rfl,rfl⟩,λa e=>by cases e⟩
   |_=>cases z
  ·exact CY F (Same.refl H) e1 c.1 z (λz=>by cases z) λj e=>by cases e;exact g3
 exact⟨v,g1,k _ H ⟨O,_,F.setN i key.1 key.2,tt⟩⟩
end
theorem JB:typeLookup (.type "list") "keys" = pure none:=am_miss_of_fast (by decide +kernel)
theorem JC{prog:Program}{w:World}{A:Around}{E:Value->Shared->Prop}{s:Shared}{a:Addr}{o:Obj}{xs:Array Value}{k:Nat}{Q:Option Value->Shared->Prop}
 (hx:s.heap.get? a=some o) (hc:o.cls=.type "list") (hdat:o.data=.seq xs k) (hd:o.dict=none) (hA:A.handled=none)
 (h:∀h' tk e,Heap.NewExcOf s.heap h' e "AttributeError" -> Q none {s with heap:=h',toks:=tk}) :
 wpAny (model prog w) A (getAttr? (.ref a) "keys") Q E s:=by
 obtain⟨c,dct,dat,sl⟩:=o
 simp only at hc hdat hd
 subst hc hdat hd
 obtain⟨hp,g,d,tk,os⟩:=s
 have hT:∀tk',(⟨hp,g,d,tk',os⟩:Shared).TypeIs (.ref a) "list" := λ_=>⟨_,hx,rfl⟩
 have f1:=sub_AttributeError
 have f3:=F.slot_list_getattribute.lookup
 have f4:=F.slot_list_getattribute.bind (.ref a)
 have f5:=am_list_getattr_none
 unfold getAttr? getAttrBy? getAttrBy
 repeat(any_goals(first|assumption|exact hT _|((with_reducible show wpAny _ _ (call (Value.builtin "list.__getattribute__") _ _) _ _ _);refine call_meets F.slot_list_getattribute (hT _) am_entry_list_getattribute (F.args_list_getattribute_2 _ _) (meets_getattribute_miss_list a xs k sl "keys" _ JB (by decide +kernel) (by size_fits)) ⟨hx,hA,λh' tk' e hx'=>?_⟩)|wp_step))
 obtain⟨t',u',he⟩:=hx'.there
 show wpAny _ _ (getattributeRaised _ _ _ _ _ _ _) _ _ _
 unfold getattributeRaised
 repeat(any_goals(first|assumption|wp_step))
 exact h _ _ _ hx'.of
theorem C0:entryFor table "dict.update.loop" = some Builtin.«dict.update.loop»:=entryFor_of_tree (by kernel_rfl)
theorem pP:plainId "dict.update.loop" = true:=by decide +kernel
section
variable{prog:Program}{w:World}
variable{A:Around}{R:Result->Shared->Prop}{I:Addr}{fp wr:List Addr}{G:Array GenState->Array GenState->Prop}{n:Nat}{P:Nat->Value->Prop}{St:Nat->Shared->Prop}
end
section
variable{prog:Program}{w:World}{A:Around}{E:Value->Shared->Prop}{s:Shared}
end
theorem JD{α β:Type}(f:β->α->β)(z:α)(vs:List α)(x:β):(dG 0 vs.length).foldl (λb j=>f b (vs.getD j z)) x=vs.foldl f x:=by
 have e:(dG 0 vs.length).map (λj=>vs.getD j z)=vs:=by
  rw[<-Er]
  apply List.ext_getElem
  ·simp
  ·intro i h1 h2
   simp[h2]
 rw[<-List.foldl_map (f:=λj=>vs.getD j z) (g:=f),e]
section
variable{T:Tab}{cf:Nat->List D->Res D}{X:Cx}{x y z:E}{p q r tg:Expr}{pos pos':Pos}{es:List Expr}
theorem C1{K:PySem.W.Frag}{H:Hp}{O:Addr->Prop}:∀{kvs:List (Sum Int Str×D)} {ps:List (Key×V)} {i:Nat} {kv:Sum Int Str×D},RDk K H O kvs ps->kvs[i]?=some kv->∃q,ps[i]?=some q/\q.1=kv.1
 |[],_,_,_,_,e=>by simp at e
 |(k,d)::r,ps,i,kv,h,e=>by
  obtain⟨v,q,rfl,_,h2⟩:=h
  cases i with
  |zero=>cases e;exact⟨_,rfl,rfl⟩
  |succ i=>exact C1 (i:=i) h2 (by simpa using e)
theorem C2{K:PySem.W.Frag}{H:Hp}{O:Addr->Prop}:∀{kvs:List (List (Sum Int Str)×D)} {ps:List (List Key×V)} {i:Nat} {kv:List (Sum Int Str)×D},RDt K H O kvs ps->kvs[i]?=some kv->∃q,ps[i]?=some q/\q.1=kv.1
 |[],_,_,_,_,e=>by simp at e
 |(k,d)::r,ps,i,kv,h,e=>by
  obtain⟨v,q,rfl,_,h2⟩:=h
  cases i with
  |zero=>cases e;exact⟨_,rfl,rfl⟩
  |succ i=>exact C2 (i:=i) h2 (by simpa using e)
theorem C3{K:PySem.W.Frag}{H:Hp}{O:Addr->Prop}(k:Key):RD K H O (eV k) (kV k):=by
 cases k with
 |inl i=>exact rfl
 |inr x=>exact rfl
theorem C4{K:PySem.W.Frag}{H:Hp}{O:Addr->Prop}:∀(ks:List Key),RDs K H O (ks.map eV) (ks.map kV)
 |[]=>rfl
 |k::ks=>⟨_,_,rfl,C3 k,C4 ks⟩
theorem JE{K:PySem.W.Frag}{a:Addr}{o:Obj}{kvs:List (Sum Int Str×D)}{ps:List (Key×V)}(hl:ps.length=kvs.length)(hk:∀(i:Nat)(kv:Sum Int Str×D),kvs[i]?=some kv->∃q:Key×V,ps[i]?=some q/\q.1=kv.1):Wk K (Itk a o kvs.length) [.fr a o (.dK ps)] (kvs.map λkv=>eV kv.1):=by
 intro i H O r
 have h:H a=some (.frz o (.dK ps)):=r _ (bX.mpr rfl)
 rw[aF]
 refine⟨λhi=>.inl ⟨ps,h,hl,hi⟩,λhi=>⟨.inl ⟨ps,h,hl⟩,hi⟩,λx H' d hd y=>?_⟩
 obtain⟨rfl,y⟩:=y
 refine⟨Same.refl _,?_⟩
 rw[bK]at hd
 cases hz:kvs[i]? with
 |none=>rw[hz]at hd;cases hd
 |some kv=>
  rw[hz]at hd
  cases hd
  obtain⟨q,h1,h2⟩:=hk i kv hz
  rcases y with⟨ps',y1,y2,y3⟩|⟨ps',y1,_⟩
  ·rw[h]at y1
   cases y1
   rw[h1]at y3
   cases y3
   show RD K _ O (eV kv.1) (kV q.1)
   rw[h2]
   exact C3 _
  ·rw[h]at y1;cases y1
theorem JF{K:PySem.W.Frag}{a:Addr}{o:Obj}{kvs:List (List (Sum Int Str)×D)}{ps:List (List Key×V)}(hl:ps.length=kvs.length)(hk:∀(i:Nat)(kv:List (Sum Int Str)×D),kvs[i]?=some kv->∃q:List Key×V,ps[i]?=some q/\q.1=kv.1):Wk K (Itk a o kvs.length) [.fr a o (.dT ps)] (kvs.map λkv=>.tup (kv.1.map eV)):=by
 intro i H O r
 have h:H a=some (.frz o (.dT ps)):=r _ (bX.mpr rfl)
 rw[aF]
 refine⟨λhi=>.inr ⟨ps,h,hl,hi⟩,λhi=>⟨.inr ⟨ps,h,hl⟩,hi⟩,λx H' d hd y=>?_⟩
 obtain⟨rfl,y⟩:=y
 refine⟨Same.refl _,?_⟩
 rw[bK]at hd
 cases hz:kvs[i]? with
 |none=>rw[hz]at hd;cases hd
 |some kv=>
  rw[hz]at hd
  cases hd
  obtain⟨q,h1,h2⟩:=hk i kv hz
  rcases y with⟨ps',y1,_⟩|⟨ps',y1,y2,y3⟩
  ·rw[h]at y1;cases y1
  ·rw[h]at y1
   cases y1
   rw[h1]at y3
   rcases y3 with⟨z,_⟩|⟨q',b,z1,z2,z3⟩
   ·cases z
   ·cases z1
    cases z2
    rw[h2]at z3
    exact⟨b,_,rfl,.inl z3,C4 _⟩
theorem SI.up(h:SI T cf X tg x false p):SI T cf X tg x true p:=λH₀ O₀ pins s σ H R I q=>
 h H₀ O₀ pins s σ H R I (let ⟨O,own,e,ds,F,ev,k⟩:=q;⟨O,own,e,ds,F,ev,λJ H' srs s' r _ wk=>k J H' srs s' r (λz=>nomatch z) wk⟩)
theorem C5(hv:SE T cf X x p):SI T cf X tg (.seqD x) false p:=by
 intro H₀ O₀ pins s σ H R I h
 obtain⟨O,own,e,ds,F,ev,k⟩:=h
 rw[GP]at ev
 obtain⟨d1,e1,ev⟩:=Res.bind_ok ev
 refine thn (hv H₀ O₀ pins s σ H (λv H1=>Same H H1/\RD X.K H1 O d1 v) I ⟨O,own,e,d1,F,e1,λv H' s' r _=>⟨s',r⟩⟩) λu s1 ⟨v,H1,I1,r1,s1',rr⟩=>?_
 have go:∀(a:Addr)(o:Obj)(n:Nat)(es:Array DictEntry)(ep:Nat)(pn:Pin),o.data=.dict es ep->RawD s1.heap a es ep->(a==sysModules)=false->es.size=n->PinOk X.K H1 O pn->Wk X.K (Itk a o n) [pn] ds->wpAny (model X.prog X.w) X.A (pyIter (.ref a)) (PIE X pins σ tg R) X.xe s1:=by
  intro a o n es ep pn hd rw' ns hn hp wk
  subst hn
  refine BL ns rw' ?_
  refine⟨s1.heap.objs.size,[s1.heap.objs.size],_,Itk a o es.size,H1,rfl,I1.kept (t':=s1.toks) λb u e=>Heap.get?_push_of_some _ e,HC hd a _ es.size rfl,⟨_,Heap.get?_push_size _ rfl,rfl,rfl⟩,λb hb=>?_,k _ H1 [pn] s1' (λt ht=>by rw[bX.mp ht];exact hp.rr) (λ_ t ht=>by rw[bX.mp ht];exact hp) wk⟩
  rcases aO.mp hb with rfl|hb
  ·exact I1.fpOk (aN _) (I1.hok.fresh (aN _))
  ·cases hb
 cases d1 with
 |tdc kvs=>
  cases (show Res.ok _=Res.ok ds from ev)
  obtain⟨a,ps,rfl,⟨o,hf⟩,w⟩:=rr
  cases r1
  obtain⟨e1,e2,e3,xs,e4,o',es,ep,g1,g2,g3,g4⟩:=(show ObjOk X.prog X.w H1 s1.heap a (.frz o (.dT ps))from I1.hok a _ hf)
  have eo:o'=o:=by rw[e1]at g1;cases g1;rfl
  subst eo
  obtain⟨x1,x2,x3,x4⟩:=oX I1 hf g3
  exact go a o' kvs.length es ep (.fr a o' (.dT ps)) g3 x1 x2 (by rw[x3,w.length]) hf (JF w.length λi kv=>C2 w)
 |dct kvs=>
  cases (show Res.ok _=Res.ok ds from ev)
  obtain⟨a,ps,rfl,⟨o,hf⟩,w⟩:=rr
  cases r1
  obtain⟨e1,e2,e3,xs,e4,o',es,ep,g1,g2,g3,g4⟩:=(show ObjOk X.prog X.w H1 s1.heap a (.frz o (.dK ps))from I1.hok a _ hf)
  have eo:o'=o:=by rw[e1]at g1;cases g1;rfl
  subst eo
  obtain⟨x1,x2,x3,x4⟩:=tW I1 hf g3
  exact go a o' kvs.length es ep (.fr a o' (.dK ps)) g3 x1 x2 (by rw[x3,w.length]) hf (JE w.length λi kv=>C1 w)
 |_=>cases ev
theorem JG {i:Nat} {n:Str} {px tpos:Pos} (hR:gA X) (hN:X.N[i]?=some n) (hv:Vis X.env.scope n) (hd:(n==("__debug__" : Str))=false) (hc:(n==("__classdict__" : Str))=false) (hx:eC p=true) (hk:SE T cf X y q) (h:SE T cf X x p) :
 SS T cf X (.dputV i y x) (.Assign [.Subscript (.Name n px) q tpos] p pos):=λH₀ O₀=>by
 have hR':X.A.units+64<cLine:=hR
 refine PS.imp (λD' σ H hq=>?_) (A0 (by lia) (fA hN hv hd hc) (hk H₀ O₀) (h H₀ O₀) (iV hx))
 obtain⟨ts,e,out,⟨O,own,F,tt⟩,ev,k⟩:=hq
 rw[GZ]at ev
 obtain⟨d,e1,ev⟩:=Res.bind_ok ev
 obtain⟨l,e2,ev⟩:=Res.bind_ok ev
 obtain⟨dk,e3,ev⟩:=Res.bind_ok ev
 obtain⟨key,e4,ev⟩:=Res.bind_ok ev
 obtain⟨c,ev⟩:=aV ev
 cases ev
 refine⟨O,own,e,d,F,e1,λv H1 s1 r1 _=>?_⟩
 obtain⟨q1,xs1,g1,g2,g3,g4,g5⟩:=(F.grow s1).mutT i (Sl.ownT_ok e2)
 refine⟨.ref q1,eB g1,O,own,e,dk,F.grow s1,e3,λv2 H2 s2 r2 _=>?_⟩
 have F2:=(F.grow s1).grow s2
 obtain⟨q2,xs2,f1,f2,f3,f4,f5⟩:=F2.mutT i (Sl.ownT_ok e2)
 have eq:q2=q1:=by rw[g1]at f1;cases f1;rfl
 subst eq
 cases dk with
 |tup ks=>
  obtain⟨b,xs,rfl,tq,w1⟩:=r2
  have hp3:=pL (gB (show Res.of (fK ks)=.ok key from e4)) w1 tq
  refine⟨q2,_,rfl,DPut.t f2 hp3 (by rw[f3.length,<-fN];exact of_decide_eq_true c),?_⟩
  exact k _ _ ⟨O,own,f5 _ _ (HS (r1.same s2) f3),λt ht=>(((tt t ht).same s1).same s2).updM f4 f2 trivial⟩
 |_=>cases e4
end
section
variable{K:PySem.W.Frag}{H₀ H H':Hp}{O₀ O:Addr->Prop}{own:Nat->Option Addr}{e:Nv}{σ:L2.St}
theorem JH{a b:Addr}{u1 u2 n1 n2:HO}(ab:a≠b)(h1:H a=some u1)(h2:H b=some u2)(g1:H' a=some n1)(g2:H' b=some n2)(s:uN a b H H') :
 ∃H1,Same H H1/\H1 a=some u1/\H1 b=some u2/\upd (upd H1 a n1) b n2=H'/\upd H1 a n1=upd H' b u2:=by
 have e1:upd (upd H' a u1) b u2 a=some u1:=by rw[aL ab,bS]
 refine⟨upd (upd H' a u1) b u2,λc o q=>?_,e1,bS,funext λc=>?_,funext λc=>?_⟩
 ·by_cases z2:c=b
  ·subst z2;rw[bS,<-h2,q]
  ·rw[aL z2]
   by_cases z1:c=a
   ·subst z1;rw[bS,<-h1,q]
   ·rw[aL z1];exact s c o z1 z2 q
 ·by_cases z2:c=b
  ·subst z2;rw[bS,g2]
  ·rw[aL z2]
   by_cases z1:c=a
   ·subst z1;rw[bS,g1]
   ·rw[aL z1,aL z2,aL z1]
 ·by_cases z1:c=a
  ·subst z1;rw[bS,aL ab,g1]
  ·rw[aL z1]
   by_cases z2:c=b
   ·subst z2;rw[bS,bS]
   ·rw[aL z2,aL z2,aL z1]
theorem Sl.giv_ok{x:Sl}{g:List (Sum Int Str×D)}(h:x.givD=.ok g):x=.o (.dct g)\/∃a,x=.r a (.dct g):=by
 unfold Sl.givD at h
 split at h
 ·cases h;exact .inl rfl
 ·cases h;exact .inr ⟨_,rfl⟩
 ·cases h
theorem Sl.refD_ok{x:Sl}{g:Nat×List (Sum Int Str×D)}(h:x.refD=.ok g):x=.r g.1 (.dct g.2):=by
 unfold Sl.refD at h
 split at h
 ·cases h;rfl
 ·cases h
theorem Fm.giv(F:Fm K H₀ O₀ H O own e σ){i:Nat}{g:List (Sum Int Str×D)}(h:(e.at i).givD=.ok g):∃a,own i=some a/\cB σ i=some (.ref a)/\OwnAt K H O a (.dct g)/\O a/\H₀ a=none:=by
 have q:=F.sl i
 rcases Sl.giv_ok h with z|⟨a,z⟩
 ·rw[z]at q
  obtain⟨a,e1,e2,h1⟩:=q
  exact⟨a,e1,e2,h1,F.new i a e1⟩
 ·rw[z]at q
  exact⟨a,q.1,q.2.1,q.2.2,F.new i a q.1⟩
theorem Fm.mutG(F:Fm K H₀ O₀ H O own e σ){i:Nat}{g:List (Sum Int Str×D)}(hi:(e.at i).givD=.ok g){p:Addr}(e1:own i=some p){d':D}{o':HO}(r:OwnAt K (upd H p o') O p d') :
 Fm K H₀ O₀ (upd H p o') O own (e.set i ((e.at i).giv d')) σ:=by
 obtain⟨p',e1',e2,h1,hn⟩:=F.giv hi
 rw[e1]at e1'
 cases e1'
 obtain⟨o,ho,hm⟩:=h1.obj
 have hlen:i<e.length:=by
  by_cases h:i<e.length
  ·exact h
  ·rw[iD h]at hi;cases hi
 have hx:∀d,(e.at i).giv d'≠.n d:=λd z=>by
  rcases Sl.giv_ok hi with q|⟨a,q⟩
  ·rw[q]at z;cases z
  ·rw[q]at z;cases z
 refine⟨by rw[eN];exact F.len,λj=>?_,F.inj,λb u hb=>?_,F.sub,F.trk0,λa ha=>?_,F.new,pA hx F.nw⟩
 ·by_cases h:i=j
  ·subst h
   rw[iT hlen,e2]
   rcases Sl.giv_ok hi with q|⟨a,q⟩
   ·rw[q];exact⟨p,e1,rfl,r⟩
   ·have q2:=F.sl i
    rw[q]at q2⊢
    have ea:a=p:=by have:=q2.1;rw[e1]at this;cases this;rfl
    subst ea
    exact⟨e1,rfl,r⟩
  ·rw[fM h]
   refine RS.map (λq=>q.updM hn.1 ho hm) (λq=>q.updM hn.1 ho hm) (λq=>q.updM hn.1 ho hm) (λq=>q.updM hn.1 ho hm) (λa u ea _ q=>?_) (F.sl j) (pB hn.1) (eI (K:=K) hn.1 ho hm).1
   have:a≠p:=λz=>h (F.inj i j p e1 (z▸ea))
   rw[aL this];exact q
 ·rw[aL (λz=>by rw[z,hn.2]at hb;cases hb)];exact F.same b u hb
 ·by_cases h:a=p
  ·subst h;exact⟨_,bS⟩
  ·obtain⟨ys,q⟩:=F.trk a ha
   exact⟨ys,by rw[aL h];exact q⟩
theorem Fm.mut2(F:Fm K H₀ O₀ H O own e σ){i j:Nat}(ij:i≠j){g h g' h':List (Sum Int Str×D)}(hi:(e.at i).givD=.ok g)(hj:(e.at j).givD=.ok h){a b:Addr}(ea:own i=some a)(eb:own j=some b)(s:uN a b H H')(oa:OwnAt K H' O a (.dct g'))(ob:OwnAt K H' O b (.dct h')) :
 Fm K H₀ O₀ H' O own ((e.set i ((e.at i).giv (.dct g'))).set j ((e.at j).giv (.dct h'))) σ/\∀t,PinOk K H O t->PinOk K H' O t:=by
 obtain⟨a',ea',_,h1,hn1⟩:=F.giv hi
 rw[ea]at ea';cases ea'
 obtain⟨b',eb',_,h2,hn2⟩:=F.giv hj
 rw[eb]at eb';cases eb'
 have ab:a≠b:=λz=>ij (F.inj i j a ea (z▸eb))
 obtain⟨ps1,g1,r1⟩:=oa
 obtain⟨ps2,g2,r2⟩:=ob
 obtain⟨u1,w1,m1⟩:=h1.obj
 obtain⟨u2,w2,m2⟩:=h2.obj
 obtain⟨H1,s1,x1,x2,eq,eq2⟩:=JH ab w1 w2 g1 g2 s
 have y2:upd H1 a (.dK ps1) b=some u2:=by rw[aL (Ne.symm ab)];exact x2
 refine⟨?_,λt ht=>?_⟩
 ·have F1:=(F.grow s1).mutG hi ea (d':=.dct g') (o':=.dK ps1) ⟨ps1,bS,by rw[eq2];exact r1.updM hn2.1 g2 trivial⟩
  have hj1:Nv.at (e.set i ((e.at i).giv (.dct g'))) j=e.at j:=fM ij
  have F2:=F1.mutG (i:=j) (by rw[hj1];exact hj) eb (d':=.dct h') (o':=.dK ps2) (by rw[eq];exact⟨ps2,g2,r2⟩)
  rw[hj1,eq]at F2
  exact F2
 ·have q:=((ht.same s1).updM hn1.1 x1 m1 (o':=.dK ps1)).updM hn2.1 y2 m2 (o':=.dK ps2)
  rw[eq]at q
  exact q
end
section
variable{T:Tab}{cf:Nat->List D->Res D}{X:Cx}{x y c:E}{p q:Expr}{pos:Pos}{a b:S}
noncomputable def tRf(T:Tab)(cf:Nat->List D->Res D)(K:PySem.W.Frag)(H₀:Hp)(O₀:Addr->Prop)(f:Nat)(x:E)(i j:Nat)(y:E):TT:=λσ H Q=>
 ∃O own e d1 g h d2 r k,Fm K H₀ O₀ H O own e σ/\i≠j/\evE T cf x e=.ok d1/\(e.at i).givD=.ok g/\(e.at j).givD=.ok h/\evE T cf y e=.ok d2/\fX cf f d1 g h d2=.ok r/\r.1.truth=.ok k /\
  ∀H',Fm K H₀ O₀ H' O own ((e.set i ((e.at i).giv (.dct r.2.1))).set j ((e.at j).giv (.dct r.2.2))) σ->(∀t,PinOk K H O t->PinOk K H' O t)->Q k H'
theorem C6 {f i j:Nat} {n n1 n2:Str} {pn p1 p2:Pos} (hm0:T.mv f=some 1000) (hd:lG T cf X f n) (hg:Gl X n) (hdb:(n==("__debug__" : Str))=false) (hp:bA p=true) (hq:bA q=true)
 (h1:X.N[i]?=some n1/\Vis X.env.scope n1/\(n1==("__debug__" : Str))=false/\(n1==("__classdict__" : Str))=false) (h2:X.N[j]?=some n2/\Vis X.env.scope n2/\(n2==("__debug__" : Str))=false/\(n2==("__classdict__" : Str))=false)
 (hx:SE T cf X x p) (hy:SE T cf X y q) (H₀:Hp) (O₀:Addr->Prop) :
 PT X (.Call (.Name n pn) [p,.Name n1 p1,.Name n2 p2,q] [] pos) (tRf T cf X.K H₀ O₀ f x i j y):=by
 obtain⟨k,a,fd,ps,Fk,hr,hm,hk,hb⟩:=hd
 rw[uO hm0]at Fk
 have hA:=cK (hx H₀ O₀) (cK (fA (pos:=p1) h1.1 h1.2.1 h1.2.2.1 h1.2.2.2) (cK (fA (pos:=p2) h2.1 h2.2.1 h2.2.2.1 h2.2.2.2) (cK (hy H₀ O₀) dO (bE hq)))) (bE hp)
 refine PT.imp (λσ H Q hq=>?_) (AA (AC Fk hr hg hm hk hb .nil tX hA hdb (bE hp) (kC (by simp[hq];exact⟨rfl,rfl⟩))) λ_=>rfl)
 obtain⟨O,own,e,d1,g,h,d2,r,kk,F,ij,e1,e2,e3,e4,e5,e6,qk⟩:=hq
 obtain⟨pa,fa,ga,oa,na⟩:=F.giv e2
 obtain⟨pb,fb,gb,ob,nb⟩:=F.giv e3
 have ab:pa≠pb:=λz=>ij (F.inj i j pa fa (z▸fb))
 refine⟨O,own,e,d1,F,e1,λv1 H1 s1 r1 _=>⟨.ref pa,eB ga,.ref pb,eB gb,O,own,e,d2,F.grow s1,e4,λv4 H4 s4 r4 _=>?_⟩⟩
 have F4:=F.grow (s1.trans s4)
 refine⟨O,d1,d2,g,h,v1,v4,pa,pb,r.1,r.2.1,r.2.2,rfl,ab,⟨na.1,nb.1,F4.trk⟩,⟨r1.same s4,r4,oa.same (s1.trans s4),ob.same (s1.trans s4)⟩,GU e5 pa pb ab,λv H' sx rv oa' ob'=>⟨kk,mZ rv.rr e6,?_⟩⟩
 obtain⟨F',pin⟩:=F4.mut2 ij e2 e3 fa fb sx oa' ob'
 exact qk H' F' λt ht=>pin t (ht.same (s1.trans s4))
variable{ps qs:List Stmt}{cp:Expr}
theorem C7{f i j:Nat}{neg:Bool}{σ:L2.St}{H₀ H:Hp}{O₀:Addr->Prop}{D':Ends}{ts:List Pin}{e:Nv}{out:Out}{O:Addr->Prop}{own:Nat->Option Addr}(ij:i≠j)(F:Fm X.K H₀ O₀ H O own e σ)(tt:∀t∈ts,PinOk X.K H O t)(kx:Ends.to X.K H₀ O₀ ts D' out)
 (ev:(do
  let d1<-evE T cf x e
  let g<-(e.at i).givD
  let h<-(e.at j).givD
  let d2<-evE T cf y e
  let r<-fX cf f d1 g h d2
  let k<-r.1.truth
  let e1:=(e.set i ((e.at i).giv (.dct r.2.1))).set j ((e.at j).giv (.dct r.2.2))
  if(k != neg)then exS T cf a e1 else exS T cf b e1)=.ok out) :
 tRf T cf X.K H₀ O₀ f x i j y σ H λc H1=>if(c != neg)=true then tS T cf X.K H₀ O₀ a D' σ H1 else tS T cf X.K H₀ O₀ b D' σ H1:=by
 obtain⟨d1,e1,ev⟩:=Res.bind_ok ev
 obtain⟨g,e2,ev⟩:=Res.bind_ok ev
 obtain⟨h,e3,ev⟩:=Res.bind_ok ev
 obtain⟨d2,e4,ev⟩:=Res.bind_ok ev
 obtain⟨r,e5,ev⟩:=Res.bind_ok ev
 obtain⟨k,e6,ev⟩:=Res.bind_ok ev
 dsimp only at ev
 ·refine⟨O,own,e,d1,g,h,d2,r,k,F,ij,e1,e2,e3,e4,e5,e6,λH' F' pin=>?_⟩
  by_cases c:(k != neg)=true
  ·rw[if_pos c]at ev⊢
   exact⟨ts,_,out,⟨O,own,F',λt ht=>pin t (tt t ht)⟩,ev,kx⟩
  ·rw[if_neg c]at ev⊢
   exact⟨ts,_,out,⟨O,own,F',λt ht=>pin t (tt t ht)⟩,ev,kx⟩
theorem ss_ifN {f i j:Nat} {n n1 n2:Str} {pn p1 p2 pos' pos2:Pos} (hd:lG T cf X f n) (hg:Gl X n) (hdb:(n==("__debug__" : Str))=false) (hp:bA p=true) (hq:bA q=true)
 (h1:X.N[i]?=some n1/\Vis X.env.scope n1/\(n1==("__debug__" : Str))=false/\(n1==("__classdict__" : Str))=false) (h2:X.N[j]?=some n2/\Vis X.env.scope n2/\(n2==("__debug__" : Str))=false/\(n2==("__classdict__" : Str))=false)
 (hx:SE T cf X x p) (hy:SE T cf X y q) (ha:SB T cf X a ps) (hb:SB T cf X b qs) :
 SS T cf X (.ifR true c f x i j y a b) (.If (.UnaryOp .Not (.Call (.Name n pn) [p,.Name n1 p1,.Name n2 p2,q] [] pos') pos2) ps qs pos):=λH₀ O₀=>by
 by_cases hm0:T.mv f=some 1000
 rotate_left
 ·exact PS.imp (λD' σ H ⟨ts,e,out,F,ev,k⟩=>by
   rw[lC]at ev
   obtain⟨cc,_⟩:=aV ev
   rw[aH,decide_eq_true_eq]at cc
   exact hm0 cc.1) sX
 refine PS.imp (λD' σ H hq=>?_) (sW (zV (C6 hm0 hd hg hdb hp hq h1 h2 hx hy H₀ O₀)) (ha H₀ O₀) (hb H₀ O₀))
 obtain⟨ts,e,out,⟨O,own,F,tt⟩,ev,k⟩:=hq
 rw[lC]at ev
 obtain⟨cc,ev⟩:=aV ev
 rw[aH,decide_eq_true_eq,decide_eq_true_eq]at cc
 rw[if_pos rfl,Res.ok_bind,if_neg aU]at ev
 have:=C7 (X:=X) cc.2 F tt k ev
 have z:∀c:Bool,(c != true)=!c:=λc=>by cases c<;>rfl
 simp only[z]at this
 exact this
theorem ss_ifC {f i j:Nat} {n n1 n2:Str} {pn p1 p2 pos' pos2:Pos} (hd:lG T cf X f n) (hg:Gl X n) (hdb:(n==("__debug__" : Str))=false) (hp:bA p=true) (hq:bA q=true)
 (h1:X.N[i]?=some n1/\Vis X.env.scope n1/\(n1==("__debug__" : Str))=false/\(n1==("__classdict__" : Str))=false) (h2:X.N[j]?=some n2/\Vis X.env.scope n2/\(n2==("__debug__" : Str))=false/\(n2==("__classdict__" : Str))=false)
 (hc:ST T cf X c cp) (hx:SE T cf X x p) (hy:SE T cf X y q) (ha:SB T cf X a ps) (hb:SB T cf X b qs) :
 SS T cf X (.ifR false c f x i j y a b) (.If (.BoolOp .Or [cp,.Call (.Name n pn) [p,.Name n1 p1,.Name n2 p2,q] [] pos'] pos2) ps qs pos):=λH₀ O₀=>by
 by_cases hm0:T.mv f=some 1000
 rotate_left
 ·exact PS.imp (λD' σ H ⟨ts,e,out,F,ev,k⟩=>by
   rw[lC]at ev
   obtain⟨cc,_⟩:=aV ev
   rw[aH,decide_eq_true_eq]at cc
   exact hm0 cc.1) sX
 refine PS.imp (λD' σ H hq=>?_) (sW (zU (hc H₀ O₀) (zT (C6 hm0 hd hg hdb hp hq h1 h2 hx hy H₀ O₀))).pt (ha H₀ O₀) (hb H₀ O₀))
 obtain⟨ts,e,out,⟨O,own,F,tt⟩,ev,k⟩:=hq
 rw[lC]at ev
 obtain⟨cc,ev⟩:=aV ev
 rw[aH,decide_eq_true_eq,decide_eq_true_eq]at cc
 rw[if_neg aU]at ev
 obtain⟨k0,e0,ev⟩:=Res.bind_ok ev
 obtain⟨d0,e00,e0⟩:=Res.bind_ok e0
 refine⟨O,own,e,d0,k0,F,e00,e0,λH1 s1=>?_⟩
 cases k0 with
 |true=>
  rw[if_pos rfl]at ev⊢
  show(if true=true then _ else _)
  rw[if_pos rfl]
  exact⟨ts,e,out,⟨O,own,F.grow s1,λt ht=>(tt t ht).same s1⟩,ev,k⟩
 |false=>
  rw[if_neg aU]at ev⊢
  have:=C7 (X:=X) cc.2 (F.grow s1) (λt ht=>(tt t ht).same s1) k ev
  have z:∀c:Bool,(c != false)=c:=λc=>by cases c<;>rfl
  simp only[z]at this
  exact this
theorem JI {i:Nat} {n:Str} {px tpos:Pos} (hR:gA X) (hN:X.N[i]?=some n) (hv:Vis X.env.scope n) (hd:(n==("__debug__" : Str))=false) (hc:(n==("__classdict__" : Str))=false) (hx:eC p=true) (hk:SE T cf X y q) (h:SE T cf X x p) :
 SS T cf X (.dputR i y x) (.Assign [.Subscript (.Name n px) q tpos] p pos):=λH₀ O₀=>by
 have hR':X.A.units+64<cLine:=hR
 refine PS.imp (λD' σ H hq=>?_) (A0 (by lia) (fA hN hv hd hc) (hk H₀ O₀) (h H₀ O₀) (iV hx))
 obtain⟨ts,e,out,⟨O,own,F,tt⟩,ev,k⟩:=hq
 rw[GV]at ev
 obtain⟨d,e1,ev⟩:=Res.bind_ok ev
 obtain⟨l,e2,ev⟩:=Res.bind_ok ev
 obtain⟨dk,e3,ev⟩:=Res.bind_ok ev
 obtain⟨key,e4,ev⟩:=Res.bind_ok ev
 obtain⟨c,ev⟩:=aV ev
 cases ev
 have eg:(e.at i).givD=.ok l.2:=by rw[Sl.refD_ok e2];rfl
 obtain⟨q1,f0,g1,g2,g4⟩:=F.giv eg
 refine⟨O,own,e,d,F,e1,λv H1 s1 r1 _=>?_⟩
 refine⟨.ref q1,eB g1,O,own,e,dk,F.grow s1,e3,λvk H2 s2 r2 _=>?_⟩
 have ex:=lE (gB e4) r2.rr
 subst ex
 have F2:=(F.grow s1).grow s2
 obtain⟨xs2,f2,f3⟩:=(g2.same s1).same s2
 refine⟨q1,_,rfl,DPut.k f2 (by rw[f3.length,<-fN];exact of_decide_eq_true c),?_⟩
 have Fn:=F2.mutG eg f0 (d':=.dct (dQ l.2 key d)) (o':=.dK _) ⟨_,bS,(BX (r1.same s2) f3).updM g4.1 f2 trivial⟩
 have eq:(e.at i).giv (.dct (dQ l.2 key d))=.r l.1 (.dct (dQ l.2 key d)):=by rw[Sl.refD_ok e2];rfl
 rw[eq]at Fn
 exact k _ _ ⟨O,own,Fn,λt ht=>(((tt t ht).same s1).same s2).updM g4.1 f2 trivial⟩
theorem JJ{i j:Nat}(h:SE T cf X x p):SS T cf X (.retR x i j) (.Return (some p) pos):=λH₀ O₀=>by
 refine PS.imp (λD' σ H hq=>?_) (oD (h H₀ O₀))
 obtain⟨ts,e,out,⟨O,own,F,tt⟩,ev,k⟩:=hq
 rw[GW]at ev
 obtain⟨d,e1,ev⟩:=Res.bind_ok ev
 obtain⟨l,e2,ev⟩:=Res.bind_ok ev
 obtain⟨m,e3,ev⟩:=Res.bind_ok ev
 cases ev
 have q1:=F.sl i
 rw[Sl.refD_ok e2]at q1
 have q2:=F.sl j
 rw[Sl.refD_ok e3]at q2
 have w:∀c,(O₀ c\/c=l.1\/c=m.1)->O c:=λc hc=>by
  rcases hc with z|z|z
  ·exact F.sub c z
  ·rw[z];exact(F.new i _ q1.1).1
  ·rw[z];exact(F.new j _ q2.1).1
 exact⟨O,own,e,d,F,e1,λv H' s' r n=>k v H' (F.same.trans s') (r.weak w) ((q1.2.2.same s').weak w) ((q2.2.2.same s').weak w)⟩
theorem JK {i j:Nat} {n nm m:Str} {px pm apos cpos:Pos} (hN:X.N[i]?=some n) (hv:Vis X.env.scope n) (hd:(n==("__debug__" : Str))=false) (hc:(n==("__classdict__" : Str))=false) (hnm:nm = "extend") (hline:(apos.endLine==cpos.line)=true)
 (h2:X.N[j]?=some m/\Vis X.env.scope m/\(m==("__debug__" : Str))=false/\(m==("__classdict__" : Str))=false) :
 SS T cf X (.extN i j) (.Expr (.Call (.Attribute (.Name n px) nm apos) [.Name m pm] [] cpos) pos):=λH₀ O₀=>by
 subst hnm
 refine PS.imp (λD' σ H hq=>?_) (lX (oI PySem.F.plainAttrs_list PySem.F.slot_list_extend PySem.F.type_list_extend AS (fA hN hv hd hc) (cK (fA (pos:=pm) h2.1 h2.2.1 h2.2.2.1 h2.2.2.2) dO) rfl rfl hline rfl rfl) rfl)
 obtain⟨ts,e,out,⟨O,own,F,tt⟩,ev,k⟩:=hq
 rw[Ah]at ev
 split at ev
 ·rename_i b hj
  obtain⟨l,e2,ev⟩:=Res.bind_ok ev
  obtain⟨c,ev⟩:=aV ev
  cases ev
  obtain⟨q0,xs0,f1,f2,f3,f4,f5⟩:=F.mut i (Sl.own_ok e2)
  have q:=F.sl j
  rw[hj]at q
  obtain⟨v,g1,g2⟩:=q
  rcases g2 with⟨z,_⟩|⟨ds,p,zs,w1,w2,rfl,w4,w5,w6⟩
  ·cases z
  ·cases w1
   refine⟨.ref q0,eB f1,.inl ⟨rfl,xs0,.of f2⟩,.ref p,eB g1,?_⟩
   refine⟨q0,p,xs0,zs,rfl,rfl,f2,w4,by rw[f3.length,w6.length,<-fN];exact of_decide_eq_true c,?_⟩
   exact k _ _ ⟨O,own,f5 _ _ (f3.append w6),λt ht=>(tt t ht).upd f4 f2⟩
 ·cases ev
end
theorem JL{xs:List (Key×Value)}{k:Key}{u:Value}:(stored xs k u).length<=xs.length+1:=by
 unfold stored
 split
 ·rw[aF];exact jG _
 ·rw[bR];exact aN _
noncomputable def PairK(h:Heap)(x:Addr)(q:Key×Value×Value):Prop:=
 (∃o n,h.get? x=some o/\o.cls=.type "tuple" /\ o.data=.seq #[q.2.1,q.2.2] n)/\hJ q.1 q.2.1=true
theorem PairK.keeps{h h':Heap}{x:Addr}{q:Key×Value×Value}(p:PairK h x q)(k0:∀o,h.get? x=some o->h'.get? x=some o):PairK h' x q:=by
 obtain⟨⟨o,n,e1,e2,e3⟩,e4⟩:=p
 exact⟨⟨o,n,k0 _ e1,e2,e3⟩,e4⟩
section
variable{prog:Program}{w:World}
theorem pQ{h h':Heap}{d:Addr}{xs:List (Key×Value)}(hd:h.DictOf (aY prog w) d xs)(k0:∀o,h.get? d=some o->h'.get? d=some o):h'.DictOf (aY prog w) d xs:=by
 obtain⟨o,es,ep,ho,r⟩:=hd
 exact⟨o,es,ep,k0 o ho,r⟩
variable{A:Around}{R:Result->Shared->Prop}{I:Addr}{fp wr:List Addr}{G:Array GenState->Array GenState->Prop}{n:Nat}{P:Nat->Value->Prop}{St:Nat->Shared->Prop}
theorem JM(W:WalksS prog w A.in1 I fp wr G n P St)(d:Addr)(hdf:d∉fp)(val:Nat->Key×Value×Value)(hu:A.in1.units<cLine) :
 ∀(k i:Nat)(s:Shared)(xs:List (Key×Value)),n-i=k->i<=n->St i s->xs.length+k<=sizeLine ->
  (∀i v,i<n->P i v->∃x,v=.ref x/\(x≠d/\x∉wr)/\PairK s.heap x (val i)) ->
  s.heap.DictOf (aY prog w) d xs ->
  (∀s',Moved (d::wr) G s s'->s'.heap.DictOf (aY prog w) d ((dG i k).foldl (λxs j=>stored xs (val j).1 (val j).2.2) xs)->R (.ok (.ret .none)) s') ->
  codeAny (model prog w) A (.builtin "dict.update.loop" ⟨[.ref d,.ref I,rawInt (i:Nat),.none],[]⟩) R s:=by
 have hdw:d∉wr:=λh=>hdf (W.sub _ h)
 have hsub:∀b∈wr,b∈d::wr:=λb hb=>bB _ hb
 intro k
 induction k with
 |zero=>
  intro i s xs hk hi hst hz hT hD hR
  have hin:i=n:=by lia
  subst hin
  refine codeAny_builtin C0 ?_
  rw[Around.under_plainId pP _]
  show wpAny _ A.in1 (pyNext (.ref I)>>=_) _ _ s
  refine wpAny_bind (W.done s _ _ hst λs' hm=>?_)
  show wpAny _ A.in1 (Builtin.Dict.addKeywords d []>>=_) _ _ s'
  exact wpAny_bind (wpAny_pure (wpAny_pure (hR s' (hm.mono hsub) (pQ hD λo e=>hm.heap d o hdw e))))
 |succ k ih=>
  intro i s xs hk hi hst hz hT hD hR
  have hlt:i<n:=by lia
  refine codeAny_builtin C0 ?_
  rw[Around.under_plainId pP _]
  show wpAny _ A.in1 (pyNext (.ref I)>>=_) _ _ s
  refine wpAny_bind (W.item i s _ _ hlt hst λv s' hP hst' hm=>?_)
  have hT':∀i v,i<n->P i v->∃x,v=.ref x/\(x≠d/\x∉wr)/\PairK s'.heap x (val i):=λi v hi hv=>by
   obtain⟨x,e1,e2,e4⟩:=hT i v hi hv
   exact⟨x,e1,e2,e4.keeps λo e=>hm.heap x o e2.2 e⟩
  obtain⟨x,rfl,hxd,⟨ox,nx,ex,cx,dx⟩,hkx⟩:=hT' i v hlt hP
  have hD':s'.heap.DictOf (aY prog w) d xs:=pQ hD λo e=>hm.heap d o hdw e
  show wpAny _ A.in1 (holding [.ref x] _>>=_) _ _ s'
  have tx:s'.TypeIs (.ref x) "tuple" := ⟨ox,ex,cx⟩
  refine wpAny_bind (wpAny_holding ?_)
  refine wpAny_bind (wpAny_tryCatch ?_)
  unfold Builtin.Dict.pairItems
  refine wpAny_bind (wpAny_typeOf tx ?_)
  rw[if_pos (by decide)]
  refine wpAny_bind (wpAny_seqItems ex dx (wpAny_pure ?_))
  show wpAny _ A.in1 (holding [(val i).2.1,(val i).2.2] (dictSet d (val i).2.1 (val i).2.2)) _ _ s'
  refine wpAny_holding ?_
  refine wpAny_dictSet_pairs (knd:=aY prog w) (hsz:=by lia) hkx hD' λh' hD2 hsb=>?_
  show wpAny _ A.in1 (again (.builtin "dict.update.loop" ⟨[.ref d,.ref I,rawInt ((i:Int)+1),.none],[]⟩)) _ _ _
  refine wpAny_pure ⟨plainId_quiet pP _,?_⟩
  have hsame:∀b o,b≠d->s'.heap.get? b=some o->h'.get? b=some o:=λb o hb e=>(hsb.2 b hb).trans e
  refine ih (i+1) _ (stored xs (val i).1 (val i).2.2) (by lia) hlt (W.frame _ s' _ _ hst' (Ep _ _) λb hb o e=>?_) (by have:=JL (xs:=xs) (k:=(val i).1) (u:=(val i).2.2);lia) (λi v hi hv=>?_) hD2 λs'' hm'' hD''=>?_
  ·exact hsame b o (λh:b=d=>hdf (by rw[<-h];exact hb)) e
  ·obtain⟨x,e1,e2,e4⟩:=hT' i v hi hv
   exact⟨x,e1,e2,e4.keeps λo e=>hsame x o e2.1 e⟩
  ·refine hR s'' (Moved.trans W.gtrans ((hm.mono hsub).then_heap (Ep _ _) λb o hb e=>?_) hm'') ?_
   ·exact hsame b o (λh:b=d=>hb (by rw[h];exact bF)) e
   ·rw[Es,nZ];exact hD''
end
section
variable{prog:Program}{w:World}{A:Around}{E:Value->Shared->Prop}{s:Shared}
theorem JN{l:Addr}{its:Array Value}{nl:Nat}{val:Nat->Key×Value×Value}{Q:Value->Shared->Prop}(hh:A.handled=none)(hu:A.units+8<cLine)
 {ol:Obj} (hl:s.heap.get? l=some ol) (hlc:ol.cls=.type "list") (hld:ol.dict=none) (hls:ol.data=.seq its nl) (hz:its.size<=sizeLine) (hval:∀i v,its[i]?=some v->∃x,v=.ref x/\PairK s.heap x (val i))
 (h:∀(h':Heap)(tk:Nat),h'.DictOf (aY prog w) s.heap.objs.size ((dG 0 its.size).foldl (λxs j=>stored xs (val j).1 (val j).2.2) []) ->
  (∀b o,b<s.heap.objs.size->s.heap.get? b=some o->h'.get? b=some o)->Q (.ref s.heap.objs.size) {s with heap:=h',toks:=tk}) :
 wpAny (model prog w) A (call (.type "dict") [.ref l]) Q E s:=by
 refine callType_codes (Q₁:=λobj s₁=>obj=.ref s.heap.objs.size/\s₁={s with heap:=s.heap.push {cls:=.type "dict", data:=.dict #[] } }) F.kt_called_dict (F.kt_typeCall_dict_1 _) F.entry_dict_init (kt_code_dict_new _ ⟨rfl,rfl⟩) ?_
 rintro obj s₁ ⟨rfl,rfl⟩
 have hnew:(s.heap.push {cls:=.type "dict", data:=.dict #[] }).DictOf (aY prog w) s.heap.objs.size []:=Heap.DictOf.new s.heap
 have hty:({s with heap:=s.heap.push {cls:=.type "dict", data:=.dict #[] } }:Shared).TypeIs (.ref s.heap.objs.size) "dict" := Heap.DictOf.typeIs hnew
 refine⟨hty,F.args_dict_init_2 _ _,?_⟩
 generalize hpu:s.heap.push {cls:=.type "dict", data:=.dict #[] }=hp1 at *
 have hz1:hp1.objs.size=s.heap.objs.size+1:=by rw[<-hpu];exact Heap.size_push ..
 have hold:∀b o,s.heap.get? b=some o->hp1.get? b=some o:=λb o e=>by rw[<-hpu];exact Heap.get?_push_of_some _ e
 have hlS:l<s.heap.objs.size:=Heap.lt_size hl
 have hl1:=hold _ _ hl
 unfold Builtin.«dict.__init__»
 refine wpAny_bind ?_
 unfold Builtin.Dict.selfAndRest
 refine wpAny_bind (wpAny_notOrdered_dict hty ?_)
 show wpAny _ _ (pure (s.heap.objs.size,[Value.ref l])) _ _ _
 refine wpAny_pure ?_
 show wpAny _ _ (Builtin.Dict.updateFrom "dict.__init__" s.heap.objs.size (.ref l) [] .none) _ _ _
 unfold Builtin.Dict.updateFrom
 refine wpAny_bind (wpAny_typeOf (T := "list") ⟨_,hl1,hlc⟩ ?_)
 rw[if_pos (by decide)]
 have hh2:A.in1.in1.handled=none:=by simp[hh]
 refine wpAny_bind (JC hl1 hlc hls hld hh2 λh2 tk2 e2 hx2=>?_)
 rw[if_pos (by rfl)]
 have hl2:h2.IsList l its:=⟨_,hx2.keeps _ _ hl1,hlc,nl,hls⟩
 have hD2:h2.DictOf (aY prog w) s.heap.objs.size []:=pQ hnew λo e=>hx2.keeps _ _ e
 have hdz:s.heap.objs.size<h2.objs.size:=by
  obtain⟨o,_,_,ho,_⟩:=hD2
  exact Heap.lt_size ho
 refine wpAny_bind (wpAny_rule ?_)
 refine wpAny_bind (wpAny_pyIter_list hl2 ?_)
 refine wpAny_pure ⟨plainId_quiet pP _,?_⟩
 have hh3:A.in1.in1.handled=none:=by simp[hh]
 have hu3:A.in1.in1.units<cLine:=by show A.units+1+1<cLine;lia
 have hneI:l≠h2.objs.size:=aT (kR hlS hdz)
 refine JM ((Walks.list hh3 _ l hneI its).toS) s.heap.objs.size (by simp only[aO,bX,fH,or_false,not_or];exact⟨aT hdz,iK hlS⟩) val hu3 its.size 0 _ [] (by lia) (eM _) ⟨⟨_,Heap.get?_push_size _ rfl,rfl,rfl⟩,(hl2.push _)⟩ (by simpa using hz) (λi v _ hv=>?_) (pQ hD2 λo e=>Heap.get?_push_of_some _ e) λs' hm hD'=>?_
 ·obtain⟨x,rfl,px⟩:=hval i v hv
  have hlx:x<s.heap.objs.size:=let ⟨⟨_,_,e,_⟩,_⟩:=px;Heap.lt_size e
  refine⟨x,rfl,⟨aT hlx,?_⟩,px.keeps λo e=>Heap.get?_push_of_some _ (hx2.keeps _ _ (hold _ _ e))⟩
  simp only[aO,bX,fH,or_false,not_or];exact aT (kR hlx hdz)
 ·obtain⟨h',g',d',tk',os'⟩:=s'
  have eg:g'=s.gens:=hm.gens
  have ed:d'=s.drawn:=hm.drawn
  have eo:os'=s.os:=hm.os
  subst eg;subst ed;subst eo
  refine⟨rfl,h h' tk' hD' λb o hb e=>?_⟩
  exact hm.heap b o (by simp only[aO,bX,fH,or_false,not_or];exact⟨aT hb,aT (kR hb hdz)⟩) (Heap.get?_push_of_some _ (hx2.keeps _ _ (hold _ _ e)))
end
noncomputable def pR(K:PySem.W.Frag)(H:Hp):List Addr->List (Key×V)->Prop
 |[],qs=>qs=[]
 |a::r,qs=>∃k y q,qs=(k,y)::q/\SqT K H a [kV k,y]/\pR K H r q
noncomputable def iE(qs:List (Key×V))(kvs:List (Key×V)):List (Key×V):=qs.foldl (λm q=>cX m q.1 q.2) kvs
theorem JO{kvs:List (Key×V)}{k:Key}{v:V}:(cX kvs k v).length<=kvs.length+1:=by
 unfold cX
 split
 ·rw[aF];exact jG _
 ·rw[bR];exact aN _
theorem C8:∀{qs:List (Key×V)} {kvs:List (Key×V)},(iE qs kvs).length<=kvs.length+qs.length
 |[],kvs=>aN _
 |q::r,kvs=>by
  have h1:=C8 (qs:=r) (kvs:=cX kvs q.1 q.2)
  have h2:=JO (kvs:=kvs) (k:=q.1) (v:=q.2)
  rw[aP]
  exact bV h1 (by lia)
theorem kV_is{k:Key}{u:Value}(h:RelV (kV k) u):hJ k u=true:=by
 cases k with
 |inl i=>obtain⟨t,rfl⟩:=h;exact zN i t
 |inr x=>obtain⟨t,rfl⟩:=h;exact zO x t
theorem C9{X:Cx}{pins:List (Addr×Obj)}{σ:L2.St}{H:Hp}{s:Shared}(I:Inv X pins σ H s):∀{as:List Addr} {qs:List (Key×V)},pR X.K H as qs ->
 ∃vs:List (Key×Value×Value),vs.length=as.length/\qs.length=as.length/\(∀(i:Nat)(a:Addr),as[i]?=some a->∃q,vs[i]?=some q/\PairK s.heap a q) /\
  ∀{kvs:List (Key×V)} {xs:List (Key×Value)},KV kvs xs->KV (iE qs kvs) (vs.foldl (λxs q=>stored xs q.1 q.2.2) xs)
 |[],qs,h=>by
  cases h
  exact⟨[],rfl,rfl,λi a e=>by simp at e,λr=>r⟩
 |a::r,qs,h=>by
  obtain⟨k,y,q,rfl,ht,hr⟩:=h
  obtain⟨vs,l1,l2,h1,h2⟩:=C9 I hr
  obtain⟨its,rv,⟨o,e,hc,n,d⟩,_⟩:=I.tuple ht
  cases rv with
  | @cons _ u0 _ _ r1 rv=>
   cases rv with
   | @cons _ u _ _ r2 rv=>
    cases rv
    refine⟨(k,u0,u)::vs,by rw[aP,aP,l1],by rw[aP,aP,l2],λi a' e'=>?_,λrk=>?_⟩
    ·cases i with
     |zero=>
      cases e'
      exact⟨_,rfl,⟨o,n,e,hc,d⟩,kV_is r1⟩
     |succ i=>exact h1 i a' e'
    ·exact h2 (rk.put k r2)
theorem JP {X:Cx} (hc:X.calm=true) (hr:X.A.units+64<cLine):dH X (.type "dict") (λvs H Q=>∃a as qs,vs=[.ref a]/\SqL X.K H a (as.map V.ref)/\pR X.K H as qs/\∀p o,H p=none->Q (.ref p) (upd H p (.frz o (.dK (iE qs []))))):=by
 intro pins s σ H vs us Q I rv h
 obtain⟨a,as,qs,rfl,hS,hP,q⟩:=h
 obtain⟨u,rfl,ru⟩:=rv.one
 cases ru
 obtain⟨its,r,⟨ol,nl,e1,e2,e3,e4⟩,hz⟩:=I.list hS
 have hits:=BI r
 subst hits
 obtain⟨xs,l1,l2,h1,h2⟩:=C9 I hP
 rw[aF]at hz
 refine JN (val:=λi=>xs.getD i (.inl 0,.none,.none)) (I.ok.hd hc) (by lia) e1 e2 e3 e4 (by rw[bP,aF];exact hz) (λi v hv=>?_) λh' tk hD hkeep=>?_
 ·have hv':(as.map Value.ref)[i]?=some v:=by simpa using hv
  rw[bK]at hv'
  cases e:as[i]? with
  |none=>rw[e]at hv';cases hv'
  |some x=>
   rw[e]at hv'
   cases hv'
   obtain⟨q,g1,g2⟩:=h1 i x e
   exact⟨x,rfl,by show PairK _ _ (xs.getD i (.inl 0,.none,.none));rw[eU,g1];exact g2⟩
 ·have fr:H s.heap.objs.size=none:=I.hok.fresh (aN _)
  rw[show(zH Value.ref as).toArray.size=xs.length from by rw[bP,aF,l1],JD (λxs q=>stored xs q.1 q.2.2) (.inl 0,.none,.none) xs []]at hD
  have I1:Inv X pins σ (upd H s.heap.objs.size (.dK (iE qs []))) {s with heap:=h',toks:=tk}:=
   I.laid (λb o e=>hkeep b o (Heap.lt_size e) e) (aN _) ⟨bV C8 (by rw[l2,gX,lW];exact hz),beq_eq_false_iff_ne.mpr (Ne.symm (aT I.big)),_,h2 .nil,hD⟩
  obtain⟨o,_,_,_,I2⟩:=BJ I1 bS
  rw[show L2.upd (L2.upd H s.heap.objs.size (.dK (iE qs []))) s.heap.objs.size (.frz o (.dK (iE qs [])))=L2.upd H s.heap.objs.size (.frz o (.dK (iE qs [])))from Ex]at I2
  exact⟨.ref s.heap.objs.size,_,I2,rfl,q _ o fr⟩
section
variable{T:Tab}{cf:Nat->List D->Res D}{X:Cx}{x:E}{p:Expr}{pos:Pos}
theorem C_{K:PySem.W.Frag}{H:Hp}{O:Addr->Prop}:∀{ds:List D} {qs:List (Sum Int Str×D)} {xs:List V},iC ds=.ok qs->RDs K H O ds xs->∃(as:List Addr)(ys:List (Key×V)),xs=as.map V.ref/\pR K H as ys/\RDk K H O qs ys
 |[],qs,xs,h,w=>by
  rw[iC]at h;cases h
  rw[RDs]at w;subst w
  exact⟨[],[],rfl,rfl,rfl⟩
 |d::r,qs,xs,h,w=>by
  unfold iC at h
  split at h
  ·rename_i e;cases e
  ·rename_i kd v r' e
   cases e
   obtain⟨key,e3,h⟩:=Res.bind_ok h
   obtain⟨q,e4,h⟩:=Res.bind_ok h
   cases h
   obtain⟨u,us,rfl,w1,w2⟩:=w
   obtain⟨as,ys,rfl,p1,p2⟩:=C_ e4 w2
   obtain⟨a,zs,rfl,tq,z1,zr,rfl,rk,z2,zs2,rfl,rv,e5⟩:=w1
   cases (show zs2=[]from e5)
   have ek:=lE (gB e3) (RD.rr rk)
   subst ek
   exact⟨a::as,(key,z2)::ys,rfl,⟨key,z2,ys,rfl,TupV.sq tq,p1⟩,z2,ys,rfl,rv,p2⟩
  ·cases h
theorem Ca{K:PySem.W.Frag}{H:Hp}{O:Addr->Prop}:∀{qs:List (Sum Int Str×D)} {ys:List (Key×V)} {ds:List (Sum Int Str×D)} {ps:List (Key×V)},RDk K H O qs ys->RDk K H O ds ps->RDk K H O (eR qs ds) (iE ys ps)
 |[],ys,ds,ps,h,w=>by rw[RDk]at h;subst h;exact w
 |(k,d)::qs,ys,ds,ps,h,w=>by
  obtain⟨v,r,rfl,h1,h2⟩:=h
  show RDk K H O (eR qs (dQ ds k d)) (iE r (cX ps k v))
  exact Ca h2 (BX h1 w)
theorem se_dck {pn:Pos} (hh:X.calm=true) (hR:gA X) (hm1:X.mg "dict" = none) (hg1:Gl X "dict") (hp:bA p=true) (ha:SE T cf X x p):SE T cf X (.dck x) (.Call (.Name "dict" pn) [p] [] pos):=λH₀ O₀=>by
 refine PE.imp (λσ H Q hq=>?_) (mC (JP hh hR) hg1 hm1 (by decide +kernel) (cK (ha H₀ O₀) dO (bE hp)) (by decide) (by decide) (bE hp) rfl)
 obtain⟨O,own,e,d,F,ev,k⟩:=hq
 (first|rw[xE_dck]at ev|rw[iS]at ev)
 obtain⟨d1,e1,ev1⟩:=Res.bind_ok ev
 refine⟨O,own,e,d1,F,e1,λv1 H1 s1 r1 _=>?_⟩
 cases d1 with
 |lst ds=>
  obtain⟨qs,e2,ev2⟩:=Res.bind_ok (show(iC ds>>=_)=Res.ok d from ev1)
  cases ev2
  obtain⟨a,xs,rfl,q1,w1⟩:=(RD.rr r1).lst
  obtain⟨as,ys,rfl,p1,p2⟩:=C_ e2 w1
  refine⟨a,as,ys,rfl,q1,p1,λp o hn=>?_⟩
  have s2:=bU hn (.frz o (.dK (iE ys [])))
  exact k _ _ (s1.trans s2) ⟨p,_,rfl,⟨o,bS⟩,(Ca (ds:=[]) (ps:=[]) p2 rfl).same s2⟩ (λz=>by cases z)
 |_=>cases ev1
end
set_option genInjectivity false in
structure Txt where
 gn:List Str
 dn:List Str
 tf:List (Str×List Nat):=[]
 ts:List (Str×List Str):=[]
 cls:List Str:=[]
 icl:List Str:=[]
 dm:List (Nat×Str):=[]
noncomputable def gR{α:Type}[BEq α]:List α->Bool
 |[]=>true
 |a::r=>!r.contains a&&gR r
theorem pS{α:Type}[BEq α][LawfulBEq α]:∀{l:List α},gR l=true->l.Nodup
 |[],_=>iN
 |a::r,h=>by
  rw[gR,aH]at h
  refine eK.mpr ⟨λm=>?_,pS h.2⟩
  have:r.contains a=true:=jQ.mpr m
  rw[this]at h
  exact absurd h.1 (by simp)
noncomputable def aI:E->Bool
 |.rd _=>true
 |_=>false
noncomputable def visB(sc:Scope)(n:Str):Bool:=(sc.names.lookup n==some .local)||(sc.names.lookup n==some .cell)||(sc.names.lookup n==some .free)
noncomputable def glB(sc:Scope)(n:Str):Bool:=sc.names.lookup n==some .globalImplicit
noncomputable def iF (n:Str):Bool:=!(n==("__debug__" : Str))&&!(n==("__classdict__" : Str))
noncomputable def cT(N:List Str)(sc:Scope)(i:Nat)(n:Str):Bool:=(N[i]?==some n)&&visB sc n&&iF n
noncomputable def iX(scope sc:Scope):Scope:={scope with names:=scope.names.map λ(n,k)=>if(k==.free&&sc.kind==.function&&sc.names.lookup n==some .cell)then(n,.cell)else(n,k) }
noncomputable def cU:Expr->List Str
 |.Name n _=>[n]
 |.Tuple es _ _=>es.filterMap λ| .Name n _=>some n|_=>none
 |_=>[]
noncomputable def mGs(loc:Bool)(N:List Str)(sc:Scope):List Nat->List Expr->Bool
 |[],[]=>true
 |i::is,.Name n _::es=>(N[i]?==some n)&&((sc.names.lookup n==some .local)||(!loc&&sc.names.lookup n==some .cell))&&mGs loc N sc is es
 |_,_=>false
noncomputable def mG(loc:Bool)(N:List Str)(sc:Scope):G->Expr->Bool
 |.one i,.Name n _=>(N[i]?==some n)&&((sc.names.lookup n==some .local)||(!loc&&sc.names.lookup n==some .cell))
 |.many is,.Tuple es _ _=>mGs loc N sc is es
 |_,_=>false
noncomputable def scB(sc scope:Scope):Bool:=(scope.kind==.function)&&scope.names.all (λx=>!(x.2==.cell))&&scope.names.all (λx=>!(x.2==.local)||(scope.names.lookup x.1==some .local)) &&
 scope.names.all (λx=>!(x.2==.free)||(!(scope.names.lookup x.1==some .local)&&((sc.names.lookup x.1==some .cell)||(sc.names.lookup x.1==some .free))))
noncomputable def cV (N:List Str) (caps:List Nat):List Str:=caps.map λi=>(N[i]?).getD ""
noncomputable def nF(N:List Str)(scope:Scope)(caps:List Nat):Bool:=caps.all λi=>match N[i]? with|some n=>scope.names.contains (n,.free)|none=>false
noncomputable def pT:E->Bool
 |.con (.bl true)=>true
 |_=>false
noncomputable def iG:E->Bool
 |.omit=>true
 |_=>false
noncomputable def uT:Expr->Bool
 |.Tuple _ _ _=>true
 |_=>false
noncomputable def vC(G:Str->List Expr->Bool):Expr->Bool
 |.Call (.Name n _) es [] _=>G n es
 |_=>false
noncomputable def v1(G:Expr->Bool):List Expr->Bool
 |[q]=>G q
 |_=>false
noncomputable def vL(G:List Expr->Bool):List Expr->Bool
 |[]=>false
 |e::es=>G (e::es)
theorem gC{G:Str->List Expr->Bool}{p:Expr}(h:vC G p=true):∃n pn es pos,p=.Call (.Name n pn) es [] pos/\G n es=true:=by
 cases p with
 |Call fn es ks pos=>
  cases fn with
  |Name n pn=>cases ks with
   |nil=>exact⟨n,pn,es,pos,rfl,h⟩
   |cons _ _=>exact absurd h aU
  |_=>exact absurd h aU
 |_=>exact absurd h aU
theorem gD{G:Expr->Bool}{l:List Expr}(h:v1 G l=true):∃q,l=[q]/\G q=true:=by
 rcases l with _|⟨q,_|⟨q',es⟩⟩
 ·exact absurd h aU
 ·exact⟨q,rfl,h⟩
 ·exact absurd h aU
theorem vL_of{G:List Expr->Bool}{l:List Expr}(h:vL G l=true):∃e es,l=e::es/\G (e::es)=true:=by
 cases l with
 |nil=>exact absurd h aU
 |cons e es=>exact⟨e,es,rfl,h⟩
noncomputable def vP(G:Expr->Expr->Bool):List Expr->Bool
 |[q,r]=>G q r
 |_=>false
theorem Cb{G:Expr->Expr->Bool}{l:List Expr}(h:vP G l=true):∃q r,l=[q,r]/\G q r=true:=by
 rcases l with _|⟨q,_|⟨r,_|⟨q',es⟩⟩⟩
 ·exact absurd h aU
 ·exact absurd h aU
 ·exact⟨q,r,rfl,h⟩
 ·exact absurd h aU
noncomputable def v2(G:Str->Str->Expr->Bool):Expr->Bool:=vC λn=>v1 (vC λm=>v1 (G n m))
theorem Cc{G:Str->Str->Expr->Bool}{p:Expr}(h:v2 G p=true):∃n pn m pm q pos2 pos,p=.Call (.Name n pn) [.Call (.Name m pm) [q] [] pos2] [] pos/\G n m q=true:=by
 obtain⟨n,pn,es,pos,rfl,g1⟩:=gC h
 obtain⟨c,rfl,g2⟩:=gD g1
 obtain⟨m,pm,es2,pos2,rfl,g3⟩:=gC g2
 obtain⟨q,rfl,g4⟩:=gD g3
 exact⟨n,pn,m,pm,q,pos2,pos,rfl,g4⟩
noncomputable def vM(G:Str->Str->Pos->Pos->List Expr->Bool):Stmt->Bool
 |.Expr (.Call (.Attribute (.Name n _) nm apos) es [] cpos) _=>G n nm apos cpos es
 |_=>false
theorem pU{G:Str->Str->Pos->Pos->List Expr->Bool}{p:Stmt}(h:vM G p=true):∃n px nm apos es cpos pos,p=.Expr (.Call (.Attribute (.Name n px) nm apos) es [] cpos) pos/\G n nm apos cpos es=true:=by
 cases p with
 |Expr v pos=>cases v with
  |Call f es ks cpos=>cases f with
   |Attribute o nm apos=>cases o with
    |Name n px=>cases ks with
     |nil=>exact⟨n,px,nm,apos,es,cpos,pos,rfl,h⟩
     |cons _ _=>exact absurd h aU
    |_=>exact absurd h aU
   |_=>exact absurd h aU
  |_=>exact absurd h aU
 |_=>exact absurd h aU
noncomputable def vA(G:Expr->Expr->Bool):Stmt->Bool
 |.Assign tgs v _=>v1 (λtg=>G tg v) tgs
 |_=>false
theorem pV{G:Expr->Expr->Bool}{p:Stmt}(h:vA G p=true):∃tg v pos,p=.Assign [tg] v pos/\G tg v=true:=by
 cases p with
 |Assign tgs v pos=>
  obtain⟨tg,rfl,h⟩:=gD h
  exact⟨tg,v,pos,rfl,h⟩
 |_=>exact absurd h aU
noncomputable def vX(G:Str->Expr->Bool):Expr->Bool
 |.Subscript (.Name n _) q _=>G n q
 |_=>false
theorem Cd{G:Str->Expr->Bool}{p:Expr}(h:vX G p=true):∃n px q pos,p=.Subscript (.Name n px) q pos/\G n q=true:=by
 cases p with
 |Subscript o q pos=>cases o with
  |Name n px=>exact⟨n,px,q,pos,rfl,h⟩
  |_=>exact absurd h aU
 |_=>exact absurd h aU
noncomputable def vN(G:Str->Pos->Bool):Expr->Bool
 |.Name n pn=>G n pn
 |_=>false
theorem pW{G:Str->Pos->Bool}{p:Expr}(h:vN G p=true):∃n pn,p=.Name n pn/\G n pn=true:=by
 cases p with
 |Name n pn=>exact⟨n,pn,rfl,h⟩
 |_=>exact absurd h aU
noncomputable def vD:Expr->Bool
 |.Dict [] [] _=>true
 |_=>false
theorem Ce{p:Expr}(h:vD p=true):∃pos,p=.Dict [] [] pos:=by
 cases p with
 |Dict ks vs pos=>cases ks with
  |nil=>cases vs with
   |nil=>exact⟨pos,rfl⟩
   |cons _ _=>exact absurd h aU
  |cons _ _=>exact absurd h aU
 |_=>exact absurd h aU
section
variable(Tx:Txt)
mutual
noncomputable def mE:E->List Str->Scope->Expr->Bool
 |.var i,N,sc,.Name n _=>cT N sc i n
 |.rd i,N,sc,.Name n _=>cT N sc i n
 |.con d,_,_,.Constant c _ _=>tY d c
 |.glob g,_,sc,.Name n _=>(Tx.gn[g]?==some n)&&glB sc n&&iF n
 |.bin o a b,N,sc,.BinOp l o' r _=>(o==o')&&mE a N sc l&&mE b N sc r
 |.cmp o a b,N,sc,.Compare l [o'] [r] _=>(o==o')&&mE a N sc l&&mE b N sc r
 |.neg a,N,sc,.UnaryOp .USub l _=>mE a N sc l
 |.and a b,N,sc,.BoolOp .And [l,r] _=>!aI a&&!aI b&&mE a N sc l&&mE b N sc r
 |.and a b,N,sc,.BoolOp .And (l::r::r'::rest) pos=>!aI a&&!aI b&&mE a N sc l&&mE b N sc (.BoolOp .And (r::r'::rest) pos)
 |.or a b,N,sc,.BoolOp .Or [l,r] _=>!aI a&&!aI b&&mE a N sc l&&mE b N sc r
 |.or a b,N,sc,.BoolOp .Or (l::r::r'::rest) pos=>!aI a&&!aI b&&mE a N sc l&&mE b N sc (.BoolOp .Or (r::r'::rest) pos)
 |.not a,N,sc,.UnaryOp .Not l _=>mE a N sc l
 |.ife c a b,N,sc,.IfExp l m r _=>!aI a&&!aI b&&mE c N sc l&&mE a N sc m&&mE b N sc r
 |.ix a b,N,sc,.Subscript l r _=>mE a N sc l&&mE b N sc r
 |.sl a lo hi,N,sc,.Subscript l (.Slice p q none _) _=>mE a N sc l&&(match p with|none=>iG lo|some p'=>!aI lo&&mE lo N sc p')&&(match q with|none=>iG hi|some q'=>!aI hi&&mE hi N sc q')
 |.tup a,N,sc,.Tuple es _ _=>mA a false N sc es
 |.lst a,N,sc,.List es _=>mA a false N sc es
 |.call f a,N,sc,p=>vC (λn es=>(Tx.dn[f]?==some n)&&glB sc n&&iF n&&mA a false N sc es) p
 |.srt a,N,sc,p=>vC (λn=>v1 λq=>(n == "sorted")&&glB sc n&&mE a N sc q) p
 |.srtT a,N,sc,p=>vC (λn=>v1 λq=>(n == "sorted")&&glB sc n&&mE a N sc q) p
 |.dkl a,N,sc,p=>vC (λn=>v1 λq=>(n == "list")&&glB sc n&&!aI a&&mE a N sc q) p
 |.dck a,N,sc,p=>vC (λn=>v1 λq=>(n == "dict")&&glB sc n&&!aI a&&mE a N sc q) p
 |.bt b a,N,sc,p=>vC (λn=>vL λes=>b.use&&(n==b.nm)&&glB sc n&&mA a true N sc es) p
 |.mth m a b,N,sc,.Call (.Attribute o nm apos) [q] [] cpos=>(nm==m.nm)&&uG o&&(apos.endLine==cpos.line)&&!aI a&&mE a N sc o&&mE b N sc q
 |.lset a,N,sc,p=>v2 (λn m q=>(n == "len")&&(m == "set")&&glB sc n&&glB sc m&&mE a N sc q) p
 |.sset a,N,sc,p=>v2 (λn m q=>(n == "sorted")&&(m == "set")&&glB sc n&&glB sc m&&mE a N sc q) p
 |.isi a t,N,sc,p=>vC (λn=>vP λl r=>vN (λm _=>(n == "isinstance")&&(m==Str.ofString t.nm)&&glB sc n&&glB sc m&&mE a N sc l) r) p
 |.comp own caps g elt src cond,N,sc,.ListComp pe [⟨tg,iter,ifs,isa⟩] scope _=>
  (isa==0)&&scB sc scope&&nF N scope caps&&gR caps&&gR (cU tg++cV N caps)&&(own==(cU tg).length)&&g.below own&&mG true (cU tg++cV N caps) (iX scope sc) g tg &&
  mI src true N sc tg iter&&!aI elt&&mE elt (cU tg++cV N caps) (iX scope sc) pe &&
  (match ifs with
   |[]=>pT cond
   |[c]=>mE cond (cU tg++cV N caps) (iX scope sc) c
   |_=>false)
 |_,_,_,_=>false
termination_by structural x=>x
noncomputable def mA:E->Bool->List Str->Scope->List Expr->Bool
 |.anil,_,_,_,[]=>true
 |.acons a r,rd,N,sc,p::ps=>(rd||!aI a)&&mE a N sc p&&mA r rd N sc ps
 |_,_,_,_,_=>false
termination_by structural x=>x
noncomputable def mI:E->Bool->List Str->Scope->Expr->Expr->Bool
 |.seq a,rd,N,sc,_,p=>(rd||!aI a)&&mE a N sc p
 |.rng a,_,N,sc,_,p=>vC (λn=>v1 λq=>(n == "range")&&glB sc n&&!aI a&&mE a N sc q) p
 |.rng2 a b,_,N,sc,_,p=>vC (λn=>vP λq r=>(n == "range")&&glB sc n&&!aI a&&!aI b&&mE a N sc q&&mE b N sc r) p
 |.enum a,rd,N,sc,tg,p=>vC (λn=>v1 λq=>(n == "enumerate")&&glB sc n&&uT tg&&(rd||!aI a)&&mE a N sc q) p
 |.seqD a,_,N,sc,_,p=>!aI a&&mE a N sc p
 |_,_,_,_,_,_=>false
termination_by structural x=>x
end
end
section
variable{Tx:Txt}{N:List Str}{sc:Scope}{p tg:Expr}
theorem nof{P:Prop}(h:false=true):P:=absurd h aU
theorem bD{a b:Bool}(h:(a&&b)=true):a=true/\b=true:=by rw[aH]at h;exact h
theorem fD{a:Bool}(h:(!a)=true):a=false:=by rw[cD]at h;exact h
theorem beq1{α:Type}[BEq α][LawfulBEq α]{a b:α}(h:(a==b)=true):a=b:=eq_of_beq h
theorem uU{i:Nat}(h:mE Tx (.var i) N sc p=true):∃n pos,p=.Name n pos/\cT N sc i n=true:=by
 cases p<;>first|exact nof h|exact⟨_,_,rfl,h⟩
theorem i_rd{i:Nat}(h:mE Tx (.rd i) N sc p=true):∃n pos,p=.Name n pos/\cT N sc i n=true:=by
 cases p<;>first|exact nof h|exact⟨_,_,rfl,h⟩
theorem Cf{d:D}(h:mE Tx (.con d) N sc p=true):∃c k pos,p=.Constant c k pos/\tY d c=true:=by
 cases p<;>first|exact nof h|exact⟨_,_,_,rfl,h⟩
theorem Cg{g:Nat}(h:mE Tx (.glob g) N sc p=true):∃n pos,p=.Name n pos/\(Tx.gn[g]?==some n&&glB sc n&&iF n)=true:=by
 cases p<;>first|exact nof h|exact⟨_,_,rfl,h⟩
theorem Ci{o:Operator}{a b:E}(h:mE Tx (.bin o a b) N sc p=true):∃l r pos,p=.BinOp l o r pos/\mE Tx a N sc l=true/\mE Tx b N sc r=true:=by
 cases p with
 |BinOp l o' r pos=>
  have h:=bD (show((o==o')&&mE Tx a N sc l&&mE Tx b N sc r)=true from h)
  have h1:=bD h.1
  have e:o=o':=beq1 h1.1
  subst e
  exact⟨l,r,pos,rfl,h1.2,h.2⟩
 |_=>exact nof h
theorem Cj{o:CmpOp}{a b:E}(h:mE Tx (.cmp o a b) N sc p=true):∃l r pos,p=.Compare l [o] [r] pos/\mE Tx a N sc l=true/\mE Tx b N sc r=true:=by
 cases p with
 |Compare l os rs pos=>
  rcases os with _|⟨o',_|⟨o'',os⟩⟩
  ·exact nof h
  ·rcases rs with _|⟨r,_|⟨r',rs⟩⟩
   ·exact nof h
   ·have h:=bD (show((o==o')&&mE Tx a N sc l&&mE Tx b N sc r)=true from h)
    have h1:=bD h.1
    have e:o=o':=beq1 h1.1
    subst e
    exact⟨l,r,pos,rfl,h1.2,h.2⟩
   ·exact nof h
  ·exact nof h
 |_=>exact nof h
theorem Ck{a:E}(h:mE Tx (.neg a) N sc p=true):∃l pos,p=.UnaryOp .USub l pos/\mE Tx a N sc l=true:=by
 cases p with
 |UnaryOp op l pos=>cases op<;>first|exact nof h|exact⟨_,_,rfl,h⟩
 |_=>exact nof h
theorem Cm{a b:E}(h:mE Tx (.and a b) N sc p=true):∃l r rest pos,p=.BoolOp .And (l::r::rest) pos/\aI a=false/\aI b=false/\mE Tx a N sc l=true/\((rest=[]/\mE Tx b N sc r=true)\/(∃r' rs,rest=r'::rs/\mE Tx b N sc (.BoolOp .And (r::rest) pos)=true)):=by
 cases p with
 |BoolOp op vs pos=>
  cases op with
  |Or=>exact nof h
  |And=>
   rcases vs with _|⟨l,_|⟨r,_|⟨r',rest⟩⟩⟩
   ·exact nof h
   ·exact nof h
   ·have h:=bD (show(!aI a&&!aI b&&mE Tx a N sc l&&mE Tx b N sc r)=true from h)
    have h1:=bD h.1
    have h2:=bD h1.1
    exact⟨l,r,[],pos,rfl,fD h2.1,fD h2.2,h1.2,.inl ⟨rfl,h.2⟩⟩
   ·have h:=bD (show(!aI a&&!aI b&&mE Tx a N sc l&&mE Tx b N sc (.BoolOp .And (r::r'::rest) pos))=true from h)
    have h1:=bD h.1
    have h2:=bD h1.1
    exact⟨l,r,r'::rest,pos,rfl,fD h2.1,fD h2.2,h1.2,.inr ⟨r',rest,rfl,h.2⟩⟩
 |_=>exact nof h
theorem i_or{a b:E}(h:mE Tx (.or a b) N sc p=true):∃l r rest pos,p=.BoolOp .Or (l::r::rest) pos/\aI a=false/\aI b=false/\mE Tx a N sc l=true/\((rest=[]/\mE Tx b N sc r=true)\/(∃r' rs,rest=r'::rs/\mE Tx b N sc (.BoolOp .Or (r::rest) pos)=true)):=by
 cases p with
 |BoolOp op vs pos=>
  cases op with
  |And=>exact nof h
  |Or=>
   rcases vs with _|⟨l,_|⟨r,_|⟨r',rest⟩⟩⟩
   ·exact nof h
   ·exact nof h
   ·have h:=bD (show(!aI a&&!aI b&&mE Tx a N sc l&&mE Tx b N sc r)=true from h)
    have h1:=bD h.1
    have h2:=bD h1.1
    exact⟨l,r,[],pos,rfl,fD h2.1,fD h2.2,h1.2,.inl ⟨rfl,h.2⟩⟩
   ·have h:=bD (show(!aI a&&!aI b&&mE Tx a N sc l&&mE Tx b N sc (.BoolOp .Or (r::r'::rest) pos))=true from h)
    have h1:=bD h.1
    have h2:=bD h1.1
    exact⟨l,r,r'::rest,pos,rfl,fD h2.1,fD h2.2,h1.2,.inr ⟨r',rest,rfl,h.2⟩⟩
 |_=>exact nof h
theorem Cn{a:E}(h:mE Tx (.not a) N sc p=true):∃l pos,p=.UnaryOp .Not l pos/\mE Tx a N sc l=true:=by
 cases p with
 |UnaryOp op l pos=>cases op<;>first|exact nof h|exact⟨_,_,rfl,h⟩
 |_=>exact nof h
theorem Co{c a b:E}(h:mE Tx (.ife c a b) N sc p=true):∃l m r pos,p=.IfExp l m r pos/\aI a=false/\aI b=false/\mE Tx c N sc l=true/\mE Tx a N sc m=true/\mE Tx b N sc r=true:=by
 cases p with
 |IfExp l m r pos=>
  have h:=bD (show(!aI a&&!aI b&&mE Tx c N sc l&&mE Tx a N sc m&&mE Tx b N sc r)=true from h)
  have h1:=bD h.1
  have h2:=bD h1.1
  have h3:=bD h2.1
  exact⟨l,m,r,pos,rfl,fD h3.1,fD h3.2,h2.2,h1.2,h.2⟩
 |_=>exact nof h
theorem i_ix{a b:E}(h:mE Tx (.ix a b) N sc p=true):∃l r pos,p=.Subscript l r pos/\mE Tx a N sc l=true/\mE Tx b N sc r=true:=by
 cases p with
 |Subscript l r pos=>
  have h:=bD (show(mE Tx a N sc l&&mE Tx b N sc r)=true from h)
  exact⟨l,r,pos,rfl,h.1,h.2⟩
 |_=>exact nof h
theorem i_sl{a lo hi:E}(h:mE Tx (.sl a lo hi) N sc p=true):∃l pl ph pos pos',p=.Subscript l (.Slice pl ph none pos') pos/\mE Tx a N sc l=true/\((pl=none/\iG lo=true)\/∃q,pl=some q/\aI lo=false/\mE Tx lo N sc q=true)/\((ph=none/\iG hi=true)\/∃q,ph=some q/\aI hi=false/\mE Tx hi N sc q=true):=by
 cases p with
 |Subscript l r pos=>
  cases r with
  |Slice pl ph st pos'=>
   cases st with
   |some _=>exact nof h
   |none=>
    refine⟨l,pl,ph,pos,pos',rfl,?_⟩
    cases pl with
    |none=>
     cases ph with
     |none=>
      have h:=bD (show(mE Tx a N sc l&&iG lo&&iG hi)=true from h)
      exact⟨(bD h.1).1,.inl ⟨rfl,(bD h.1).2⟩,.inl ⟨rfl,h.2⟩⟩
     |some q=>
      have h:=bD (show(mE Tx a N sc l&&iG lo&&(!aI hi&&mE Tx hi N sc q))=true from h)
      exact⟨(bD h.1).1,.inl ⟨rfl,(bD h.1).2⟩,.inr ⟨q,rfl,fD (bD h.2).1,(bD h.2).2⟩⟩
    |some q0=>
     cases ph with
     |none=>
      have h:=bD (show(mE Tx a N sc l&&(!aI lo&&mE Tx lo N sc q0)&&iG hi)=true from h)
      exact⟨(bD h.1).1,.inr ⟨q0,rfl,fD (bD (bD h.1).2).1,(bD (bD h.1).2).2⟩,.inl ⟨rfl,h.2⟩⟩
     |some q=>
      have h:=bD (show(mE Tx a N sc l&&(!aI lo&&mE Tx lo N sc q0)&&(!aI hi&&mE Tx hi N sc q))=true from h)
      exact⟨(bD h.1).1,.inr ⟨q0,rfl,fD (bD (bD h.1).2).1,(bD (bD h.1).2).2⟩,.inr ⟨q,rfl,fD (bD h.2).1,(bD h.2).2⟩⟩
  |_=>exact nof h
 |_=>exact nof h
theorem Cp{a:E}(h:mE Tx (.tup a) N sc p=true):∃es k pos,p=.Tuple es k pos/\mA Tx a false N sc es=true:=by
 cases p<;>first|exact nof h|exact⟨_,_,_,rfl,h⟩
theorem Cq{a:E}(h:mE Tx (.lst a) N sc p=true):∃es pos,p=.List es pos/\mA Tx a false N sc es=true:=by
 cases p<;>first|exact nof h|exact⟨_,_,rfl,h⟩
theorem uV{f:Nat}{a:E}(h:mE Tx (.call f a) N sc p=true):∃n pn es pos,p=.Call (.Name n pn) es [] pos/\(Tx.dn[f]?==some n&&glB sc n&&iF n&&mA Tx a false N sc es)=true:=by
 exact gC h
theorem Cr {a:E} (h:mE Tx (.srt a) N sc p=true):∃n pn q pos,p=.Call (.Name n pn) [q] [] pos/\((n == "sorted")&&glB sc n&&mE Tx a N sc q)=true:=by
 obtain⟨n,pn,es,pos,rfl,g1⟩:=gC h
 obtain⟨q,rfl,g2⟩:=gD g1
 exact⟨n,pn,q,pos,rfl,g2⟩
theorem Cs {a:E} (h:mE Tx (.srtT a) N sc p=true):∃n pn q pos,p=.Call (.Name n pn) [q] [] pos/\((n == "sorted")&&glB sc n&&mE Tx a N sc q)=true:=by
 obtain⟨n,pn,es,pos,rfl,g1⟩:=gC h
 obtain⟨q,rfl,g2⟩:=gD g1
 exact⟨n,pn,q,pos,rfl,g2⟩
theorem Ct {a:E} (h:mE Tx (.dkl a) N sc p=true):∃n pn q pos,p=.Call (.Name n pn) [q] [] pos/\((n == "list")&&glB sc n&&!aI a&&mE Tx a N sc q)=true:=by
 obtain⟨n,pn,es,pos,rfl,g1⟩:=gC h
 obtain⟨q,rfl,g2⟩:=gD g1
 exact⟨n,pn,q,pos,rfl,g2⟩
theorem Cu {a:E} (h:mE Tx (.dck a) N sc p=true):∃n pn q pos,p=.Call (.Name n pn) [q] [] pos/\((n == "dict")&&glB sc n&&!aI a&&mE Tx a N sc q)=true:=by
 obtain⟨n,pn,es,pos,rfl,g1⟩:=gC h
 obtain⟨q,rfl,g2⟩:=gD g1
 exact⟨n,pn,q,pos,rfl,g2⟩
theorem i_bt{b:Bt}{a:E}(h:mE Tx (.bt b a) N sc p=true):∃n pn e es pos,p=.Call (.Name n pn) (e::es) [] pos/\(b.use&&(n==b.nm)&&glB sc n&&mA Tx a true N sc (e::es))=true:=by
 obtain⟨n,pn,es,pos,rfl,g1⟩:=gC h
 obtain⟨e,es,rfl,g2⟩:=vL_of g1
 exact⟨n,pn,e,es,pos,rfl,g2⟩
theorem Cv{m:Mt}{a b:E}(h:mE Tx (.mth m a b) N sc p=true):∃o nm apos q cpos,p=.Call (.Attribute o nm apos) [q] [] cpos/\((nm==m.nm)&&uG o&&(apos.endLine==cpos.line)&&!aI a&&mE Tx a N sc o&&mE Tx b N sc q)=true:=by
 cases p with
 |Call fn es ks pos=>
  cases fn with
  |Attribute o nm apos=>
   rcases es with _|⟨q,_|⟨q',es⟩⟩
   ·exact nof h
   ·cases ks with
    |nil=>exact⟨o,nm,apos,q,pos,rfl,h⟩
    |cons _ _=>exact nof h
   ·exact nof h
  |_=>exact nof h
 |_=>exact nof h
theorem Cw {a:E} (h:mE Tx (.lset a) N sc p=true):∃n pn m pm q pos2 pos,p=.Call (.Name n pn) [.Call (.Name m pm) [q] [] pos2] [] pos/\((n == "len")&&(m == "set")&&glB sc n&&glB sc m&&mE Tx a N sc q)=true:=by
 exact Cc h
theorem Cy {a:E} (h:mE Tx (.sset a) N sc p=true):∃n pn m pm q pos2 pos,p=.Call (.Name n pn) [.Call (.Name m pm) [q] [] pos2] [] pos/\((n == "sorted")&&(m == "set")&&glB sc n&&glB sc m&&mE Tx a N sc q)=true:=by
 exact Cc h
theorem Cz {a:E} {t:Ty} (h:mE Tx (.isi a t) N sc p=true):∃n pn l m pm pos,p=.Call (.Name n pn) [l,.Name m pm] [] pos/\((n == "isinstance")&&(m==Str.ofString t.nm)&&glB sc n&&glB sc m&&mE Tx a N sc l)=true:=by
 obtain⟨n,pn,es,pos,rfl,g1⟩:=gC h
 obtain⟨l,r,rfl,g2⟩:=Cb g1
 obtain⟨m,pm,rfl,g3⟩:=pW g2
 exact⟨n,pn,l,m,pm,pos,rfl,g3⟩
end
noncomputable def kE:List Str:=["len", "sum", "tuple", "list", "int", "str", "isinstance", "range", "enumerate", "bool", "abs", "min", "max", "all", "any", "set", "zip", "sorted", "dict"]
set_option genInjectivity false in
structure OkX(T:Tab)(cf:Nat->List D->Res D)(Tx:Txt)(X:Cx):Prop where
 calm:X.calm=true
 roomy:gA X
 defs:∀f n,Tx.dn[f]?=some n->nA T cf X f n
 globs:∀g n,Tx.gn[g]?=some n->BS X n (T.glob g)
 blt:∀n∈kE,X.mg n=none
 nd:X.N.Nodup
 tf:∀q∈Tx.tf,TabF T cf X q.1 q.2
 ts:∀q∈Tx.ts,TabS X q.1 q.2
 dm:∀q∈Tx.dm,lG T cf X q.1 q.2
section
variable{T:Tab}{cf:Nat->List D->Res D}{Tx:Txt}{X:Cx}
theorem fO {i:Nat} {n:Str} {N:List Str} {sc:Scope} (h:cT N sc i n=true):N[i]?=some n/\Vis sc n/\(n==("__debug__" : Str))=false/\(n==("__classdict__" : Str))=false:=by
 simp only[cT,visB,iF,aH,fV,cD,beq_iff_eq]at h
 refine⟨h.1.1,?_,h.2.1,h.2.2⟩
 rcases h.1.2 with(z|z)|z
 ·exact .inl z
 ·exact .inr (.inl z)
 ·exact .inr (.inr z)
theorem eD{n:Str}(h:glB X.env.scope n=true):Gl X n:=by
 have h':X.env.scope.names.lookup n=some .globalImplicit:=by simpa[glB]using h
 exact h'
noncomputable def uW:Expr->Bool
 |.BoolOp _ _ _=>true
 |_=>false
theorem pX {n:Str} (h:iF n=true):(n==("__debug__" : Str))=false:=by
 simp only[iF,aH,cD]at h
 exact h.1
theorem DA{loc:Bool}(hN:X.N.Nodup)(hf:∀n,loc=false->X.fn n=true):∀{is:List Nat} {es:List Expr},mGs loc X.N X.env.scope is es=true->SGs X is es/\nC es=true/\es.length=is.length
 |[],[],_=>⟨Hv,rfl,rfl⟩
 |[],_::_,h=>by exact nof h
 |_::_,[],h=>by exact nof h
 |i::is,e::es,h=>by
  cases e with
  |Name n pos=>
   change (_&&(_||_)&&_)=true at h
   simp only[aH,fV,beq_iff_eq,cD]at h
   obtain⟨⟨h1,h2⟩,h3⟩:=h
   obtain⟨a1,a2,a3⟩:=DA hN hf h3
   refine⟨Hx hN h1 ?_ ?_ a1,a2,by rw[aP,aP,a3]⟩
   ·rcases h2 with z|z
    ·exact .inl z
    ·exact .inr z.2
   ·rcases h2 with z|z
    ·exact .inr z
    ·exact .inl (hf n z.1)
  |_=>exact nof h
theorem uX{loc:Bool}{g:G}{tg:Expr}(hc:X.calm=true)(hN:X.N.Nodup)(hf:∀n,loc=false->X.fn n=true)(h:mG loc X.N X.env.scope g tg=true):SG X g tg/\bA tg=true:=by
 cases g with
 |one i=>
  cases tg with
  |Name n pos=>
   change (_&&(_||_))=true at h
   simp only[aH,fV,beq_iff_eq,cD]at h
   refine⟨sg_one hN h.1 ?_ ?_,rfl⟩
   ·rcases h.2 with z|z
    ·exact .inl z
    ·exact .inr z.2
   ·rcases h.2 with z|z
    ·exact .inr z
    ·exact .inl (hf n z.1)
  |_=>exact nof h
 |many is=>
  cases tg with
  |Tuple es k pos=>
   obtain⟨a1,a2,a3⟩:=DA hN hf h
   exact⟨IA hc a2 a3 a1,rfl⟩
  |_=>exact nof h
noncomputable def PEx(T:Tab)(cf:Nat->List D->Res D)(Tx:Txt)(x:E):Prop:=∀X p,OkX T cf Tx X->mE Tx x X.N X.env.scope p=true->SR T cf X x p/\(aI x=false->SE T cf X x p)/\ST T cf X x p/\bA p=true/\(uW p=true->SW T cf X x p)
noncomputable def PAx(T:Tab)(cf:Nat->List D->Res D)(Tx:Txt)(x:E):Prop:=∀X rd ps,OkX T cf Tx X->mA Tx x rd X.N X.env.scope ps=true->SAr T cf X x ps/\(rd=false->SAv T cf X x ps)/\ps.all bA=true
noncomputable def PIx(T:Tab)(cf:Nat->List D->Res D)(Tx:Txt)(x:E):Prop:=∀X rd tg p,OkX T cf Tx X->mI Tx x rd X.N X.env.scope tg p=true->SI T cf X tg x rd p/\bA p=true
theorem noA{x:E}(h:∀rd N sc ps,mA Tx x rd N sc ps=false):PAx T cf Tx x:=λX rd ps _ m=>by rw[h]at m;cases m
theorem noI{x:E}(h:∀rd N sc tg p,mI Tx x rd N sc tg p=false):PIx T cf Tx x:=λX rd tg p _ m=>by rw[h]at m;cases m
theorem noE{x:E}(h:∀N sc p,mE Tx x N sc p=false):PEx T cf Tx x:=λX p _ m=>by rw[h]at m;cases m
theorem dA{x:E}{p:Expr}(h:SE T cf X x p)(he:∀whole,isTrue p X.env whole=(do let v<-whole;standAt p.pos;holding [v] (truthy v)))(hp:bA p=true)(hb:uW p=false:=by rfl):SR T cf X x p/\(aI x=false->SE T cf X x p)/\ST T cf X x p/\bA p=true/\(uW p=true->SW T cf X x p):=
 ⟨h.sr,λ_=>h,Bb h.sr he,hp,λz=>by rw[hb]at z;cases z⟩
theorem okC(ok:OkX T cf Tx X){scope:Scope}{C:Addr}{Nc:List Str}{s2:Shared}{H2:Hp}{fp:List Addr}(h:Nc.Nodup):OkX T cf Tx (cxC X scope C Nc s2 H2 fp):=
 ⟨ok.calm,ok.roomy,ok.defs,ok.globs,ok.blt,h,ok.tf,ok.ts,ok.dm⟩
theorem scC_of{scope:Scope}(h:scB X.env.scope scope=true):ScopeC X scope:=by
 simp only[scB,aH,dN,fV,cD,beq_iff_eq,beq_eq_false_iff_ne,ne_eq]at h
 obtain⟨⟨⟨h1,h2⟩,h3⟩,h4⟩:=h
 refine⟨h1,h2,λx hx e=>?_,λx hx e=>?_,λx hx e=>?_⟩
 ·rcases h3 x hx with z|z
  ·exact absurd e z
  ·exact z
 ·rcases h4 x hx with z|z
  ·exact absurd e z
  ·exact z.1
 ·rcases h4 x hx with z|z
  ·exact absurd e z
  ·exact z.2
theorem capsOk{scope:Scope}{caps:List Nat}{own:Nat}{tn:List Str}(h:nF X.N scope caps=true)(hn:gR caps=true)(ho:own=tn.length):CapsOk X scope own caps (tn++cV X.N caps):=by
 refine⟨by rw[bR,ho,cV,aF],pS hn,λj i hj=>?_⟩
 simp only[nF,dN]at h
 have:=h i (gW hj)
 cases e:X.N[i]? with
 |none=>rw[e]at this;cases this
 |some n=>
  rw[e]at this
  refine⟨n,rfl,?_,by simpa using this⟩
  rw[ho,gM (by lia),show tn.length+j-tn.length=j by lia,cV,bK,hj]
  simp[e]
theorem i_rng {a:E} {rd:Bool} {N:List Str} {sc:Scope} {tg p:Expr} (h:mI Tx (.rng a) rd N sc tg p=true):∃n pn q pos,p=.Call (.Name n pn) [q] [] pos/\((n == "range")&&glB sc n&&!aI a&&mE Tx a N sc q)=true:=by
 obtain⟨n,pn,es,pos,rfl,g1⟩:=gC h
 obtain⟨q,rfl,g2⟩:=gD g1
 exact⟨n,pn,q,pos,rfl,g2⟩
theorem i_rng2 {a b:E} {rd:Bool} {N:List Str} {sc:Scope} {tg p:Expr} (h:mI Tx (.rng2 a b) rd N sc tg p=true):∃n pn q r pos,p=.Call (.Name n pn) [q,r] [] pos/\((n == "range")&&glB sc n&&!aI a&&!aI b&&mE Tx a N sc q&&mE Tx b N sc r)=true:=by
 obtain⟨n,pn,es,pos,rfl,g1⟩:=gC h
 obtain⟨q,r,rfl,g2⟩:=Cb g1
 exact⟨n,pn,q,r,pos,rfl,g2⟩
theorem i_enum {a:E} {rd:Bool} {N:List Str} {sc:Scope} {tg p:Expr} (h:mI Tx (.enum a) rd N sc tg p=true):∃n pn q pos,p=.Call (.Name n pn) [q] [] pos/\((n == "enumerate")&&glB sc n&&uT tg&&(rd||!aI a)&&mE Tx a N sc q)=true:=by
 obtain⟨n,pn,es,pos,rfl,g1⟩:=gC h
 obtain⟨q,rfl,g2⟩:=gD g1
 exact⟨n,pn,q,pos,rfl,g2⟩
theorem DB{own:Nat}{caps:List Nat}{g:G}{elt src cond:E}{N:List Str}{sc:Scope}{p:Expr}(h:mE Tx (.comp own caps g elt src cond) N sc p=true):∃pe tg iter ifs scope pos,p=.ListComp pe [⟨tg,iter,ifs,0⟩] scope pos /\
 scB sc scope=true/\nF N scope caps=true/\gR caps=true/\gR (cU tg++cV N caps)=true/\own=(cU tg).length/\g.below own=true/\mG true (cU tg++cV N caps) (iX scope sc) g tg=true /\
 mI Tx src true N sc tg iter=true/\aI elt=false/\mE Tx elt (cU tg++cV N caps) (iX scope sc) pe=true /\
 ((ifs=[]/\pT cond=true)\/∃c,ifs=[c]/\mE Tx cond (cU tg++cV N caps) (iX scope sc) c=true):=by
 cases p with
 |ListComp pe gens scope pos=>
  rcases gens with _|⟨⟨tg,iter,ifs,isa⟩,_|⟨g2,gens⟩⟩
  ·exact nof h
  ·change (_&&_)=true at h;simp only[aH,cD,beq_iff_eq]at h
   obtain⟨⟨⟨⟨⟨⟨⟨⟨⟨⟨⟨a1,a2⟩,a3⟩,a4⟩,a5⟩,a6⟩,a7⟩,a8⟩,a9⟩,a10⟩,a11⟩,a12⟩:=h
   subst a1
   refine⟨pe,tg,iter,ifs,scope,pos,rfl,a2,a3,a4,a5,a6,a7,a8,a9,a10,a11,?_⟩
   rcases ifs with _|⟨c,_|⟨c',ifs⟩⟩
   ·exact .inl ⟨rfl,a12⟩
   ·exact .inr ⟨c,rfl,a12⟩
   ·cases a12
  ·exact nof h
 |_=>exact nof h
theorem DC{own:Nat}{caps:List Nat}{g:G}{elt src cond:E}{pe tg iter:Expr}{ifs:List Expr}{scope:Scope}(ok:OkX T cf Tx X)(ie:PEx T cf Tx elt)(is:PIx T cf Tx src)(ic:PEx T cf Tx cond)
 (a2:scB X.env.scope scope=true) (a3:nF X.N scope caps=true) (a4:gR caps=true) (a5:gR (cU tg++cV X.N caps)=true) (a6:own=(cU tg).length) (a8:mG true (cU tg++cV X.N caps) (iX scope X.env.scope) g tg=true)
 (a9:mI Tx src true X.N X.env.scope tg iter=true) (a10:aI elt=false) (a11:mE Tx elt (cU tg++cV X.N caps) (iX scope X.env.scope) pe=true)
 (a12:(ifs=[]/\pT cond=true)\/∃c,ifs=[c]/\mE Tx cond (cU tg++cV X.N caps) (iX scope X.env.scope) c=true) :
 ScopeC X scope/\CapsOk X scope own caps (cU tg++cV X.N caps)/\bA iter=true/\SI T cf X tg src true iter /\
 ∀C s2 H2 fp,(cxC X scope C (cU tg++cV X.N caps) s2 H2 fp).Ok->SG (cxC X scope C (cU tg++cV X.N caps) s2 H2 fp) g tg/\SE T cf (cxC X scope C (cU tg++cV X.N caps) s2 H2 fp) elt pe/\nD ifs cond (ST T cf (cxC X scope C (cU tg++cV X.N caps) s2 H2 fp) cond):=by
 obtain⟨s1,s2⟩:=is X true tg iter ok a9
 refine⟨scC_of a2,capsOk a3 a4 a6,s2,s1,λC s2 H2 fp _=>?_⟩
 have okc:OkX T cf Tx (cxC X scope C (cU tg++cV X.N caps) s2 H2 fp):=okC ok (pS a5)
 refine⟨(uX (X:=cxC X scope C (cU tg++cV X.N caps) s2 H2 fp) ok.calm okc.nd (λn z=>by cases z) a8).1,(ie _ _ okc a11).2.1 a10,?_⟩
 rcases a12 with⟨z1,z2⟩|⟨c,z1,z2⟩
 ·refine .inl ⟨z1,?_⟩
  unfold pT at z2
  split at z2
  ·rfl
  ·cases z2
 ·exact .inr ⟨c,z1,(ic _ _ okc z2).2.2.1⟩
theorem dB:∀x:E,PEx T cf Tx x/\PAx T cf Tx x/\PIx T cf Tx x:=by
 intro x
 induction x with
 |var i=>
  refine⟨λX p ok h=>?_,noA λrd N sc ps=>rfl,noI λrd N sc tg p=>rfl⟩
  obtain⟨n,pos,rfl,hn⟩:=uU h
  obtain⟨a1,a2,a3,a4⟩:=fO hn
  exact dA (se_var a1 a2 a3 a4) (λ_=>rfl) rfl
 |rd i=>
  refine⟨λX p ok h=>?_,noA λrd N sc ps=>rfl,noI λrd N sc tg p=>rfl⟩
  obtain⟨n,pos,rfl,hn⟩:=i_rd h
  obtain⟨a1,a2,a3,a4⟩:=fO hn
  exact⟨BR a1 a2 a3 a4,(λz=>by cases z),Bb (BR a1 a2 a3 a4) (λ_=>rfl),rfl,λz=>by cases z⟩
 |con d=>
  refine⟨λX p ok h=>?_,noA λrd N sc ps=>rfl,noI λrd N sc tg p=>rfl⟩
  obtain⟨c,k,pos,rfl,hn⟩:=Cf h
  exact dA (se_con hn) (λ_=>rfl) rfl
 |glob g=>
  refine⟨λX p ok h=>?_,noA λrd N sc ps=>rfl,noI λrd N sc tg p=>rfl⟩
  obtain⟨n,pos,rfl,hn⟩:=Cg h
  simp only[aH,beq_iff_eq]at hn
  exact dA (HG (eD hn.1.2) (ok.globs g n hn.1.1) (pX hn.2)) (λ_=>rfl) rfl
 |bin o a b iha ihb=>
  refine⟨λX p ok h=>?_,noA λrd N sc ps=>rfl,noI λrd N sc tg p=>rfl⟩
  obtain⟨l,r,pos,rfl,h1,h2⟩:=Ci h
  exact dA (se_bin (iha.1 X l ok h1).1 (ihb.1 X r ok h2).1) (λ_=>rfl) rfl
 |cmp o a b iha ihb=>
  refine⟨λX p ok h=>?_,noA λrd N sc ps=>rfl,noI λrd N sc tg p=>rfl⟩
  obtain⟨l,r,pos,rfl,h1,h2⟩:=Cj h
  have hb:=ihb.1 X r ok h2
  have se:=se_cmp (o:=o) (pos:=pos) ok.roomy hb.2.2.2.1 (iha.1 X l ok h1).1 hb.1
  exact⟨se.sr,λ_=>se,st_cmp ok.roomy hb.2.2.2.1 (iha.1 X l ok h1).1 hb.1,rfl,λz=>by cases z⟩
 |seqD a iha=>
  refine⟨noE λN sc p=>rfl,noA λrd N sc ps=>rfl,λX rd tg p ok h=>?_⟩
  change (_&&_)=true at h;simp only[aH,cD]at h
  obtain⟨a1,a2,_,a4,_⟩:=iha.1 X p ok h.2
  cases rd with
  |true=>exact⟨(C5 (a2 h.1)).up,a4⟩
  |false=>exact⟨C5 (a2 h.1),a4⟩
 |and a b iha ihb=>
  refine⟨λX p ok h=>?_,noA λrd N sc ps=>rfl,noI λrd N sc tg p=>rfl⟩
  obtain⟨l,r,rest,pos,rfl,ra,rb,h1,h2⟩:=Cm h
  obtain⟨_,sa,ta,_⟩:=iha.1 X l ok h1
  have sb:SE T cf X b (.BoolOp .And (r::rest) pos)/\SW T cf X b (.BoolOp .And (r::rest) pos):=by
   rcases h2 with⟨rfl,h2⟩|⟨r',rs,rfl,h2⟩
   ·obtain⟨_,b1,b2,_⟩:=ihb.1 X r ok h2
    exact⟨Be (b1 rb),Hc b2⟩
   ·obtain⟨_,b1,b2,_,b5⟩:=ihb.1 X _ ok h2
    exact⟨b1 rb,b5 rfl⟩
  exact⟨(Bc (sa ra) sb.1).sr,λ_=>Bc (sa ra) sb.1,(Bg ta sb.2).st,rfl,λ_=>Bg ta sb.2⟩
 |or a b iha ihb=>
  refine⟨λX p ok h=>?_,noA λrd N sc ps=>rfl,noI λrd N sc tg p=>rfl⟩
  obtain⟨l,r,rest,pos,rfl,ra,rb,h1,h2⟩:=i_or h
  obtain⟨_,sa,ta,_⟩:=iha.1 X l ok h1
  have sb:SE T cf X b (.BoolOp .Or (r::rest) pos)/\SW T cf X b (.BoolOp .Or (r::rest) pos):=by
   rcases h2 with⟨rfl,h2⟩|⟨r',rs,rfl,h2⟩
   ·obtain⟨_,b1,b2,_⟩:=ihb.1 X r ok h2
    exact⟨Be (b1 rb),sw_or1 b2⟩
   ·obtain⟨_,b1,b2,_,b5⟩:=ihb.1 X _ ok h2
    exact⟨b1 rb,b5 rfl⟩
  exact⟨(Bd (sa ra) sb.1).sr,λ_=>Bd (sa ra) sb.1,(Bh ta sb.2).st,rfl,λ_=>Bh ta sb.2⟩
 |not a iha=>
  refine⟨λX p ok h=>?_,noA λrd N sc ps=>rfl,noI λrd N sc tg p=>rfl⟩
  obtain⟨l,pos,rfl,h1⟩:=Cn h
  obtain⟨a1,_,a3,_,_⟩:=iha.1 X l ok h1
  exact⟨(Bf a3 a1).sr,λ_=>Bf a3 a1,st_not a3,rfl,λz=>by cases z⟩
 |neg a iha=>
  refine⟨λX p ok h=>?_,noA λrd N sc ps=>rfl,noI λrd N sc tg p=>rfl⟩
  obtain⟨l,pos,rfl,h1⟩:=Ck h
  exact dA (se_neg (iha.1 X l ok h1).1) (λ_=>rfl) rfl
 |ife c a b ihc iha ihb=>
  refine⟨λX p ok h=>?_,noA λrd N sc ps=>rfl,noI λrd N sc tg p=>rfl⟩
  obtain⟨l,m,r,pos,rfl,ra,rb,h1,h2,h3⟩:=Co h
  have se:=se_ife (pos:=pos) (ihc.1 X l ok h1).2.2.1 ((iha.1 X m ok h2).2.1 ra) ((ihb.1 X r ok h3).2.1 rb)
  exact⟨se.sr,λ_=>se,st_ife (ihc.1 X l ok h1).2.2.1 (iha.1 X m ok h2).2.2.1 (ihb.1 X r ok h3).2.2.1,rfl,λz=>by cases z⟩
 |ix a b iha ihb=>
  refine⟨λX p ok h=>?_,noA λrd N sc ps=>rfl,noI λrd N sc tg p=>rfl⟩
  obtain⟨l,r,pos,rfl,h1,h2⟩:=i_ix h
  have hb:=ihb.1 X r ok h2
  exact dA (se_ix ok.roomy hb.2.2.2.1 (iha.1 X l ok h1).1 hb.1) (λ_=>rfl) rfl
 |sl a lo hi iha ihl ihh=>
  refine⟨λX p ok h=>?_,noA λrd N sc ps=>rfl,noI λrd N sc tg p=>rfl⟩
  obtain⟨l,pl,ph,pos,pos',rfl,h1,h2,h3⟩:=i_sl h
  have part:∀{y:E} {q:Option Expr},PEx T cf Tx y->((q=none/\iG y=true)\/∃r,q=some r/\aI y=false/\mE Tx y X.N X.env.scope r=true)->SO T cf X y q:=by
   intro y q ih hq
   rcases hq with⟨rfl,z⟩|⟨r,rfl,z1,z2⟩
   ·unfold iG at z
    split at z
    ·exact HX
    ·cases z
   ·exact HY ((ih X r ok z2).2.1 z1)
  exact dA (se_sl (iha.1 X l ok h1).1 (part ihl.1 h2) (part ihh.1 h3)) (λ_=>rfl) rfl
 | «omit»=>exact⟨noE λN sc p=>rfl,noA λrd N sc ps=>rfl,noI λrd N sc tg p=>rfl⟩
 |tup a iha=>
  refine⟨λX p ok h=>?_,noA λrd N sc ps=>rfl,noI λrd N sc tg p=>rfl⟩
  obtain⟨es,k,pos,rfl,h1⟩:=Cp h
  exact dA (se_tup ((iha.2.1 X false es ok h1).2.1 rfl)) (λ_=>rfl) rfl
 |lst a iha=>
  refine⟨λX p ok h=>?_,noA λrd N sc ps=>rfl,noI λrd N sc tg p=>rfl⟩
  obtain⟨es,pos,rfl,h1⟩:=Cq h
  exact dA (se_lst ((iha.2.1 X false es ok h1).2.1 rfl)) (λ_=>rfl) rfl
 |anil=>
  refine⟨noE λN sc p=>rfl,λX rd ps ok h=>?_,noI λrd N sc tg p=>rfl⟩
  cases ps with
  |nil=>exact⟨H0,λ_=>sav_nil,rfl⟩
  |cons _ _=>exact nof h
 |acons a r iha ihr=>
  refine⟨noE λN sc p=>rfl,λX rd ps ok h=>?_,noI λrd N sc tg p=>rfl⟩
  cases ps with
  |nil=>exact nof h
  |cons p ps=>
   change (_&&_)=true at h;simp only[aH,fV,cD]at h
   obtain⟨a1,a2,_,a4,_⟩:=iha.1 X p ok h.1.2
   obtain⟨b1,b2,b3⟩:=ihr.2.1 X rd ps ok h.2
   refine⟨H_ a4 a1 b1,λz=>HZ a4 (a2 ?_) (b2 z),by rw[oB,a4,b3];rfl⟩
   rcases h.1.1 with q|q
   ·rw[z]at q;cases q
   ·exact q
 |call f a iha=>
  refine⟨λX p ok h=>?_,noA λrd N sc ps=>rfl,noI λrd N sc tg p=>rfl⟩
  obtain⟨n,pn,es,pos,rfl,hn⟩:=uV h
  simp only[aH,beq_iff_eq]at hn
  obtain⟨_,b2,b3⟩:=iha.2.1 X false es ok hn.2
  cases es with
  |nil=>
   cases a with
   |anil=>exact dA (Hg (ok.defs f n hn.1.1.1) (eD hn.1.1.2) (pX hn.1.2)) (λ_=>rfl) rfl
   |_=>exact nof hn.2
  |cons e es=>exact dA (Hf (ok.defs f n hn.1.1.1) (eD hn.1.1.2) (pX hn.1.2) b3 (b2 rfl)) (λ_=>rfl) rfl
 |srt a iha=>
  refine⟨λX p ok h=>?_,noA λrd N sc ps=>rfl,noI λrd N sc tg p=>rfl⟩
  obtain⟨n,pn,q,pos,rfl,hn⟩:=Cr h
  simp only[aH,beq_iff_eq]at hn
  obtain⟨⟨rfl,h2⟩,h3⟩:=hn
  obtain⟨a1,_,_,a4,_⟩:=iha.1 X q ok h3
  exact dA (se_srt ok.calm (ok.blt _ (by decide)) (eD h2) a4 a1) (λ_=>rfl) rfl
 |srtT a iha=>
  refine⟨λX p ok h=>?_,noA λrd N sc ps=>rfl,noI λrd N sc tg p=>rfl⟩
  obtain⟨n,pn,q,pos,rfl,hn⟩:=Cs h
  simp only[aH,beq_iff_eq]at hn
  obtain⟨⟨rfl,h2⟩,h3⟩:=hn
  obtain⟨a1,_,_,a4,_⟩:=iha.1 X q ok h3
  exact dA (Iw ok.roomy (ok.blt _ (by decide)) (eD h2) a4 a1) (λ_=>rfl) rfl
 |dkl a iha=>
  refine⟨λX p ok h=>?_,noA λrd N sc ps=>rfl,noI λrd N sc tg p=>rfl⟩
  obtain⟨n,pn,q,pos,rfl,hn⟩:=Ct h
  simp only[aH,beq_iff_eq,cD]at hn
  obtain⟨⟨⟨rfl,h2⟩,h0⟩,h3⟩:=hn
  obtain⟨_,a2,_,a4,_⟩:=iha.1 X q ok h3
  exact dA (se_dkl ok.calm (ok.blt _ (by decide)) (eD h2) a4 (a2 h0)) (λ_=>rfl) rfl
 |dck a iha=>
  refine⟨λX p ok h=>?_,noA λrd N sc ps=>rfl,noI λrd N sc tg p=>rfl⟩
  obtain⟨n,pn,q,pos,rfl,hn⟩:=Cu h
  simp only[aH,beq_iff_eq,cD]at hn
  obtain⟨⟨⟨rfl,h2⟩,h0⟩,h3⟩:=hn
  obtain⟨_,a2,_,a4,_⟩:=iha.1 X q ok h3
  exact dA (se_dck ok.calm ok.roomy (ok.blt _ (by decide)) (eD h2) a4 (a2 h0)) (λ_=>rfl) rfl
 |bt b a iha=>
  refine⟨λX p ok h=>?_,noA λrd N sc ps=>rfl,noI λrd N sc tg p=>rfl⟩
  obtain⟨n,pn,e,es,pos,rfl,hn⟩:=i_bt h
  simp only[aH,beq_iff_eq]at hn
  obtain⟨b1,_,b3⟩:=iha.2.1 X true (e::es) ok hn.2
  exact dA (se_bt hn.1.1.1 ok.calm hn.1.1.2 (ok.blt _ (by cases b<;>decide)) (eD hn.1.2) b3 b1) (λ_=>rfl) rfl
 |mth m a b iha ihb=>
  refine⟨λX p ok h=>?_,noA λrd N sc ps=>rfl,noI λrd N sc tg p=>rfl⟩
  obtain⟨o,nm,apos,q,cpos,rfl,hn⟩:=Cv h
  simp only[aH,cD]at hn
  obtain⟨_,a2,_⟩:=iha.1 X o ok hn.1.2
  obtain⟨b1,_,_,b4,_⟩:=ihb.1 X q ok hn.2
  have e:nm=m.nm:=eq_of_beq hn.1.1.1.1.1
  exact dA (se_mth e (base_of hn.1.1.1.1.2 (by subst e;cases m<;>decide)) hn.1.1.1.2 b4 (a2 hn.1.1.2) b1) (λ_=>rfl) rfl
 |lset a iha=>
  refine⟨λX p ok h=>?_,noA λrd N sc ps=>rfl,noI λrd N sc tg p=>rfl⟩
  obtain⟨n,pn,m,pm,q,pos2,pos,rfl,hn⟩:=Cw h
  simp only[aH]at hn
  obtain⟨⟨⟨⟨h1,h2⟩,h3⟩,h4⟩,h5⟩:=hn
  obtain⟨a1,_,_,a4,_⟩:=iha.1 X q ok h5
  cases eq_of_beq h1
  cases eq_of_beq h2
  exact dA (Hh ok.calm ok.roomy (ok.blt _ (by decide)) (ok.blt _ (by decide)) (eD h3) (eD h4) a4 a1) (λ_=>rfl) rfl
 |sset a iha=>
  refine⟨λX p ok h=>?_,noA λrd N sc ps=>rfl,noI λrd N sc tg p=>rfl⟩
  obtain⟨n,pn,m,pm,q,pos2,pos,rfl,hn⟩:=Cy h
  simp only[aH]at hn
  obtain⟨⟨⟨⟨h1,h2⟩,h3⟩,h4⟩,h5⟩:=hn
  obtain⟨a1,_,_,a4,_⟩:=iha.1 X q ok h5
  cases eq_of_beq h1
  cases eq_of_beq h2
  exact dA (Hj ok.calm (ok.blt _ (by decide)) (ok.blt _ (by decide)) (eD h3) (eD h4) a4 a1) (λ_=>rfl) rfl
 |isi a t iha=>
  refine⟨λX p ok h=>?_,noA λrd N sc ps=>rfl,noI λrd N sc tg p=>rfl⟩
  obtain⟨n,pn,l,m,pm,pos,rfl,hn⟩:=Cz h
  simp only[aH,beq_iff_eq]at hn
  obtain⟨a1,_,_,a4,_⟩:=iha.1 X l ok hn.2
  exact dA (se_isi hn.1.1.1.1 hn.1.1.1.2 (ok.blt _ (by simp[kE])) (ok.blt _ (by cases t<;>simp[kE,Ty.nm])) (eD hn.1.1.2) (eD hn.1.2) a4 a1) (λ_=>rfl) rfl
 |comp own caps g elt src cond ihe ihs ihc=>
  refine⟨λX p ok h=>?_,noA λrd N sc ps=>rfl,noI λrd N sc tg p=>rfl⟩
  obtain⟨pe,tg,iter,ifs,scope,pos,rfl,a2,a3,a4,a5,a6,a7,a8,a9,a10,a11,a12⟩:=DB h
  obtain⟨c1,c2,c3,c4,c5⟩:=DC ok ihe.1 ihs.2.2 ihc.1 a2 a3 a4 a5 a6 a8 a9 a10 a11 a12
  exact dA (CA ok.calm c1 c2 a7 c3 c4 c5) (λ_=>rfl) rfl
 |seq a iha=>
  refine⟨noE λN sc p=>rfl,noA λrd N sc ps=>rfl,λX rd tg p ok h=>?_⟩
  change (_&&_)=true at h;simp only[aH,fV,cD]at h
  obtain⟨a1,a2,_,a4,_⟩:=iha.1 X p ok h.2
  refine⟨si_seq a1 λz=>a2 ?_,a4⟩
  rcases h.1 with q|q
  ·rw[z]at q;cases q
  ·exact q
 |rng a iha=>
  refine⟨noE λN sc p=>rfl,noA λrd N sc ps=>rfl,λX rd tg p ok h=>?_⟩
  obtain⟨n,pn,q,pos,rfl,hn⟩:=i_rng h
  simp only[aH,beq_iff_eq,cD]at hn
  obtain⟨_,a2,_,a4,_⟩:=iha.1 X q ok hn.2
  exact⟨si_rng hn.1.1.1 (eD hn.1.1.2) (ok.blt _ (by simp[kE])) a4 (a2 hn.1.2),rfl⟩
 |rng2 a b iha ihb=>
  refine⟨noE λN sc p=>rfl,noA λrd N sc ps=>rfl,λX rd tg p ok h=>?_⟩
  obtain⟨n,pn,q,r,pos,rfl,hn⟩:=i_rng2 h
  simp only[aH,beq_iff_eq,cD]at hn
  obtain⟨_,a2,_,a4,_⟩:=iha.1 X q ok hn.1.2
  obtain⟨_,b2,_,b4,_⟩:=ihb.1 X r ok hn.2
  exact⟨Hu hn.1.1.1.1.1 (eD hn.1.1.1.1.2) (ok.blt _ (by simp[kE])) a4 b4 (a2 hn.1.1.1.2) (b2 hn.1.1.2),rfl⟩
 |enum a iha=>
  refine⟨noE λN sc p=>rfl,noA λrd N sc ps=>rfl,λX rd tg p ok h=>?_⟩
  obtain⟨n,pn,q,pos,rfl,hn⟩:=i_enum h
  simp only[aH,beq_iff_eq,cD,fV]at hn
  obtain⟨a1,a2,_,a4,_⟩:=iha.1 X q ok hn.2
  cases tg with
  |Tuple es kk tpos=>
   refine⟨IW hn.1.1.1.1 (eD hn.1.1.1.2) (ok.blt _ (by simp[kE])) a4 a1 λz=>a2 ?_,rfl⟩
   rcases hn.1.2 with q|q
   ·rw[z]at q;cases q
   ·exact q
  |_=>exact absurd hn.1.1.2 (by simp[uT])
end
section
variable(Tx:Txt)
noncomputable def JQ:E->Bool
 |.call _ _=>true
 |_=>false
noncomputable def vR(G:Str->Expr->Str->Str->Expr->Bool):Expr->Bool
 |.Call (.Name n _) [p,.Name n1 _,.Name n2 _,q] [] _=>G n p n1 n2 q
 |_=>false
noncomputable def vO(neg:Bool)(G:Expr->Bool)(C:Expr->Bool):Expr->Bool
 |.UnaryOp .Not p _=>neg&&G p
 |.BoolOp .Or [c,p] _=>!neg&&G p&&C c
 |_=>false
noncomputable def mRf(neg:Bool)(c:E)(f:Nat)(x:E)(i j:Nat)(y:E)(N:List Str)(sc:Scope):Expr->Bool:=
 vO neg (vR λn p n1 n2 q=>Tx.dm.contains (f,n)&&glB sc n&&iF n&&cT N sc i n1&&cT N sc j n2&&!aI x&&!aI y&&mE Tx x N sc p&&mE Tx y N sc q) (mE Tx c N sc)
mutual
noncomputable def mB:S->List Str->Scope->List Stmt->Bool
 |.nil,_,_,[]=>true
 |.cons (.sealed _) r,N,sc,ps=>mB r N sc ps
 |.cons a r,N,sc,p::ps=>mS a N sc p&&mB r N sc ps
 |_,_,_,_=>false
termination_by structural x=>x
noncomputable def mS:S->List Str->Scope->Stmt->Bool
 |.ret x,N,sc,.Return (some p) _=>!aI x&&mE Tx x N sc p
 |.retO i,N,sc,.Return (some (.Name n _)) _=>cT N sc i n
 |.asg g x,N,sc,.Assign [tg] p _=>!aI x&&mG false N sc g tg&&mE Tx x N sc p&&((eC p&&pN p)||(match g,tg with | .one _,.Name _ _=>true|_,_=>false))
 |.asgO i x,N,sc,.Assign [.Name n pn] p _=>!aI x&&mG false N sc (.one i) (.Name n pn)&&mE Tx x N sc p
 |.ite c a b,N,sc,.If p ps qs _=>mE Tx c N sc p&&mB a N sc ps&&mB b N sc qs
 |.forS g src b,N,sc,.For tg p ps [] _=>mI Tx src false N sc tg p&&mG false N sc g tg&&mB b N sc ps
 |.app i x,N,sc,p=>vM (λn nm apos cpos=>v1 λq=>cT N sc i n&&(nm == "append")&&(apos.endLine==cpos.line)&&!aI x&&mE Tx x N sc q) p
 |.rev i,N,sc,p=>vM (λn nm apos cpos es=>es.isEmpty&&(cT N sc i n&&(nm == "reverse")&&(apos.endLine==cpos.line))) p
 |.ext i x,N,sc,p=>vM (λn nm apos cpos=>v1 λq=>cT N sc i n&&(nm == "extend")&&(apos.endLine==cpos.line)&&!aI x&&mE Tx x N sc q) p
 |.never,_,_,_=>true
 |.exp x,N,sc,.Expr p _=>JQ x&&mE Tx x N sc p
 |.newD i,N,sc,p=>vA (λtg v=>vN (λn pn=>vD v&&mG false N sc (.one i) (.Name n pn)) tg) p
 |.newT i,N,sc,p=>vA (λtg v=>vN (λn pn=>vD v&&mG false N sc (.one i) (.Name n pn)) tg) p
 |.dputV i y x,N,sc,p=>vA (λtg v=>vX (λn q=>cT N sc i n&&eC v&&!aI y&&mE Tx y N sc q&&!aI x&&mE Tx x N sc v) tg) p
 |.asgN i x,N,sc,.Assign [.Name n pn] p _=>eC p&&!aI x&&mG false N sc (.one i) (.Name n pn)&&mE Tx x N sc p
 |.dputR i y x,N,sc,p=>vA (λtg v=>vX (λn q=>cT N sc i n&&eC v&&!aI y&&mE Tx y N sc q&&!aI x&&mE Tx x N sc v) tg) p
 |.extN i j,N,sc,p=>vM (λn nm apos cpos=>v1 λq=>vN (λm _=>cT N sc i n&&(nm == "extend")&&(apos.endLine==cpos.line)&&cT N sc j m) q) p
 |.retR x _ _,N,sc,.Return (some p) _=>!aI x&&mE Tx x N sc p
 |.ifR neg c f x i j y a b,N,sc,.If p ps qs _=>mRf Tx neg c f x i j y N sc p&&mB a N sc ps&&mB b N sc qs
 |_,_,_,_=>false
termination_by structural x=>x
end
end
set_option genInjectivity false in
structure OkS(T:Tab)(cf:Nat->List D->Res D)(Tx:Txt)(X:Cx):Prop where
 ok:OkX T cf Tx X
 xe:X.xe=λ_ _=>False
 fn:∀n,X.fn n=true
section
variable{T:Tab}{cf:Nat->List D->Res D}{Tx:Txt}{X:Cx}
theorem OkS.pass(o:OkS T cf Tx X):PassesOwn (model X.prog X.w) X.A X.env X.xe:=by rw[o.xe];exact PassesOwn.never
noncomputable def PSx(T:Tab)(cf:Nat->List D->Res D)(Tx:Txt)(x:S):Prop:=∀X p,OkS T cf Tx X->mS Tx x X.N X.env.scope p=true->SS T cf X x p
noncomputable def PBx(T:Tab)(cf:Nat->List D->Res D)(Tx:Txt)(x:S):Prop:=∀X ps,OkS T cf Tx X->mB Tx x X.N X.env.scope ps=true->SB T cf X x ps
theorem noB{x:S}(h:∀N sc ps,mB Tx x N sc ps=false):PBx T cf Tx x:=λX ps _ m=>by rw[h]at m;cases m
theorem noS{x:S}(h:∀N sc p,mS Tx x N sc p=false):PSx T cf Tx x:=λX ps _ m=>by rw[h]at m;cases m
theorem vR_of{G:Str->Expr->Str->Str->Expr->Bool}{p:Expr}(h:vR G p=true):∃n pn q1 n1 p1 n2 p2 q2 pos,p=.Call (.Name n pn) [q1,.Name n1 p1,.Name n2 p2,q2] [] pos/\G n q1 n1 n2 q2=true:=by
 unfold vR at h
 split at h
 ·exact⟨_,_,_,_,_,_,_,_,_,rfl,h⟩
 ·cases h
theorem vO_of{neg:Bool}{G C:Expr->Bool}{p:Expr}(h:vO neg G C p=true):(∃q pos,p=.UnaryOp .Not q pos/\neg=true/\G q=true)\/∃c q pos,p=.BoolOp .Or [c,q] pos/\neg=false/\G q=true/\C c=true:=by
 unfold vO at h
 split at h
 ·rw[aH]at h;exact .inl ⟨_,_,rfl,h.1,h.2⟩
 ·rw[aH,aH,cD]at h;exact .inr ⟨_,_,_,rfl,h.1.1,h.1.2,h.2⟩
 ·cases h
theorem x_comp{x:E}{N:List Str}{sc:Scope}{p:Expr}(hp:eC p=false)(h:mE Tx x N sc p=true):∃own caps g elt src cond,x=.comp own caps g elt src cond:=by
 cases x with
 |comp own caps g elt src cond=>exact⟨_,_,_,_,_,_,rfl⟩
 |var i=>obtain⟨n,pos,rfl,_⟩:=uU h;cases hp
 |rd i=>obtain⟨n,pos,rfl,_⟩:=i_rd h;cases hp
 |con d=>obtain⟨c,k,pos,rfl,_⟩:=Cf h;cases hp
 |glob d=>obtain⟨c,pos,rfl,_⟩:=Cg h;cases hp
 |bin o a b=>obtain⟨c,_,pos,rfl,_⟩:=Ci h;cases hp
 |cmp o a b=>obtain⟨c,_,pos,rfl,_⟩:=Cj h;cases hp
 |and a b=>obtain⟨c,_,_,pos,rfl,_⟩:=Cm h;cases hp
 |or a b=>obtain⟨c,_,_,pos,rfl,_⟩:=i_or h;cases hp
 |not a=>obtain⟨c,pos,rfl,_⟩:=Cn h;cases hp
 |ife c a b=>obtain⟨c,_,_,pos,rfl,_⟩:=Co h;cases hp
 |ix a b=>obtain⟨c,_,pos,rfl,_⟩:=i_ix h;cases hp
 |sl a b c=>obtain⟨c,_,_,_,pos,rfl,_⟩:=i_sl h;cases hp
 |tup a=>obtain⟨c,_,pos,rfl,_⟩:=Cp h;cases hp
 |lst a=>obtain⟨c,pos,rfl,_⟩:=Cq h;cases hp
 |call f a=>obtain⟨c,_,_,pos,rfl,_⟩:=uV h;cases hp
 |dck a=>obtain⟨c,_,_,pos,rfl,_⟩:=Cu h;cases hp
 |srt a=>obtain⟨c,_,_,pos,rfl,_⟩:=Cr h;cases hp
 |srtT a=>obtain⟨c,_,_,pos,rfl,_⟩:=Cs h;cases hp
 |dkl a=>obtain⟨c,_,_,pos,rfl,_⟩:=Ct h;cases hp
 |bt f a=>obtain⟨c,_,_,_,pos,rfl,_⟩:=i_bt h;cases hp
 |lset a=>obtain⟨_,_,_,_,_,_,pos,rfl,_⟩:=Cw h;cases hp
 |sset a=>obtain⟨_,_,_,_,_,_,pos,rfl,_⟩:=Cy h;cases hp
 |mth m a b=>obtain⟨c,_,_,_,pos,rfl,_⟩:=Cv h;cases hp
 |isi a t=>obtain⟨c,_,_,_,_,pos,rfl,_⟩:=Cz h;cases hp
 |neg a=>obtain⟨c,pos,rfl,_⟩:=Ck h;cases hp
 |_=>exact nof h
theorem i_newD{i:Nat}{N:List Str}{sc:Scope}{p:Stmt}(h:mS Tx (.newD i) N sc p=true):∃n pn dpos pos,p=.Assign [.Name n pn] (.Dict [] [] dpos) pos/\mG false N sc (.one i) (.Name n pn)=true:=by
 obtain⟨tg,v,pos,rfl,g1⟩:=pV h
 obtain⟨n,pn,rfl,g2⟩:=pW g1
 obtain⟨h1,h2⟩:=bD g2
 obtain⟨dpos,rfl⟩:=Ce h1
 exact⟨n,pn,dpos,pos,rfl,h2⟩
theorem i_newT{i:Nat}{N:List Str}{sc:Scope}{p:Stmt}(h:mS Tx (.newT i) N sc p=true):∃n pn dpos pos,p=.Assign [.Name n pn] (.Dict [] [] dpos) pos/\mG false N sc (.one i) (.Name n pn)=true:=by
 obtain⟨tg,v,pos,rfl,g1⟩:=pV h
 obtain⟨n,pn,rfl,g2⟩:=pW g1
 obtain⟨h1,h2⟩:=bD g2
 obtain⟨dpos,rfl⟩:=Ce h1
 exact⟨n,pn,dpos,pos,rfl,h2⟩
theorem i_asgN{i:Nat}{x:E}{N:List Str}{sc:Scope}{p:Stmt}(h:mS Tx (.asgN i x) N sc p=true):∃n pn v pos,p=.Assign [.Name n pn] v pos/\(eC v&&!aI x&&mG false N sc (.one i) (.Name n pn)&&mE Tx x N sc v)=true:=by
 cases p with
 |Assign tgs v pos=>
  rcases tgs with _|⟨tg,_|⟨t2,tgs⟩⟩
  ·exact nof h
  ·cases tg with
   |Name n pn=>exact⟨n,pn,v,pos,rfl,h⟩
   |_=>exact nof h
  ·cases tg<;>exact nof h
 |_=>exact nof h
theorem lH{i:Nat}{n:Str}{pos:Pos}(o:OkS T cf Tx X)(h:mG false X.N X.env.scope (.one i) (.Name n pos)=true):X.N[i]?=some n/\Loc X.env.scope n/\(X.fn n=true\/X.env.scope.names.lookup n=some .local):=by
 change (_&&(_||_))=true at h
 simp only[aH,fV,beq_iff_eq,cD,Em,true_and]at h
 exact⟨h.1,h.2,.inl (o.fn n)⟩
theorem DE{i:Nat}{n:Str}{pos pos':Pos}{x:E}{p:Expr}(b:Bool)(o:OkS T cf Tx X)(hp:eC p=false)(h1:mG false X.N X.env.scope (.one i) (.Name n pos)=true)(h2:mE Tx x X.N X.env.scope p=true):SS T cf X (if b then .asgO i x else .asg (.one i) x) (.Assign [.Name n pos] p pos'):=by
 obtain⟨own,caps,g,elt,src,cond,rfl⟩:=x_comp hp h2
 obtain⟨pe,tg,iter,ifs,scope,pos2,rfl,a2,a3,a4,a5,a6,a7,a8,a9,a10,a11,a12⟩:=DB h2
 obtain⟨c1,c2,c3,c4,c5⟩:=DC o.ok (dB elt).1 (dB src).2.2 (dB cond).1 a2 a3 a4 a5 a6 a8 a9 a10 a11 a12
 obtain⟨n1,n2,n3⟩:=lH o h1
 exact IS o.ok.nd n1 n2 n3 o.ok.calm c1 c2 a7 c3 c4 b c5
theorem i_app {i:Nat} {x:E} {N:List Str} {sc:Scope} {p:Stmt} (h:mS Tx (.app i x) N sc p=true):∃n px nm apos q cpos pos,p=.Expr (.Call (.Attribute (.Name n px) nm apos) [q] [] cpos) pos/\(cT N sc i n&&(nm == "append")&&(apos.endLine==cpos.line)&&!aI x&&mE Tx x N sc q)=true:=by
 obtain⟨n,px,nm,apos,es,cpos,pos,rfl,g1⟩:=pU h
 obtain⟨q,rfl,g2⟩:=gD g1
 exact⟨n,px,nm,apos,q,cpos,pos,rfl,g2⟩
theorem i_ext {i:Nat} {x:E} {N:List Str} {sc:Scope} {p:Stmt} (h:mS Tx (.ext i x) N sc p=true):∃n px nm apos q cpos pos,p=.Expr (.Call (.Attribute (.Name n px) nm apos) [q] [] cpos) pos/\(cT N sc i n&&(nm == "extend")&&(apos.endLine==cpos.line)&&!aI x&&mE Tx x N sc q)=true:=by
 obtain⟨n,px,nm,apos,es,cpos,pos,rfl,g1⟩:=pU h
 obtain⟨q,rfl,g2⟩:=gD g1
 exact⟨n,px,nm,apos,q,cpos,pos,rfl,g2⟩
theorem JR{i:Nat}{y x:E}{N:List Str}{sc:Scope}{p:Stmt}(h:mS Tx (.dputV i y x) N sc p=true):∃n px q tpos v pos,p=.Assign [.Subscript (.Name n px) q tpos] v pos/\(cT N sc i n&&eC v&&!aI y&&mE Tx y N sc q&&!aI x&&mE Tx x N sc v)=true:=by
 obtain⟨tg,v,pos,rfl,g1⟩:=pV h
 obtain⟨n,px,q,tpos,rfl,g2⟩:=Cd g1
 exact⟨n,px,q,tpos,v,pos,rfl,g2⟩
theorem i_rev {i:Nat} {N:List Str} {sc:Scope} {p:Stmt} (h:mS Tx (.rev i) N sc p=true):∃n px nm apos cpos pos,p=.Expr (.Call (.Attribute (.Name n px) nm apos) [] [] cpos) pos/\(cT N sc i n&&(nm == "reverse")&&(apos.endLine==cpos.line))=true:=by
 obtain⟨n,px,nm,apos,es,cpos,pos,rfl,g1⟩:=pU h
 obtain⟨h1,h2⟩:=bD g1
 cases es with
 |nil=>exact⟨n,px,nm,apos,cpos,pos,rfl,h2⟩
 |cons _ _=>exact nof h1
theorem JS{i:Nat}{n:Str}{x:E}{p:Expr}{pos pos':Pos}(hx:eC p=true)(hN:X.N.Nodup)(hi:X.N[i]?=some n)(hl:Loc X.env.scope n)(hf:X.fn n=true\/X.env.scope.names.lookup n=some .local)(h:SE T cf X x p):SS T cf X (.asg (.one i) x) (.Assign [.Name n pos'] p pos):=λH₀ O₀=>by
 refine PS.imp (λD' σ H hq=>?_) (jV hN hi hl (h H₀ O₀) (iV hx) hf)
 obtain⟨ts,e,out,⟨O,own,F,tt⟩,ev,k⟩:=hq
 rw[oT]at ev
 obtain⟨d,e1,ev⟩:=Res.bind_ok ev
 obtain⟨e2,e3,ev⟩:=Res.bind_ok ev
 cases ev
 cases e3
 exact⟨O,own,e,d,F,e1,λv H' s' r n=>k _ H' ⟨O,_,(F.grow s').setV i r,λt ht=>(tt t ht).same s'⟩⟩
theorem DF:∀x:S,PSx T cf Tx x/\PBx T cf Tx x:=by
 intro x
 induction x with
 |nil=>
  refine⟨noS λN sc p=>rfl,λX ps o h=>?_⟩
  cases ps with
  |nil=>exact sb_nil
  |cons _ _=>exact nof h
 |cons a r iha ihr=>
  refine⟨noS λN sc p=>rfl,λX ps o h=>?_⟩
  by_cases hs:∃i,a=.sealed i
  ·obtain⟨i,rfl⟩:=hs
   exact IC (ihr.2 X ps o h)
  ·cases ps with
   |nil=>
    exfalso
    cases a<;>first|(exact hs ⟨_,rfl⟩)|exact nof h
   |cons p ps=>
    have h':(mS Tx a X.N X.env.scope p&&mB Tx r X.N X.env.scope ps)=true:=by
     cases a<;>first|(exact absurd ⟨_,rfl⟩ hs)|exact h
    rw[aH]at h'
    exact IB (iha.1 X p o h'.1) (ihr.2 X ps o h'.2)
 |ret x=>
  refine⟨λX p o h=>?_,noB λN sc ps=>rfl⟩
  cases p with
  |Return v pos=>cases v with
   |some p=>
    change (_&&_)=true at h;simp only[aH,cD]at h
    exact ss_ret (((dB x).1 X p o.ok h.2).2.1 h.1)
   |none=>exact nof h
  |_=>exact nof h
 |retO i=>
  refine⟨λX p o h=>?_,noB λN sc ps=>rfl⟩
  cases p with
  |Return v pos=>cases v with
   |some p=>cases p with
    |Name n pn=>
     obtain⟨a1,a2,a3,a4⟩:=fO h
     exact ID a1 a2 a3 a4
    |_=>exact nof h
   |none=>exact nof h
  |_=>exact nof h
 |asg g x=>
  refine⟨λX p o h=>?_,noB λN sc ps=>rfl⟩
  cases p with
  |Assign tgs p pos=>
   rcases tgs with _|⟨tg,_|⟨t2,tgs⟩⟩
   ·exact nof h
   ·change (_&&_)=true at h;simp only[aH,cD,fV]at h
    obtain⟨⟨⟨h1,h2⟩,h3⟩,h4⟩:=h
    obtain⟨g1,g2⟩:=uX o.ok.calm o.ok.nd (λn _=>o.fn n) h2
    by_cases hc:eC p=true
    ·by_cases ht:pN p=true
     ·exact ss_asg hc ht g2 (((dB x).1 X p o.ok h3).2.1 h1) g1
     ·rcases h4 with z|z
      ·exact absurd z.2 ht
      ·cases g with
       |one i=>cases tg with
        |Name n pn=>
         obtain⟨n1,n2,n3⟩:=lH o h2
         exact JS hc o.ok.nd n1 n2 n3 (((dB x).1 X p o.ok h3).2.1 h1)
        |_=>cases z
       |many _=>cases z
    ·have hc':eC p=false:=by simpa using hc
     rcases h4 with z|z
     ·exact absurd z.1 hc
     ·cases g with
      |one i=>cases tg with
       |Name n pn=>exact DE false o hc' h2 h3
       |_=>cases z
      |many _=>cases z
   ·exact nof h
  |_=>exact nof h
 |asgO i x=>
  refine⟨λX p o h=>?_,noB λN sc ps=>rfl⟩
  cases p with
  |Assign tgs p pos=>
   rcases tgs with _|⟨tg,_|⟨t2,tgs⟩⟩
   ·exact nof h
   ·cases tg with
    |Name n pn=>
     change (_&&_)=true at h;simp only[aH,cD]at h
     obtain⟨⟨h1,h2⟩,h3⟩:=h
     by_cases hc:eC p=true
     ·obtain⟨n1,n2,n3⟩:=lH o h2
      exact IG hc o.ok.nd n1 n2 n3 (((dB x).1 X p o.ok h3).2.1 h1)
     ·exact DE true o (by simpa using hc) h2 h3
    |_=>exact nof h
   ·cases tg<;>exact nof h
  |_=>exact nof h
 | «sealed» i=>exact⟨noS λN sc p=>rfl,noB λN sc ps=>rfl⟩
 |ite c a b iha ihb=>
  refine⟨λX p o h=>?_,noB λN sc ps=>rfl⟩
  cases p with
  |If p ps qs pos=>
   change (_&&_)=true at h;simp only[aH]at h
   exact ss_ite ((dB c).1 X p o.ok h.1.1).2.2.1 (iha.2 X ps o h.1.2) (ihb.2 X qs o h.2)
  |_=>exact nof h
 |forS g src b ihb=>
  refine⟨λX p o h=>?_,noB λN sc ps=>rfl⟩
  cases p with
  |For tg p ps qs pos=>cases qs with
   |nil=>
    change (_&&_)=true at h;simp only[aH]at h
    have hg:=(uX o.ok.calm o.ok.nd (λn _=>o.fn n) h.1.2).1
    obtain⟨s1,s2⟩:=(dB src).2.2 X false tg p o.ok h.1.1
    exact ss_for o.pass o.ok.calm s2 s1 hg (ihb.2 X ps o h.2)
   |cons _ _=>exact nof h
  |_=>exact nof h
 |app i x=>
  refine⟨λX p o h=>?_,noB λN sc ps=>rfl⟩
  obtain⟨n,px,nm,apos,q,cpos,pos,rfl,hn⟩:=i_app h
  simp only[aH,beq_iff_eq,cD]at hn
  obtain⟨a1,a2,a3,a4⟩:=fO hn.1.1.1.1
  obtain⟨_,b2,_,b4,_⟩:=(dB x).1 X q o.ok hn.2
  exact ss_app a1 a2 a3 a4 hn.1.1.1.2 (by simpa using hn.1.1.2) b4 (b2 hn.1.2)
 |rev i=>
  refine⟨λX p o h=>?_,noB λN sc ps=>rfl⟩
  obtain⟨n,px,nm,apos,cpos,pos,rfl,hn⟩:=i_rev h
  simp only[aH,beq_iff_eq]at hn
  obtain⟨a1,a2,a3,a4⟩:=fO hn.1.1
  exact ss_rev a1 a2 a3 a4 hn.1.2 (by simpa using hn.2)
 |ext i x=>
  refine⟨λX p o h=>?_,noB λN sc ps=>rfl⟩
  obtain⟨n,px,nm,apos,q,cpos,pos,rfl,hn⟩:=i_ext h
  simp only[aH,beq_iff_eq,cD]at hn
  obtain⟨a1,a2,a3,a4⟩:=fO hn.1.1.1.1
  obtain⟨_,b2,_,b4,_⟩:=(dB x).1 X q o.ok hn.2
  exact ss_ext a1 a2 a3 a4 hn.1.1.1.2 (by simpa using hn.1.1.2) b4 (b2 hn.1.2)
 |never=>
  exact⟨λX p o h=>IJ,noB λN sc ps=>rfl⟩
 |exp x=>
  refine⟨λX p o h=>?_,noB λN sc ps=>rfl⟩
  cases p with
  |Expr q pos=>
   change (_&&_)=true at h;simp only[aH]at h
   cases x with
   |call f a=>
    have b:=((dB (.call f a)).1 X q o.ok h.2).2.1 rfl
    obtain⟨c,_,_,pos2,rfl,_⟩:=uV h.2
    exact ss_exp rfl b
   |_=>exact nof h.1
  |_=>exact nof h
 |newD i=>
  refine⟨λX p o h=>?_,noB λN sc ps=>rfl⟩
  obtain⟨n,pn,dpos,pos,rfl,hn⟩:=i_newD h
  obtain⟨n1,n2,n3⟩:=lH o hn
  exact IH o.ok.nd n1 n2 n3
 |newT i=>
  refine⟨λX p o h=>?_,noB λN sc ps=>rfl⟩
  obtain⟨n,pn,dpos,pos,rfl,hn⟩:=i_newT h
  obtain⟨n1,n2,n3⟩:=lH o hn
  exact II o.ok.nd n1 n2 n3
 |dputR i y x=>
  refine⟨λX p o h=>?_,noB λN sc ps=>rfl⟩
  obtain⟨tg,v,pos,rfl,g1⟩:=pV h
  obtain⟨n,px,q,tpos,rfl,hn⟩:=Cd g1
  simp only[aH,cD]at hn
  obtain⟨⟨⟨⟨⟨h1,h2⟩,h3⟩,h4⟩,h5⟩,h6⟩:=hn
  obtain⟨a1,a2,a3,a4⟩:=fO h1
  exact JI o.ok.roomy a1 a2 a3 a4 h2 (((dB y).1 X q o.ok h4).2.1 h3) (((dB x).1 X v o.ok h6).2.1 h5)
 |extN i j=>
  refine⟨λX p o h=>?_,noB λN sc ps=>rfl⟩
  obtain⟨n,px,nm,apos,es,cpos,pos,rfl,g1⟩:=pU h
  obtain⟨q,rfl,g2⟩:=gD g1
  obtain⟨m,pm,rfl,hn⟩:=pW g2
  simp only[aH,beq_iff_eq]at hn
  obtain⟨⟨⟨h1,h2⟩,h3⟩,h4⟩:=hn
  obtain⟨a1,a2,a3,a4⟩:=fO h1
  exact JK a1 a2 a3 a4 h2 (by rw[beq_iff_eq];exact h3) (fO h4)
 |retR x i j=>
  refine⟨λX p o h=>?_,noB λN sc ps=>rfl⟩
  cases p with
  |Return v pos=>cases v with
   |some p=>
    change (_&&_)=true at h;simp only[aH,cD]at h
    exact JJ (((dB x).1 X p o.ok h.2).2.1 h.1)
   |none=>exact nof h
  |_=>exact nof h
 |ifR neg c f x i j y a b iha ihb=>
  refine⟨λX p o h=>?_,noB λN sc ps=>rfl⟩
  cases p with
  |If p ps qs pos=>
   change (_&&_&&_)=true at h
   rw[aH,aH]at h
   have sa:=iha.2 X ps o h.1.2
   have sb:=ihb.2 X qs o h.2
   have go:∀p,vR (λn p n1 n2 q=>Tx.dm.contains (f,n)&&glB X.env.scope n&&iF n&&cT X.N X.env.scope i n1&&cT X.N X.env.scope j n2&&!aI x&&!aI y&&mE Tx x X.N X.env.scope p&&mE Tx y X.N X.env.scope q) p=true->∃n pn q1 n1 p1 n2 p2 q2 pos,p=.Call (.Name n pn) [q1,.Name n1 p1,.Name n2 p2,q2] [] pos/\lG T cf X f n/\Gl X n/\(n==("__debug__" : Str))=false/\bA q1=true/\bA q2=true /\
    (X.N[i]?=some n1/\Vis X.env.scope n1/\(n1==("__debug__" : Str))=false/\(n1==("__classdict__" : Str))=false)/\(X.N[j]?=some n2/\Vis X.env.scope n2/\(n2==("__debug__" : Str))=false/\(n2==("__classdict__" : Str))=false)/\SE T cf X x q1/\SE T cf X y q2:=by
    intro p hp
    obtain⟨n,pn,q1,n1,p1,n2,p2,q2,pos,rfl,hn⟩:=vR_of hp
    simp only[aH,cD]at hn
    obtain⟨⟨⟨⟨⟨⟨⟨⟨h1,h2⟩,h3⟩,h4⟩,h5⟩,h6⟩,h7⟩,h8⟩,h9⟩:=hn
    obtain⟨_,x2,_,x4,_⟩:=(dB x).1 X q1 o.ok h8
    obtain⟨_,y2,_,y4,_⟩:=(dB y).1 X q2 o.ok h9
    exact⟨n,pn,q1,n1,p1,n2,p2,q2,pos,rfl,o.ok.dm (f,n) (jQ.mp h1),eD h2,pX h3,x4,y4,fO h4,fO h5,x2 h6,y2 h7⟩
   rcases vO_of h.1.1 with⟨p',pos',rfl,rfl,g⟩|⟨c',p',pos',rfl,rfl,g,gc⟩
   ·obtain⟨n,pn,q1,n1,p1,n2,p2,q2,pos2,rfl,d1,d2,d3,d4,d5,d6,d7,d8,d9⟩:=go p' g
    exact ss_ifN d1 d2 d3 d4 d5 d6 d7 d8 d9 sa sb
   ·obtain⟨n,pn,q1,n1,p1,n2,p2,q2,pos2,rfl,d1,d2,d3,d4,d5,d6,d7,d8,d9⟩:=go p' g
    exact ss_ifC d1 d2 d3 d4 d5 d6 d7 ((dB c).1 X c' o.ok gc).2.2.1 d8 d9 sa sb
  |_=>exact nof h
 |dputV i y x=>
  refine⟨λX p o h=>?_,noB λN sc ps=>rfl⟩
  obtain⟨n,px,q,tpos,v,pos,rfl,hn⟩:=JR h
  simp only[aH,cD]at hn
  obtain⟨⟨⟨⟨⟨h1,h2⟩,h3⟩,h4⟩,h5⟩,h6⟩:=hn
  obtain⟨a1,a2,a3,a4⟩:=fO h1
  exact JG o.ok.roomy a1 a2 a3 a4 h2 (((dB y).1 X q o.ok h4).2.1 h3) (((dB x).1 X v o.ok h6).2.1 h5)
 |asgN i x=>
  refine⟨λX p o h=>?_,noB λN sc ps=>rfl⟩
  obtain⟨n,pn,v,pos,rfl,hn⟩:=i_asgN h
  simp only[aH,cD]at hn
  obtain⟨n1,n2,n3⟩:=lH o hn.1.2
  cases hv:CZ x with
  |none=>exact Iz hn.1.1.1 o.ok.nd n1 n2 n3 hv (((dB x).1 X v o.ok hn.2).2.1 hn.1.1.2)
  |some j=>
   cases x with
   |var j=>
    obtain⟨m,pm,rfl,hm⟩:=uU hn.2
    obtain⟨a1,a2,a3,a4⟩:=fO hm
    exact JA o.ok.nd n1 n2 n3 a1 a2 a3 a4
   |_=>cases hv
end
end Tr
namespace Tr
open PySem PySem.Spec PyProof.Rows L2 PySem.W
section
variable{T:Tab}{cf:Nat->List D->Res D}{Tx:Txt}
end
end Tr
namespace Tr
open PySem PySem.Spec PyProof.Rows L2
set_option genInjectivity false in
structure DefT where
 nm:Str
 st:Stmt
 N:List Str
 ps:List Str
 body:S
 told:Option Told:=none
noncomputable def DefT.df(t:DefT):Df:=⟨t.N.length,t.ps.length,t.body,t.told⟩
noncomputable def uY(N P:List Str)(sc:Scope):Bool:=(sc.kind==.function)&&!sc.isCoroutine&&!sc.isGenerator&&gR N&&(N.take P.length==P)&&P.all (λx=>(sc.names.lookup x==some .local)||(sc.names.lookup x==some .cell))&&sc.names.all (λy=>!(y.2==.free))
theorem JT{N P:List Str}{sc:Scope}(h:uY N P sc=true):FnScope N P sc:=by
 simp only[uY,aH,dN,fV,cD,beq_iff_eq,beq_eq_false_iff_ne,ne_eq]at h
 obtain⟨⟨⟨⟨⟨⟨h1,h2⟩,h3⟩,h4⟩,h5⟩,h6⟩,h7⟩:=h
 exact⟨h1,h2,h3,pS h4,h5,h6,h7⟩
noncomputable def DefT.okB(Tx:Txt)(t:DefT):Bool:=uY t.N t.ps (eO t.st)&&(t.told.isSome||mB Tx t.body t.N (eO t.st) (iA t.st))
noncomputable def DG(K:PySem.W.Frag)(mg:Str->Option Value)(n:Str)(d:D):Prop:=∃v u,mg n=some u/\RelV v u/\∀H O,RD K H O d v
noncomputable def IniK(K:PySem.W.Frag)(mg:Str->Option Value)(c:Str):Prop:=False
structure TextOk0(K:PySem.W.Frag)(mg:Str->Option Value)(T:Tab)(Tx:Txt)(defs:List DefT):Prop where
 dn:∀g nm,Tx.dn[g]?=some nm->T.mv g=none/\∃t,defs[g]?=some t/\nm=t.nm
 ok:defs.all (·.okB Tx)=true
 funs:∀t∈defs,∃f fd,Fun K t.nm t.nm t.st f fd/\mg t.nm=some (.ref f)/\Binds K fd t.ps []
 globs:∀g n,Tx.gn[g]?=some n->DG K mg n (T.glob g)
 blt:∀n∈kE,mg n=none
 tf:∀q∈Tx.tf,∃(a:Addr)(xs:List V),mg q.1=some (.ref a)/\(∀H,SqT K H a xs)/\xs.length=q.2.length/\∀(j f:Nat),q.2[j]?=some f->∃(ad:Addr)(t:DefT),xs[j]?=some (V.ref ad)/\mg t.nm=some (.ref ad)/\defs[f]?=some t
 ts:∀q∈Tx.ts,∃a:Addr,mg q.1=some (.ref a)/\ModS K a q.2
 cls:∀c∈Tx.cls,∃C,ClsIs K mg c C
 ini:∀c∈Tx.icl,IniK K mg c
 dm:∀q∈Tx.dm,∃t,defs[q.1]?=some t/\q.2=t.nm
 tmv:∀q∈Tx.tf,∀f∈q.2,T.mv f=none
noncomputable def ToldOk(K:PySem.W.Frag)(mg:Str->Option Value)(T:Tab)(defs:List DefT)(t:DefT):Prop:=∀(P:Program)(w:World)(base:Heap)(n i:Nat)(f:Addr)(fd:FuncData),defs[i]?=some t->Fun K t.nm t.nm t.st f fd ->
 (∀i t,defs[i]?=some t->∀f fd,Fun K t.nm t.nm t.st f fd->FnOk P w K mg base (CXE P w) (n+2) f fd t.ps (gQ K T (aB T (defs.map DefT.df) n i) i)) ->
 FnOk P w K mg base (CXE P w) (n+1+2) f fd t.ps (spD K (aB T (defs.map DefT.df) (n+1) i) (T.fresh i))
set_option genInjectivity false in
structure TextOk(K:PySem.W.Frag)(mg:Str->Option Value)(T:Tab)(Tx:Txt)(defs:List DefT):Prop extends TextOk0 K mg T Tx defs where
 told:∀t∈defs,∀td,t.told=some td->ToldOk K mg T defs t
 nmv:∀i t,defs[i]?=some t->t.told.isSome=true->T.mv i=none
theorem dn_of{T:Tab}{Tx:Txt}{defs:List DefT}(h1:(defs.take Tx.dn.length).map (·.nm)=Tx.dn)(h2:(aD Tx.dn.length).all (λg=>(T.mv g).isNone)=true):∀g nm,Tx.dn[g]?=some nm->T.mv g=none/\∃t,defs[g]?=some t/\nm=t.nm:=λg nm h=>by
 have hl:g<Tx.dn.length:=by
  by_cases z:g<Tx.dn.length
  ·exact z
  ·rw[jS (by lia)]at h;cases h
 refine⟨Option.isNone_iff_eq_none.mp (dN.mp h2 g (bO.mpr hl)),?_⟩
 rw[<-h1,bK,Lb hl]at h
 cases e:defs[g]? with
 |none=>rw[e]at h;cases h
 |some t=>rw[e]at h;cases h;exact⟨t,rfl,rfl⟩
theorem DH{P:Program}{w:World}{K:PySem.W.Frag}{mg:Str->Option Value}{base:Heap}{T:Tab}{Tx:Txt}{defs:List DefT}(X:TextOk0 K mg T Tx defs){n:Nat}{N:List Str}{nm:Str}{sc:Scope}{f:Addr}{cdv:Value}{A:Around}{outer:List Env}{s:Shared}{H:Hp}{E:XK}(hr:Room (n+2) (A.deeper (envOfC nm sc s.heap.objs.size f cdv)))(nd:N.Nodup)
 (ih:∀i t,defs[i]?=some t->∀f fd,Fun K t.nm t.nm t.st f fd->FnOk P w K mg base (CXE P w) (n+2) f fd t.ps (gQ K T (aB T (defs.map DefT.df) n i) i)) :
 OkX T (aB T (defs.map DefT.df) n) Tx (fW (CXE P w) P w K mg base N nm sc f cdv A outer s H E).nox:=by
 have dfa:∀g t',defs[g]?=some t'->lG T (aB T (defs.map DefT.df) n) (fW (CXE P w) P w K mg base N nm sc f cdv A outer s H E).nox g t'.nm:=λg t' e=>by
  obtain⟨f',fd',F',m',b'⟩:=X.funs t' (gW e)
  exact⟨n+2,f',fd',t'.ps,ih g t' e f' fd' F',hr,m',F'.kp,b'⟩
 have dfi:∀g t',T.mv g=none->defs[g]?=some t'->nA T (aB T (defs.map DefT.df) n) (fW (CXE P w) P w K mg base N nm sc f cdv A outer s H E).nox g t'.nm:=λg t' hm e=>by
  obtain⟨k',f',fd',ps',h1,h2⟩:=dfa g t' e
  rw[nE hm]at h1
  exact⟨k',f',fd',ps',h1,h2⟩
 exact⟨rfl,hr.units,λg nm hg=>by
  obtain⟨hm,t',e,rfl⟩:=X.dn g nm hg
  exact dfi g t' hm e,λg nm hg=>X.globs g nm hg,X.blt,nd,λq hq=>by
  obtain⟨a,xs,h1,h2,h3,h4⟩:=X.tf q hq
  refine⟨a,xs,h1,h2,h3,λj g hg=>?_⟩
  obtain⟨ad,t',h5,h6,h7⟩:=h4 j g hg
  exact⟨ad,t'.nm,h5,h6,dfi g t' (X.tmv q hq g (gW hg)) h7⟩,X.ts,λq hq=>by
  obtain⟨t',e,e2⟩:=X.dm q hq
  rw[e2]
  exact dfa q.1 t' e⟩
theorem uZ{P:Program}{w:World}{K:PySem.W.Frag}{mg:Str->Option Value}{base:Heap}{x qual:Str}{st:Stmt}{f:Addr}{fd:FuncData}{N ps:List Str}{k:Nat}{sp:Sp}(F:Fun K x qual st f fd)(S:FnScope N ps (eO st))(len:∀vs H Q E,sp vs H Q E->vs.length=ps.length)
 (hbody:∀(cdv:Value)(A:Around)(outer:List Env)(s:Shared)(H:Hp)(vs:List V)(Q:VK)(E:XK),Room k (A.deeper (envOfC qual (eO st) s.heap.objs.size f cdv))->sp vs H Q E ->
  ∃t,PSs (fW (CXE P w) P w K mg base N qual (eO st) f cdv A outer s H E) (iA st) t/\t {nx:=λ_ H'=>Q .non H',rt:=Q} (cQ N vs) H):FnOk P w K mg base (CXE P w) (k+1) f fd ps sp:=by
 obtain⟨oc,od,kV,doc,pm,an,cdv,ct,osl,rfl,lk,hcd⟩:=F.ex
 exact fn_of lk hcd S len λA outer s H vs Q E hr hsp=>hbody cdv A outer s H vs Q E hr hsp
section
variable{P:Program}{w:World}{K:PySem.W.Frag}{mg:Str->Option Value}{base:Heap}{T:Tab}{Tx:Txt}{defs:List DefT}
theorem DI{H Hb:Hp}{O:Addr->Prop}{N:List Str}{ds:List D}{vs:List V}(sm:Same Hb H)(w:RDs K H O ds vs)(tr:∀a,O a->∃o,Hb a=some o)(n:Nat)(hn:n=N.length-vs.length) :
 Fm K Hb O H O (λ_=>none) (ds.map Sl.v++aW n Sl.no) (cQ N vs) where
 len:=by
  unfold L2.cQ
  rw[bR,bR,aF,aF,eL,eL,w.length,hn,w.length]
 sl:=λi=>by
  by_cases hi:i<ds.length
  ·obtain⟨v,h1,h2⟩:=w.get (aX hi)
   have e1:Nv.at (ds.map Sl.v++aW n Sl.no) i=.v ds[i]:=by
    unfold Nv.at
    rw[kO (by rw[aF];exact hi),bK,aX hi];rfl
   have e2:cB (cQ N vs) i=some v:=by
    unfold cB L2.cQ
    rw[kO (by rw[aF,w.length];exact hi),bK,h1];rfl
   rw[e1,e2]
   exact⟨v,rfl,h2⟩
  ·have e1:Nv.at (ds.map Sl.v++aW n Sl.no) i=.no:=by
    unfold Nv.at
    rw[gM (by rw[aF];lia),lS]
    split<;>rfl
   rw[e1];trivial
 inj:=λ_ _ _ h=>by cases h
 same:=sm
 sub:=λ_ h=>h
 trk0:=tr
 trk:=λa h=>let ⟨o,q⟩:=tr a h;⟨o,sm _ _ q⟩
 new:=λ_ _ h=>by cases h
 nw:=λi d a h _=>by
  exfalso
  by_cases hi:i<ds.length
  ·have e1:Nv.at (ds.map Sl.v++aW n Sl.no) i=.v ds[i]:=by
    unfold Nv.at
    rw[kO (by rw[aF];exact hi),bK,aX hi];rfl
   rw[e1]at h;cases h
  ·have e1:Nv.at (ds.map Sl.v++aW n Sl.no) i=.no:=by
    unfold Nv.at
    rw[gM (by rw[aF];lia),lS]
    split<;>rfl
   rw[e1]at h;cases h
theorem JU{H:Hp}{O:Addr->Prop}{N:List Str}{ds:List D}{vs:List V}(w:RDs K H O ds vs)(tr:∀a,O a->∃o,H a=some o)(n:Nat)(hn:n=N.length-vs.length) :
 Fm K H O H O (λ_=>none) (ds.map Sl.v++aW n Sl.no) (cQ N vs):=DI (Same.refl H) w tr n hn
theorem JV{H Hb:Hp}{O:Addr->Prop}{N:List Str}{ds:List D}{vs:List V}(sm:Same Hb H)(w:RDs K H O ds vs)(tr:∀a,O a->∃o,Hb a=some o)(n:Nat)(hn:n=N.length-vs.length){j:Nat}{d0:D}{v0:V}(h1:ds[j]?=some d0)(h2:vs[j]?=some v0)(h3:NV K H O d0 v0)(h4:∀a,v0=.ref a->Hb a=none) :
 ∃own,Fm K Hb O H O own (eG (some j) ds++aW n Sl.no) (cQ N vs):=by
 have F:=(DI (N:=N) sm w tr n hn).setN j h3 h4
 have e1:(ds.map Sl.v++aW n Sl.no).set j (.n d0)=eG (some j) ds++aW n Sl.no:=by
  have hj:j<ds.length:=by
   by_cases z:j<ds.length
   ·exact z
   ·rw[jS (by lia)]at h1;cases h1
  rw[List.set_append_left _ _ (by rw[aF];exact hj)]
  show _=(ds.map Sl.v).set j (.n (ds.getD j .non))++_
  rw[eU,h1];rfl
 have e2:(cQ N vs).set j (some v0)=cQ N vs:=by
  have q:(cQ N vs)[j]?=some (some v0):=by
   unfold L2.cQ
   have hj:j<vs.length:=by
    by_cases z:j<vs.length
    ·exact z
    ·rw[jS (by lia)]at h2;cases h2
   rw[kO (by rw[aF];exact hj),bK,h2];rfl
  apply Lj
  intro i
  by_cases z:j=i
  ·subst z
   obtain⟨hl,_⟩:=gL.mp q
   rw[sF hl,q]
  ·rw[sG z]
 rw[e1,e2]at F
 exact⟨_,F⟩
noncomputable def pY(H:Hp)(a b:Addr):Hp:=λc=>if c=a\/c=b then none else H c
theorem DJ{H:Hp}{a b c:Addr}(h1:c≠a)(h2:c≠b):pY H a b c=H c:=if_neg λz=>z.elim h1 h2
theorem JW{H:Hp}{O:Addr->Prop}{N:List Str}{x y:D}{j k:List (Sum Int Str×D)}{v w:V}{a b:Addr}(ab:a≠b)(oa:O a)(ob:O b)(tr:∀c,O c->∃o,H c=some o)(rx:RD K H O x v)(ry:RD K H O y w)(ha:OwnAt K H O a (.dct j))(hb:OwnAt K H O b (.dct k))(n:Nat)(hn:n=N.length-4) :
 Fm K (pY H a b) (λc=>O c/\c≠a/\c≠b) H O (λi=>if i=1 then some a else if i=2 then some b else none) ([.v x,.r a (.dct j),.r b (.dct k),.v y]++aW n Sl.no) (cQ N [v,.ref a,.ref b,w]) where
 len:=by
  unfold L2.cQ
  rw[bR,bR,eL,eL,hn];rfl
 sl:=λi=>by
  match i with
  |0=>exact⟨v,rfl,rx⟩
  |1=>exact⟨rfl,rfl,ha⟩
  |2=>exact⟨rfl,rfl,hb⟩
  |3=>exact⟨w,rfl,ry⟩
  |i+4=>
   have e1:Nv.at ([.v x,.r a (.dct j),.r b (.dct k),.v y]++aW n Sl.no) (i+4)=.no:=by
    unfold Nv.at
    rw[gM (by show 4<=i+4;lia),lS]
    split<;>rfl
   rw[e1];trivial
 inj:=λi i' c h1 h2=>by
  split at h1<;>split at h2
  ·lia
  ·split at h2
   ·cases h1;cases h2;exact absurd rfl ab
   ·cases h2
  ·split at h1
   ·cases h1;cases h2;exact absurd rfl ab
   ·cases h1
  ·split at h1<;>split at h2
   ·lia
   ·cases h2
   ·cases h1
   ·cases h1
 same:=λc o q=>by
  unfold pY at q
  split at q
  ·cases q
  ·exact q
 sub:=λc h=>h.1
 trk0:=λc h=>by rw[DJ h.2.1 h.2.2];exact tr c h.1
 trk:=tr
 new:=λi c h=>by
  split at h
  ·cases h;exact⟨oa,if_pos (.inl rfl)⟩
  ·split at h
   ·cases h;exact⟨ob,if_pos (.inr rfl)⟩
   ·cases h
 nw:=λi d c h _=>by
  exfalso
  match i with
  |0=>cases h
  |1=>cases h
  |2=>cases h
  |3=>cases h
  |i+4=>
   have e1:Nv.at ([.v x,.r a (.dct j),.r b (.dct k),.v y]++aW n Sl.no) (i+4)=.no:=by
    unfold Nv.at
    rw[gM (by show 4<=i+4;lia),lS]
    split<;>rfl
   rw[e1]at h;cases h
theorem DK(X:TextOk K mg T Tx defs):∀n i t,defs[i]?=some t->∀f fd,Fun K t.nm t.nm t.st f fd->FnOk P w K mg base (CXE P w) (n+2) f fd t.ps (gQ K T (aB T (defs.map DefT.df) n i) i)
 |0,i,t,hi,f,fd,F=>by
  have no:∀vs H Q E,¬gQ K T (aB T (defs.map DefT.df) 0 i) i vs H Q E:=λvs H Q E h=>by
   cases hmv:T.mv i with
   |none=>
    rw[nE hmv]at h
    obtain⟨O,ds,_,_,⟨d,ev,_⟩|⟨c,d,ev,_⟩⟩:=h
    ·cases ev
    ·cases ev
   |some j=>
    by_cases hj:j=1000
    ·subst hj
     rw[uO hmv]at h
     obtain⟨_,_,_,_,_,_,_,_,_,_,_,_,_,_,_,_,ev,_⟩:=h
     cases ev
    ·rw[CU hmv hj]at h
     obtain⟨O,ds,Hb,d0,v0,_,_,_,_,_,_,_,⟨d,ev,_⟩|⟨c,d,ev,_⟩⟩:=h
     ·cases ev
     ·cases ev
  exact⟨λvs H Q E h=>absurd h (no vs H Q E),λA outer s H args us vs Q E _ _ _ _ h=>absurd h (no vs H Q E)⟩
 |n+1,i,t,hi,f,fd,F=>by
  have ih:=DK X n
  cases ht:t.told with
  |some td=>
   rw[nE (X.nmv i t hi (by rw[ht];rfl))]
   exact X.told t (gW hi) td ht P w base n i f fd hi F ih
  |none=>
  have hok:=dN.mp X.ok t (gW hi)
  unfold DefT.okB at hok
  rw[ht,Option.isSome_none,sI,aH]at hok
  have S:=JT hok.1
  have hdf:(defs.map DefT.df)[i]?=some ⟨t.N.length,t.ps.length,t.body,none⟩:=by rw[bK,hi];show some (DefT.df t)=_;unfold DefT.df;rw[ht]
  have lenOf:∀ds r,aB T (defs.map DefT.df) (n+1) i ds=r->r≠.no->ds.length=t.ps.length:=by
   intro ds r ev hr
   rw[lB,hdf]at ev
   by_cases c:(ds.length==t.df.pars)=true
   ·exact(by simpa using c:ds.length=t.df.pars)
   ·have c':(ds.length==t.df.pars)=false:=by simpa using c
    have ev:aE (ds.length==t.df.pars) _=r:=ev
    rw[c']at ev
    exact absurd ev.symm hr
  by_cases hrf:T.mv i=some 1000
  ·rw[uO hrf]
   have len4:∀vs H Q E,spR K (aB T (defs.map DefT.df) (n+1) i) vs H Q E->vs.length=t.ps.length:=λvs H Q E h=>by
    obtain⟨_,_,_,_,_,_,_,_,_,_,_,_,rfl,_,_,_,ev,_⟩:=h
    exact lenOf _ _ ev (λz=>by cases z)
   refine uZ F S len4 (λcdv A outer s H vs Q E hr h=>?_)
   have hl:=len4 vs H Q E h
   obtain⟨O,x,y,j,k,v,u,a,b,r,j',k',rfl,ab,⟨oa,ob,tr⟩,⟨rx,ry,ha,hb⟩,ev,kk⟩:=h
   have okx:=DH (P:=P) (w:=w) (base:=base) X.toTextOk0 (cdv:=cdv) (outer:=outer) (H:=H) (E:=E) (f:=f) hr S.nd ih
   have oks:OkS T (aB T (defs.map DefT.df) n) Tx (fW (CXE P w) P w K mg base t.N t.nm (eO t.st) f cdv A outer s H E).nox:=⟨okx,rfl,λ_=>rfl⟩
   rw[lB,hdf]at ev
   obtain⟨_,ev⟩:=aV ev
   rw[if_pos hrf]at ev
   have ev:(match exS T (aB T (defs.map DefT.df) n) t.body ([.v x,.r (a:Nat) (.dct j),.r (b:Nat) (.dct k),.v y]++aW (t.N.length-t.ps.length) Sl.no)with
    |.ok (.rr x a1 j b1 k)=>aE (a1==a&&b1==b) (Res.ok (D.tup [x,.dct j,.dct k]))
    |_=>.no)=.ok (.tup [r,.dct j',.dct k']):=ev
   cases hs:exS T (aB T (defs.map DefT.df) n) t.body ([.v x,.r (a:Nat) (.dct j),.r (b:Nat) (.dct k),.v y]++aW (t.N.length-t.ps.length) Sl.no)with
   |ok out=>
    rw[hs]at ev
    cases out with
    |rr x1 a1 j1 b1 k1=>
     obtain⟨c2,ev⟩:=aV ev
     cases ev
     rw[aH,beq_iff_eq,beq_iff_eq]at c2
     obtain⟨rfl,rfl⟩:=c2
     refine⟨_,((DF t.body).2 _ _ oks hok.2 (pY H a1 b1) (λc=>O c/\c≠a1/\c≠b1)).nox,?_⟩
     refine⟨[],_,_,⟨O,_,JW (N:=t.N) ab oa ob tr rx ry ha hb (t.N.length-t.ps.length) (by rw[<-hl];rfl),λt ht=>by cases ht⟩,hs,?_⟩
     intro v' H' s' r' o1 o2
     have wk:∀c,O c->(O c/\c≠a1/\c≠b1)\/c=a1\/c=b1:=λc hc=>by
      by_cases z1:c=a1
      ·exact .inr (.inl z1)
      ·by_cases z2:c=b1
       ·exact .inr (.inr z2)
       ·exact .inl ⟨hc,z1,z2⟩
     exact kk v' H' (λc o n1 n2 q=>s' c o (by rw[DJ n1 n2];exact q)) (r'.weak wk) (o1.weak wk) (o2.weak wk)
    |_=>cases ev
   |err _ _=>rw[hs]at ev;cases ev
   |no=>rw[hs]at ev;cases ev
  have open1:∀ds,ds.length=t.ps.length->aB T (defs.map DefT.df) (n+1) i ds=(match exX T (aB T (defs.map DefT.df) n) t.body (eG (T.mv i) ds++aW (t.N.length-t.ps.length) Sl.no)with
   |some z=>.err z.1 z.2
   |none=>match exS T (aB T (defs.map DefT.df) n) t.body (eG (T.mv i) ds++aW (t.N.length-t.ps.length) Sl.no)with
    |.ok (.rt x k)=>aE (k||!T.fresh i) (.ok x)
    |.ok (.nx _)=>aE (!T.fresh i) (.ok .non)
    |_=>.no):=by
   intro ds hl
   rw[lB,hdf]
   exact(aZ (by simpa using hl) _).trans (if_neg hrf)
  have un:∀ds d,aB T (defs.map DefT.df) (n+1) i ds=.ok d->∃out,exS T (aB T (defs.map DefT.df) n) t.body (eG (T.mv i) ds++aW (t.N.length-t.ps.length) Sl.no)=.ok out /\
   ((∃k,out=.rt d k/\(k=true\/T.fresh i=false))\/(∃e,out=.nx e/\d=.non/\T.fresh i=false)):=by
   intro ds d ev
   rw[open1 ds (lenOf ds _ ev (λz=>by cases z))]at ev
   cases hx:exX T (aB T (defs.map DefT.df) n) t.body (eG (T.mv i) ds++aW (t.N.length-t.ps.length) Sl.no)with
   |some z=>rw[hx]at ev;cases ev
   |none=>
    rw[hx]at ev
    cases hs:exS T (aB T (defs.map DefT.df) n) t.body (eG (T.mv i) ds++aW (t.N.length-t.ps.length) Sl.no)with
    |ok out=>
     rw[hs]at ev
     refine⟨out,rfl,?_⟩
     cases out with
     |nx e=>
      obtain⟨c2,ev⟩:=aV ev
      cases ev
      exact .inr ⟨e,rfl,rfl,by simpa using c2⟩
     |rt x k=>
      obtain⟨c2,ev⟩:=aV ev
      cases ev
      exact .inl ⟨k,rfl,by simpa using c2⟩
     |bk e=>cases ev
     |ct e=>cases ev
     |rr _ _ _ _ _=>cases ev
    |err _ _=>rw[hs]at ev;cases ev
    |no=>rw[hs]at ev;cases ev
  have unX:∀ds c d,aB T (defs.map DefT.df) (n+1) i ds=.err c d->exX T (aB T (defs.map DefT.df) n) t.body (eG (T.mv i) ds++aW (t.N.length-t.ps.length) Sl.no)=some (c,d):=by
   intro ds c d ev
   rw[open1 ds (lenOf ds _ ev (λz=>by cases z))]at ev
   cases hx:exX T (aB T (defs.map DefT.df) n) t.body (eG (T.mv i) ds++aW (t.N.length-t.ps.length) Sl.no)with
   |some z=>rw[hx]at ev;cases ev;rfl
   |none=>
    rw[hx]at ev
    exfalso
    cases hs:exS T (aB T (defs.map DefT.df) n) t.body (eG (T.mv i) ds++aW (t.N.length-t.ps.length) Sl.no)with
    |ok out=>
     rw[hs]at ev
     cases out with
     |nx e=>have ev:aE (!T.fresh i) (Res.ok D.non)=Res.err c d:=ev;unfold aE at ev;split at ev<;>cases ev
     |rt x k=>have ev:aE (k||!T.fresh i) (Res.ok x)=Res.err c d:=ev;unfold aE at ev;split at ev<;>cases ev
     |bk e=>cases ev
     |ct e=>cases ev
     |rr _ _ _ _ _=>cases ev
    |err _ _=>rw[hs]at ev;cases ev
    |no=>rw[hs]at ev;cases ev
  have core:∀(cdv:Value)(A:Around)(outer:List Env)(s:Shared)(H Hb:Hp)(O:Addr->Prop)(ds:List D)(vs:List V)(own:Nat->Option Addr)(Q:VK)(E:XK),Room (n+2) (A.deeper (envOfC t.nm (eO t.st) s.heap.objs.size f cdv))->Fm K Hb O H O own (eG (T.mv i) ds++aW (t.N.length-t.ps.length) Sl.no) (cQ t.N vs) ->
   ((∃d,aB T (defs.map DefT.df) (n+1) i ds=.ok d/\∀v H',Same Hb H'->RD K H' O d v->(T.fresh i=true->NewR K Hb H' O d v)->Q v H')\/∃c d,aB T (defs.map DefT.df) (n+1) i ds=.err c d/\∀od H',Same Hb H'->uE d od H'->E (cvK K c) od H') ->
   ∃tt,PSs (fW (CXE P w) P w K mg base t.N t.nm (eO t.st) f cdv A outer s H E) (iA t.st) tt/\tt {nx:=λ_ H'=>Q .non H',rt:=Q} (cQ t.N vs) H:=by
   intro cdv A outer s H Hb O ds vs own Q E hr Fs h
   have okx:=DH (P:=P) (w:=w) (base:=base) X.toTextOk0 (cdv:=cdv) (outer:=outer) (H:=H) (E:=E) (f:=f) hr S.nd ih
   have oks:OkS T (aB T (defs.map DefT.df) n) Tx (fW (CXE P w) P w K mg base t.N t.nm (eO t.st) f cdv A outer s H E).nox:=⟨okx,rfl,λ_=>rfl⟩
   rcases h with⟨d,ev,k⟩|⟨c,d,ev,k⟩
   ·obtain⟨out,e1,e2⟩:=un ds d ev
    refine⟨_,((DF t.body).2 _ _ oks hok.2 Hb O).nox,?_⟩
    refine⟨[],_,out,⟨O,own,Fs,λt ht=>by cases ht⟩,e1,?_⟩
    rcases e2 with⟨fr,rfl,hf⟩|⟨e,rfl,rfl,hf⟩
    ·intro v H' s' r nl
     refine k v H' s' r λz=>nl ?_
     rcases hf with q|q
     ·exact q
     ·rw[z]at q;cases q
    ·rintro σ' H' ⟨O',own',F',_⟩
     exact k .non H' F'.same rfl λz=>by rw[z]at hf;cases hf
   ·exact nomatch unX ds c d ev
  cases hmv:T.mv i with
  |none=>
   rw[nE hmv]
   rw[hmv]at core
   refine uZ F S (λvs H Q E h=>?_) (λcdv A outer s H vs Q E hr h=>?_)
   ·obtain⟨O,ds,_,rr,⟨d,ev,_⟩|⟨c,d,ev,_⟩⟩:=h
    ·rw[rr.length];exact lenOf ds _ ev (λz=>by cases z)
    ·rw[rr.length];exact lenOf ds _ ev (λz=>by cases z)
   ·obtain⟨O,ds,tr,rr,h⟩:=h
    have hl:ds.length=t.ps.length:=by
     rcases h with⟨d,ev,_⟩|⟨c,d,ev,_⟩
     ·exact lenOf ds _ ev (λz=>by cases z)
     ·exact lenOf ds _ ev (λz=>by cases z)
    exact core cdv A outer s H H O ds vs _ Q E hr (JU (N:=t.N) rr tr (t.N.length-t.ps.length) (by rw[rr.length,hl])) h
  |some j=>
   rw[CU hmv (λz=>hrf (by rw[hmv,z]))]
   rw[hmv]at core
   refine uZ F S (λvs H Q E h=>?_) (λcdv A outer s H vs Q E hr h=>?_)
   ·obtain⟨O,ds,Hb,d0,v0,_,_,rr,_,_,_,_,⟨d,ev,_⟩|⟨c,d,ev,_⟩⟩:=h
    ·rw[rr.length];exact lenOf ds _ ev (λz=>by cases z)
    ·rw[rr.length];exact lenOf ds _ ev (λz=>by cases z)
   ·obtain⟨O,ds,Hb,d0,v0,sm,tr,rr,g1,g2,g3,g4,h⟩:=h
    have hl:ds.length=t.ps.length:=by
     rcases h with⟨d,ev,_⟩|⟨c,d,ev,_⟩
     ·exact lenOf ds _ ev (λz=>by cases z)
     ·exact lenOf ds _ ev (λz=>by cases z)
    obtain⟨own,Fs⟩:=JV (N:=t.N) sm rr tr (t.N.length-t.ps.length) (by rw[rr.length,hl]) g1 g2 g3 g4
    exact core cdv A outer s H Hb O ds vs own Q E hr Fs h
theorem law_sp{i n:Nat}(hT:∀ns:List Int,ns.length<=63->aB T (defs.map DefT.df) n i [.lst (ns.map D.int)]=.ok (.bl true))(K:PySem.W.Frag)(H:Hp)(a:Addr)(ns:List Int)(hl:ns.length<=63)(hS:SqL K H a (ns.map V.int)) :
 spD K (aB T (defs.map DefT.df) n i) (T.fresh i) [.ref a] H (λv _=>v=.bl true) (λ_ _ _=>False):=by
 refine⟨no,[.lst (ns.map D.int)],λa h=>h.elim,⟨.ref a,[],rfl,⟨a,ns.map V.int,rfl,?_,?_⟩,rfl⟩,.inl ⟨.bl true,hT ns hl,λv H' _ r _=>r⟩⟩
 ·rcases hS with z|z
  ·exact .inl ⟨λq=>q,z⟩
  ·exact .inr z
 ·clear hl hS
  induction ns with
  |nil=>exact rfl
  |cons i r ih=>exact⟨.int i,r.map V.int,rfl,rfl,ih⟩
end
end Tr
namespace Tr
open PySem PySem.Spec PyProof.Rows L2 PySem.W
section
variable{X:Cx}{i:Nat}{x c:Str}{C:Addr}{b:Bool}{p:Expr}
end
noncomputable def isNon:D->Bool
 |.non=>true
 |_=>false
section
variable{T:Tab}{cf:Nat->List D->Res D}
end
section
variable{K:PySem.W.Frag}{mg:Str->Option Value}{T:Tab}{Tx:Txt}{defs:List DefT}
end
section
variable{K:PySem.W.Frag}{mg:Str->Option Value}{T:Tab}{Tx:Txt}{defs:List DefT}
theorem JX(X:TextOk0 K mg T Tx defs)(h:defs.filter (λt=>t.told.isSome)=[]):TextOk K mg T Tx defs:=
 ⟨X,λt ht td e=>by
  have:t∈defs.filter (λt=>t.told.isSome):=cP.mpr ⟨ht,by rw[e];rfl⟩
  rw[h]at this;exact(nomatch this),λi t hi hs=>by
  have:t∈defs.filter (λt=>t.told.isSome):=cP.mpr ⟨gW hi,hs⟩
  rw[h]at this;cases this⟩
end
section
variable{K:PySem.W.Frag}{mg:Str->Option Value}{T:Tab}{Tx:Txt}{defs:List DefT}
end
section
variable{K:PySem.W.Frag}{mg:Str->Option Value}{T:Tab}{Tx:Txt}{defs:List DefT}
end
end Tr
namespace Tr
open PySem PySem.Spec PyProof.Rows L2
theorem len1{P:List Value->Prop}(h:∀a0:Value,P [a0]):∀us:List Value,us.length=1->P us
 |[_],_=>h _
theorem kF{P:List Value->Prop}(h:∀a0 a1:Value,P [a0,a1]):∀us:List Value,us.length=2->P us
 |[_,_],_=>h _ _
theorem iH{P:List Value->Prop}(h:∀a0 a1 a2:Value,P [a0,a1,a2]):∀us:List Value,us.length=3->P us
 |[_,_,_],_=>h _ _ _
theorem len4{P:List Value->Prop}(h:∀a0 a1 a2 a3:Value,P [a0,a1,a2,a3]):∀us:List Value,us.length=4->P us
 |[_,_,_,_],_=>h _ _ _ _
theorem len5{P:List Value->Prop}(h:∀a0 a1 a2 a3 a4:Value,P [a0,a1,a2,a3,a4]):∀us:List Value,us.length=5->P us
 |[_,_,_,_,_],_=>h _ _ _ _ _
theorem bY{K:PySem.W.Frag}{h:Heap}{mg:Str->Option Value}(X:K.In h)(G:h.Ns mainGlobals mg){x:Str}{st:Stmt}{ps:List Str}{f:Addr}{oc:Value}{od an:Option Addr}{osl:Array (Option Value)}{kV doc pm cdv ct:Value}
 (a:PySem.W.nsIn K mainGlobals x=some (some (.ref f))) (l:K.lookup f=some ⟨oc,od,.func (PySem.W.fnOf x x (jX st) (iA st) (eO st) .none kV doc pm an cdv ct),osl⟩)
 (c:PySem.W.codeIn K cdv x=true) (k:PySem.W.keepIn K (.ref f)=true)
 (hb:∀(kV doc pm:Value)(an:Option Addr)(cdv ct:Value)(us:List Value),us.length=ps.length->bindArgs (PySem.W.fnOf x x (jX st) (iA st) (eO st) .none kV doc pm an cdv ct) ⟨us,[]⟩=pure (ps.zip us)) :
 ∃f fd,Fun K x x st f fd/\mg x=some (.ref f)/\Binds K fd ps []:=
 ⟨f,_,AU l c k,PySem.W.mg_of X G a,(AU (st:=st) l c k).binds hb⟩
theorem pZ{K:PySem.W.Frag}{h:Heap}{mg:Str->Option Value}(X:K.In h)(G:h.Ns mainGlobals mg){x:Str}{i:Int}{t:Tok}(a:PySem.W.nsIn K mainGlobals x=some (some (.int i t))):DG K mg x (.int i):=
 ⟨.int i,.int i t,PySem.W.mg_of X G a,⟨t,rfl⟩,λ_ _=>rfl⟩
theorem dU{K:PySem.W.Frag}{h:Heap}{mg:Str->Option Value}(X:K.In h)(G:h.Ns mainGlobals mg){x:Str}(a:PySem.W.nsIn K mainGlobals x=some none):mg x=none:=PySem.W.mg_none_of X G a
theorem walkT{l:PySem.W.OpenLaw}{q:Program}{loose:List Str}{XP:(Str->Option Value)->Heap->Prop}{YP:World->Heap->Prop}{d:DefRec}{K:Params->PySem.W.Frag}{T:Tab}{Tx:Txt}{defs:List DefT}{i n:Nat}{tl:DefT}{x:Str}
 (hi:defs[i]?=some tl) (hps:tl.ps=[x]) (hnm:tl.nm=d.name)
 (hn:l.most=some 63) (hdf:d.params.defaults=[]) (hr:Room (n+2) callerA)
 (hT:∀ns:List Int,ns.length<=63->aB T (defs.map DefT.df) n i [.lst (ns.map D.int)]=.ok (.bl true))
 (hY:∀(w:World)(h:Heap),YP w h->(K w.params).In h)
 (hX:∀(w:World)(mg:Str->Option Value)(h:Heap),(K w.params).In h->h.Ns mainGlobals mg->TextOk (K w.params) mg T Tx defs)
 (hb:∀(kV doc pm:Value)(an:Option Addr)(cdv ct:Value)(u:Value),bindArgs (PySem.W.fnOf tl.nm tl.nm (jX tl.st) (iA tl.st) (eO tl.st) .none kV doc pm an cdv ct) ⟨[u],[]⟩=pure [(x,u)]) (hmv:T.mv i=none:=by rfl) :
 PySem.W.WalkO q loose XP YP l.row.toRowW d [] (λf vs=>PySem.call f vs):=by
 refine L2.GB (K:=K) (n:=63) (k:=n+2) (x:=x) (CX:=λw=>CXE l.prog w) (sp:=λw=>spD (K w.params) (aB T (defs.map DefT.df) n i) (T.fresh i)) hn (by decide) hdf hr hY ?_ (λw H a ns hl _ hS=>law_sp hT (K w.params) H a ns hl hS) (λ_ _ _ _ _ h=>by obtain⟨_,_,_,_,_,_,_,_,_,_,_,_,_,_,_,_,_,z⟩:=h;exact z.elim)
 intro w mg fa h KX G hmg
 have tx:=hX w mg h KX G
 obtain⟨f,fd,F,m,_⟩:=tx.funs tl (gW hi)
 rw[hnm,hmg]at m
 cases m
 refine⟨fd,λs u=>?_,λbase kb nb=>?_⟩
 ·obtain⟨oc,od,kV,doc,pm,an,cdv,ct,osl,rfl,lk,hcd⟩:=F.ex
  exact .of_eq (hb kV doc pm an cdv ct u)
 ·have:=DK (P:=l.prog) (w:=w) (base:=base) tx n i tl hi fa fd F
  rw[hps,nE hmv]at this
  exact this
end Tr
namespace Tr
theorem all_cons{α:Type}{p:α->Prop}{a:α}{l:List α}(h:p a)(r:∀x∈l,p x):∀x∈a::l,p x:=List.forall_mem_cons.mpr ⟨h,r⟩
theorem jN{α:Type}{p:α->Prop}:∀x∈([]:List α),p x:=λ_ h=>by cases h
theorem qA{α:Type}{p:Nat->α->Prop}{a:α}{l:List α}(h:p 0 a)(r:∀g n,l[g]?=some n->p (g+1) n):∀g n,(a::l)[g]?=some n->p g n
 |0,n,e=>by simp at e;subst e;exact h
 |g+1,n,e=>r g n (by simpa using e)
theorem gl_nil{α:Type}{p:Nat->α->Prop}:∀g n,([]:List α)[g]?=some n->p g n:=λg n e=>by simp at e
end Tr
namespace Tr
open PySem
section
variable{T:Tab}{cf:Nat->List D->Res D}{e:Nv}
@[simp] theorem JY{i:Nat}:evE T cf (.var i) e=(e.at i).val:=id rfl
@[simp] theorem evE_rd{i:Nat}:evE T cf (.rd i) e=(e.at i).any:=id rfl
@[simp] theorem JZ{d:D}:evE T cf (.con d) e=.ok d:=id rfl
@[simp] theorem evE_glob{g:Nat}:evE T cf (.glob g) e=.ok (T.glob g):=id rfl
@[simp] theorem J0{o:Operator}{a b:E}:evE T cf (.bin o a b) e=(do let x<-evE T cf a e;let y<-evE T cf b e;D.bin o x y):=id rfl
@[simp] theorem evE_cmp{o:CmpOp}{a b:E}:evE T cf (.cmp o a b) e=(do let x<-evE T cf a e;let y<-evE T cf b e;D.cmp o x y):=id rfl
@[simp] theorem evE_and{a b:E}:evE T cf (.and a b) e=(do let x<-evE T cf a e;let k<-x.truth;if k then evE T cf b e else .ok x):=id rfl
@[simp] theorem evE_or{a b:E}:evE T cf (.or a b) e=(do let x<-evE T cf a e;let k<-x.truth;if k then .ok x else evE T cf b e):=id rfl
@[simp] theorem evE_not{a:E}:evE T cf (.not a) e=(do let x<-evE T cf a e;let k<-x.truth;.ok (.bl (!k))):=id rfl
@[simp] theorem evE_ife{c a b:E}:evE T cf (.ife c a b) e=(do let x<-evE T cf c e;let k<-x.truth;if k then evE T cf a e else evE T cf b e):=id rfl
@[simp] theorem evE_ix{a b:E}:evE T cf (.ix a b) e=(do let x<-evE T cf a e;let y<-evE T cf b e;D.ix x y):=id rfl
@[simp] theorem evE_sl{a lo hi:E}:evE T cf (.sl a lo hi) e=(do let x<-evE T cf a e;let l<-evE T cf lo e;let l<-l.part;let h<-evE T cf hi e;let h<-h.part;D.sl x l h):=id rfl
@[simp] theorem evE_omit:evE T cf .omit e=.ok .non:=id rfl
@[simp] theorem evE_tup{a:E}:evE T cf (.tup a) e=(do let xs<-evA T cf a e;.ok (.tup xs)):=id rfl
@[simp] theorem evE_lst{a:E}:evE T cf (.lst a) e=(do let xs<-evA T cf a e;.ok (.lst xs)):=id rfl
@[simp] theorem evE_call{f:Nat}{a:E}:evE T cf (.call f a) e=(do let xs<-evA T cf a e;cf f xs):=id rfl
@[simp] theorem evI_seqD{a:E}:evI T cf (.seqD a) e=(do let x<-evE T cf a e;mL x):=id rfl
@[simp] theorem evE_srt{a:E}:evE T cf (.srt a) e=(do let x<-evE T cf a e;mO x):=id rfl
@[simp] theorem evE_dck{a:E}:evE T cf (.dck a) e=(do let x<-evE T cf a e;mN x):=id rfl
@[simp] theorem evE_bt{b:Bt}{a:E}:evE T cf (.bt b a) e=(do let xs<-evA T cf a e;b.run xs):=id rfl
@[simp] theorem evE_isi{a:E}{t:Ty}:evE T cf (.isi a t) e=(do let x<-evE T cf a e;aE (!x.isDct) (.ok (.bl (x.isTy t)))):=id rfl
@[simp] theorem evE_mth{m:Mt}{a b:E}:evE T cf (.mth m a b) e=(do let x<-evE T cf a e;let y<-evE T cf b e;m.run x y):=id rfl
@[simp] theorem evE_lset{a:E}:evE T cf (.lset a) e=(do let x<-evE T cf a e;x.setN):=id rfl
theorem J1{x:D}{ks:List (Sum Int Str)}(h:x.keys=.ok ks):x.setN=aE (decide (ks.length+1<4096)) (.ok (.int (kA ks).length)):=by
 unfold D.setN
 rw[h]
@[simp] theorem evE_sset{a:E}:evE T cf (.sset a) e=(do let x<-evE T cf a e;oN x):=id rfl
noncomputable def negR:D->Res D
 |.int i=>.ok (.int (-i))
 |_=>.no
@[simp] theorem neg_int{i:Int}:negR (.int i)=.ok (.int (-i)):=id rfl
@[simp] theorem evE_neg{a:E}:evE T cf (.neg a) e=(evE T cf a e>>=negR):=by
 rw[A6]
 cases evE T cf a e with
 |ok x=>cases x<;>rfl
 |err _ _=>rfl
 |no=>rfl
noncomputable def aG(T:Tab)(cf:Nat->List D->Res D)(own:Nat)(caps:List Nat)(g:G)(elt cond:E)(e:Nv)(d:D):Res (Option D):=do
 let e1<-g.put d (aQ own caps e)
 let c<-evE T cf cond e1
 let k<-c.truth
 if k then do let y<-evE T cf elt e1;.ok (some y)else .ok none
@[simp] theorem J2{own:Nat}{caps:List Nat}{g:G}{elt src cond:E}:evE T cf (.comp own caps g elt src cond) e=(do
 let ds<-evI T cf src e
 let ys<-aR (aG T cf own caps g elt cond e) ds
 aE (decide (ds.length<=big)) (.ok (.lst ys))):=id rfl
@[simp] theorem evA_nil:evA T cf .anil e=.ok []:=id rfl
@[simp] theorem evA_cons{a r:E}:evA T cf (.acons a r) e=(do let x<-evE T cf a e;let q<-evA T cf r e;aE (decide (q.length<1000)) (.ok (x::q))):=id rfl
@[simp] theorem evI_seq{a:E}:evI T cf (.seq a) e=(do let x<-evE T cf a e;x.items):=id rfl
noncomputable def qB:D->Res (List D)
 |.int n=>aE (eP n) (.ok (eA 0 n.toNat))
 |_=>.no
noncomputable def nG:D->D->Res (List D)
 |.int n,.int m=>aE (eP n&&eP m) (.ok (eA n (m-n).toNat))
 |_,_=>.no
noncomputable def vB:D->Res (List D)
 |.lst ds=>.ok (cR 0 ds)
 |_=>.no
@[simp] theorem evI_rng{a:E}:evI T cf (.rng a) e=(do let x<-evE T cf a e;qB x):=by
 rw[Ac]
 cases evE T cf a e with
 |ok x=>cases x<;>rfl
 |err _ _=>rfl
 |no=>rfl
@[simp] theorem J3{a b:E}:evI T cf (.rng2 a b) e=(do let x<-evE T cf a e;match x with | .int _=>do let y<-evE T cf b e;nG x y|_=>.no):=by
 rw[Ad]
 cases evE T cf a e with
 |ok x=>
  cases x<;>try rfl
  show(do let y<-evE T cf b e;_)=(do let y<-evE T cf b e;_)
  cases evE T cf b e with
  |ok y=>cases y<;>rfl
  |err _ _=>rfl
  |no=>rfl
 |err _ _=>rfl
 |no=>rfl
@[simp] theorem evI_enum{a:E}:evI T cf (.enum a) e=(do let x<-evE T cf a e;vB x):=by
 rw[Ae]
 cases evE T cf a e with
 |ok x=>cases x<;>rfl
 |err _ _=>rfl
 |no=>rfl
theorem rng_ok{n:Nat}(h:n<4611686018427387904):qB (.int n)=.ok (eA 0 n):=by
 show aE (eP n) _=_
 rw[aZ (by unfold eP;rw[decide_eq_true (by lia),decide_eq_true (by lia)];rfl)]
 simp
theorem DL{n m:Nat}(h:n<4611686018427387904)(h2:m<4611686018427387904):nG (.int n) (.int m)=.ok (eA n (m-n)):=by
 show aE (eP n&&eP m) _=_
 rw[aZ (by unfold eP;rw[decide_eq_true (by lia),decide_eq_true (by lia),decide_eq_true (by lia),decide_eq_true (by lia)];rfl)]
 congr 2
 lia
noncomputable def aS(T:Tab)(cf:Nat->List D->Res D)(g:G)(b:S)(d:D)(e0:Nv):Res Out:=do let e1<-g.put d e0;exS T cf b e1
noncomputable def qC(T:Tab)(cf:Nat->List D->Res D)(r:S):Out->Res Out
 |.nx e1=>exS T cf r e1
 |o=>.ok o
@[simp] theorem J4{r:S}:qC T cf r (.nx e)=exS T cf r e:=id rfl
@[simp] theorem thenS_rr{r:S}{d:D}{a b:Nat}{j k:List (Sum Int Str×D)}:qC T cf r (.rr d a j b k)=.ok (.rr d a j b k):=id rfl
@[simp] theorem thenS_rt{r:S}{d:D}{k:Bool}:qC T cf r (.rt d k)=.ok (.rt d k):=id rfl
@[simp] theorem J5:exS T cf .nil e=.ok (.nx e):=id rfl
@[simp] theorem J6{a r:S}:exS T cf (.cons a r) e=(exS T cf a e>>=qC T cf r):=by
 rw[oS]
 cases exS T cf a e with
 |ok o=>cases o<;>rfl
 |err _ _=>rfl
 |no=>rfl
@[simp] theorem exS_ret{x:E}:exS T cf (.ret x) e=(do let d<-evE T cf x e;.ok (.rt d (bL T x&&!kB d))):=id rfl
@[simp] theorem tupL_lst{a:List D}:kB (.lst a)=false:=id rfl
@[simp] theorem tupL_int{a:Int}:kB (.int a)=false:=id rfl
@[simp] theorem tupL_ttup{a r:List D}:kB (.tup (.tup a::r))=false:=id rfl
@[simp] theorem exS_retO{i:Nat}:exS T cf (.retO i) e=(do let a<-(e.at i).ownA;.ok (.rt a (!a.isDct))):=id rfl
@[simp] theorem exS_newD{i:Nat}:exS T cf (.newD i) e=.ok (.nx (e.set i (.o (.dct [])))):=id rfl
@[simp] theorem exS_newT{i:Nat}:exS T cf (.newT i) e=.ok (.nx (e.set i (.o (.tdc [])))):=id rfl
@[simp] theorem exS_dputV{i:Nat}{k x:E}:exS T cf (.dputV i k x) e=(do
 let d<-evE T cf x e
 let a<-(e.at i).ownT
 let y<-evE T cf k e
 let key<-oO y
 aE (decide (a.length<big)) (.ok (.nx (e.set i (.o (.tdc (jZ a key d))))))):=id rfl
@[simp] theorem exS_asg{g:G}{x:E}:exS T cf (.asg g x) e=(do let d<-evE T cf x e;let e1<-g.put d e;.ok (.nx e1)):=id rfl
noncomputable def setO(k:Bool)(i:Nat)(e:Nv):D->Res Out
 |.lst a=>aE k (.ok (.nx (e.set i (.o (.lst a)))))
 |.dct a=>aE k (.ok (.nx (e.set i (.o (.dct a)))))
 |.tdc a=>aE k (.ok (.nx (e.set i (.o (.tdc a)))))
 |_=>.no
@[simp] theorem setO_ok{i:Nat}{a:List D}:setO true i e (.lst a)=.ok (.nx (e.set i (.o (.lst a)))):=id rfl
@[simp] theorem exS_asgO{i:Nat}{x:E}:exS T cf (.asgO i x) e=(do let d<-evE T cf x e;setO (bL T x) i e d):=by
 rw[oU]
 cases evE T cf x e with
 |ok o=>cases o<;>rfl
 |err _ _=>rfl
 |no=>rfl
@[simp] theorem exS_sealed{i:Nat}:exS T cf (.sealed i) e=(do let a<-(e.at i).ownA;.ok (.nx (e.set i (.v a)))):=id rfl
@[simp] theorem exS_ite{c:E}{a b:S}:exS T cf (.ite c a b) e=(do let x<-evE T cf c e;let k<-x.truth;if k then exS T cf a e else exS T cf b e):=id rfl
@[simp] theorem any_r{a:Nat}{d:D}:(Sl.r a d).any=.ok d:=id rfl
@[simp] theorem refD_r{a:Nat}{k:List (Sum Int Str×D)}:(Sl.r a (.dct k)).refD=.ok (a,k):=id rfl
@[simp] theorem givD_r{a:Nat}{k:List (Sum Int Str×D)}:(Sl.r a (.dct k)).givD=.ok k:=id rfl
@[simp] theorem givD_o{k:List (Sum Int Str×D)}:(Sl.o (.dct k)).givD=.ok k:=id rfl
@[simp] theorem giv_r{a:Nat}{d x:D}:(Sl.r a d).giv x=.r a x:=id rfl
@[simp] theorem giv_o{d x:D}:(Sl.o d).giv x=.o x:=id rfl
@[simp] theorem exS_dputR{i:Nat}{k x:E}:exS T cf (.dputR i k x) e=(do
 let d<-evE T cf x e
 let a<-(e.at i).refD
 let y<-evE T cf k e
 let key<-Res.of (dP y)
 aE (decide (a.2.length<big)) (.ok (.nx (e.set i (.r a.1 (.dct (dQ a.2 key d))))))):=id rfl
@[simp] theorem exS_retR{x:E}{i j:Nat}:exS T cf (.retR x i j) e=(do
 let d<-evE T cf x e
 let a<-(e.at i).refD
 let b<-(e.at j).refD
 .ok (.rr d a.1 a.2 b.1 b.2)):=id rfl
theorem ifR_t{c:E}{f:Nat}{x:E}{i j:Nat}{y:E}{a b:S}{z:D}(hm:T.mv f=some 1000)(ij:i≠j)(h:evE T cf c e=.ok z)(hz:z.truth=.ok true):exS T cf (.ifR false c f x i j y a b) e=exS T cf a e:=by
 rw[lC,aZ (by rw[decide_eq_true hm,decide_eq_true ij];rfl),if_neg aU,h,Res.ok_bind,hz,Res.ok_bind,if_pos rfl]
theorem DM{neg:Bool}{c:E}{f:Nat}{x:E}{i j:Nat}{y:E}{a b:S}{z d1 d2 r:D}{g h g' h':List (Sum Int Str×D)}{k:Bool}(hm:T.mv f=some 1000)(ij:i≠j)(h0:neg=true\/(evE T cf c e=.ok z/\z.truth=.ok false))(h1:evE T cf x e=.ok d1)(h2:(e.at i).givD=.ok g)(h3:(e.at j).givD=.ok h)(h4:evE T cf y e=.ok d2)
 (h5:fX cf f d1 g h d2=.ok (r,g',h')) (h6:r.truth=.ok k):exS T cf (.ifR neg c f x i j y a b) e=if(k != neg)=true then exS T cf a ((e.set i ((e.at i).giv (.dct g'))).set j ((e.at j).giv (.dct h')))else exS T cf b ((e.set i ((e.at i).giv (.dct g'))).set j ((e.at j).giv (.dct h'))):=by
 rw[lC,aZ (by rw[decide_eq_true hm,decide_eq_true ij];rfl)]
 have e0:(if neg=true then Res.ok false else do let z<-evE T cf c e;z.truth)=.ok false:=by
  rcases h0 with h0|⟨h0,h0'⟩
  ·rw[if_pos h0]
  ·cases neg with
   |true=>rfl
   |false=>rw[if_neg aU,h0,Res.ok_bind,h0']
 rw[e0,Res.ok_bind,if_neg aU,h1,Res.ok_bind,h2,Res.ok_bind,h3,Res.ok_bind,h4,Res.ok_bind,h5,Res.ok_bind,h6,Res.ok_bind]
@[simp] theorem exS_for{g:G}{src:E}{b:S}:exS T cf (.forS g src b) e=(do let ds<-evI T cf src e;bC (aS T cf g b) ds e):=id rfl
@[simp] theorem exS_app{i:Nat}{x:E}:exS T cf (.app i x) e=(do
 let d<-evE T cf x e
 let a<-(e.at i).own
 aE (decide (a.length<big)) (.ok (.nx (e.set i (.o (.lst (a++[d]))))))):=id rfl
@[simp] theorem exS_rev{i:Nat}:exS T cf (.rev i) e=(do let a<-(e.at i).own;.ok (.nx (e.set i (.o (.lst a.reverse))))):=id rfl
noncomputable def extO(k:Bool)(i:Nat)(e:Nv):D->Res Out
 |.lst b=>do
  let a<-(e.at i).own
  aE (k&&decide (a.length+b.length<=big)) (.ok (.nx (e.set i (.o (.lst (a++b))))))
 |_=>.no
@[simp] theorem J7{k:Bool}{i:Nat}{b:List D}:extO k i e (.lst b)=(do
 let a<-(e.at i).own
 aE (k&&decide (a.length+b.length<=big)) (.ok (.nx (e.set i (.o (.lst (a++b))))))):=id rfl
@[simp] theorem J8{i:Nat}{x:E}:exS T cf (.ext i x) e=(do let d<-evE T cf x e;extO (bL T x) i e d):=by
 rw[Ai]
 cases evE T cf x e with
 |ok o=>cases o<;>rfl
 |err _ _=>rfl
 |no=>rfl
@[simp] theorem exS_never:exS T cf .never e=.no:=id rfl
@[simp] theorem exS_exp{x:E}:exS T cf (.exp x) e=(do let _<-evE T cf x e;.ok (.nx e)):=id rfl
@[simp] theorem fresh_lst{a:E}:bL T (.lst a)=true:=id rfl
@[simp] theorem fresh_add{a b:E}:bL T (.bin .Add a b)=true:=id rfl
@[simp] theorem J9{n:Nat}{c:List Nat}{g:G}{x y z:E}:bL T (.comp n c g x y z)=true:=id rfl
@[simp] theorem fresh_call{f:Nat}{a:E}:bL T (.call f a)=T.fresh f:=id rfl
end
@[simp] theorem when_if{α:Type}{c:Bool}(h:c=true)(r:Res α):aE c r=r:=aZ h r
@[simp] theorem J_{x:Sl}{r:List Sl}:Nv.at (x::r) 0=x:=id rfl
@[simp] theorem Ja{x:Sl}{r:List Sl}{i:Nat}:Nv.at (x::r) (i+1)=Nv.at r i:=id rfl
@[simp] theorem val_v{d:D}:(Sl.v d).val=.ok d:=id rfl
@[simp] theorem any_o{d:D}:(Sl.o d).any=.ok d:=id rfl
@[simp] theorem own_o{a:List D}:(Sl.o (.lst a)).own=.ok a:=id rfl
@[simp] theorem ownA_o{d:D}:(Sl.o d).ownA=.ok d:=id rfl
@[simp] theorem ownT_o{a:List (List (Sum Int Str)×D)}:(Sl.o (.tdc a)).ownT=.ok a:=id rfl
@[simp] theorem qD{i:Int}:Res.of (dP (.int i))=.ok (.inl i):=id rfl
@[simp] theorem isDct_lst{i:List D}:(D.lst i).isDct=false:=id rfl
theorem qE{k:D}{kvs:List (Sum Int Str×D)}:D.ix (.dct kvs) k=(do let q<-Res.of (dP k);Res.of (bG kvs q)):=by cases k<;>rfl
@[simp] theorem Jb{i:Nat}{d:D}{e:Nv}:G.put (.one i) d e=.ok (e.set i (.v d)):=id rfl
@[simp] theorem put_many{is:List Nat}{ds:List D}{e:Nv}:G.put (.many is) (.tup ds) e=cY is ds e:=id rfl
@[simp] theorem puts_nil{e:Nv}:cY [] [] e=.ok e:=id rfl
@[simp] theorem puts_cons{i:Nat}{is:List Nat}{d:D}{ds:List D}{e:Nv}:cY (i::is) (d::ds) e=cY is ds (e.set i (.v d)):=id rfl
@[simp] theorem truth_bl{b:Bool}:(D.bl b).truth=.ok b:=id rfl
@[simp] theorem Jc{i j:Int}:D.bin .Add (.int i) (.int j)=.ok (.int (i+j)):=id rfl
@[simp] theorem Jd{i j:Int}(h:-(2^64)<i/\i<2^64):D.bin .Mult (.int i) (.int j)=.ok (.int (i*j)):=by
 show aE (iQ i||iQ j) _=_
 rw[aZ]
 unfold iQ
 rw[decide_eq_true h.1,decide_eq_true h.2];rfl
@[simp] theorem vE{i j:Int}(h:-(2^64)<j/\j<2^64):D.bin .Mult (.int i) (.int j)=.ok (.int (i*j)):=by
 show aE (iQ i||iQ j) _=_
 rw[aZ]
 unfold iQ
 rw[decide_eq_true h.1,decide_eq_true h.2];simp
@[simp] theorem qF{i j:Int}(h:0<j):D.bin .Mod (.int i) (.int j)=.ok (.int (i%j)):=by
 show aE (decide (0<j)) _=_
 rw[aZ (decide_eq_true h)]
@[simp] theorem qG{i j:Int}(h:0<j/\j<1073741824):D.bin .FloorDiv (.int i) (.int j)=.ok (.int (i/j)):=by
 show aE (decide (0<j)&&decide (j<1073741824)) _=_
 rw[aZ]
 rw[decide_eq_true h.1,decide_eq_true h.2];rfl
@[simp] theorem cmp_lt{i j:Int}:D.cmp .Lt (.int i) (.int j)=.ok (.bl (decide (i<j))):=id rfl
@[simp] theorem cmp_eqi{i j:Int}:D.cmp .Eq (.int i) (.int j)=.ok (.bl (i==j)):=id rfl
@[simp] theorem cmp_is{a:D}:D.cmp .Is a .non=.ok (.bl a.isNon):=id rfl
@[simp] theorem cmp_isnot{a:D}:D.cmp .IsNot a .non=.ok (.bl (!a.isNon)):=id rfl
@[simp] theorem isNon_non:D.non.isNon=true:=id rfl
@[simp] theorem isNon_int{i:Int}:(D.int i).isNon=false:=id rfl
@[simp] theorem run_len_l{a:List D}:Bt.run .len [.lst a]=.ok (.int a.length):=id rfl
@[simp] theorem run_len_t{a:List D}:Bt.run .len [.tup a]=.ok (.int a.length):=id rfl
theorem DN:∀ns:List Int,cN (ns.map D.int)=.ok ns
 |[]=>rfl
 |i::r=>by rw[aK,cN,DN r];rfl
@[simp] theorem Je{ns:List Int}:Bt.run .sum [.lst (ns.map D.int)]=.ok (.int ns.sum):=by
 show(do let q<-cN (ns.map D.int);.ok (D.int q.sum))=_
 rw[DN];rfl
@[simp] theorem MG{α:Type}{f:α->Int}{xs:List α}:Bt.run .sum [.lst (xs.map (D.int∘f))]=.ok (.int (xs.map f).sum):=by rw[<-cG,Je]
@[simp] theorem part_int{i:Int}:(D.int i).part=.ok (some i):=id rfl
@[simp] theorem sl_l{a:List D}{lo hi:Option Int}:D.sl (.lst a) lo hi=.ok (.lst (cut a lo hi)):=id rfl
@[simp] theorem sl_t{a:List D}{lo hi:Option Int}:D.sl (.tup a) lo hi=.ok (.tup (cut a lo hi)):=id rfl
@[simp] theorem items_l{a:List D}:(D.lst a).items=.ok a:=id rfl
@[simp] theorem items_t{a:List D}:(D.tup a).items=.ok a:=id rfl
theorem lI{a:List D}{i:Nat}{d:D}(h:a[i]?=some d):D.ix (.lst a) (.int i)=.ok d:=by
 have hi:=(gL.mp h).1
 show Res.of (atI a i)=_
 unfold atI ixN
 rw[if_pos (Et i),if_pos (by lia)]
 simp[h,Res.of]
theorem iY{a:List D}{i:Nat}{d:D}(h:a[i]?=some d):D.ix (.tup a) (.int i)=.ok d:=by
 have hi:=(gL.mp h).1
 show Res.of (atI a i)=_
 unfold atI ixN
 rw[if_pos (Et i),if_pos (by lia)]
 simp[h,Res.of]
theorem bW{T:Tab}{D:List Df}{n f:Nat}{ds:List Tr.D}{d:Df}{x:Tr.D}{k:Bool}(h:D[f]?=some d)(hl:ds.length=d.pars)(hk:(k||!T.fresh f)=true)
 (he:exS T (aB T D n) d.body (ds.map Sl.v++aW (d.names-d.pars) Sl.no)=.ok (.rt x k)) (ht:d.told=none:=by rfl) (hm:T.mv f=none:=by rfl):aB T D (n+1) f ds=.ok x:=by
 rw[lB,h]
 show aE (ds.length==d.pars) _=_
 rw[aZ (by simpa using hl),ht,hm,show eG none ds=ds.map Sl.v from rfl]
 dsimp only
 rw[if_neg (λz=>by cases z)]
 cases hx:exX T (aB T D n) d.body (ds.map Sl.v++aW (d.names-d.pars) Sl.no)with
 |some z=>exact absurd he (Ak hx _)
 |none=>
  dsimp only
  rw[he]
  show aE (k||!T.fresh f) _=_
  rw[aZ hk]
theorem Jf{T:Tab}{D:List Df}{n f:Nat}{ds:List Tr.D}{d:Df}{e:Nv}(h:D[f]?=some d)(hl:ds.length=d.pars)(hk:T.fresh f=false)
 (he:exS T (aB T D n) d.body (ds.map Sl.v++aW (d.names-d.pars) Sl.no)=.ok (.nx e)) (ht:d.told=none:=by rfl) (hm:T.mv f=none:=by rfl):aB T D (n+1) f ds=.ok .non:=by
 rw[lB,h]
 show aE (ds.length==d.pars) _=_
 rw[aZ (by simpa using hl),ht,hm,show eG none ds=ds.map Sl.v from rfl]
 dsimp only
 rw[if_neg (λz=>by cases z)]
 cases hx:exX T (aB T D n) d.body (ds.map Sl.v++aW (d.names-d.pars) Sl.no)with
 |some z=>exact absurd he (Ak hx _)
 |none=>
  dsimp only
  rw[he]
  show aE (!T.fresh f) _=_
  rw[hk];rfl
theorem Jg{T:Tab}{D:List Df}{n f a b:Nat}{x y r:Tr.D}{j k j' k':List (Sum Int Str×Tr.D)}{d:Df}(hm:T.mv f=some 1000)(h:D[f]?=some d)(hl:4=d.pars)
 (he:exS T (aB T D n) d.body ([.v x,.r a (.dct j),.r b (.dct k),.v y]++aW (d.names-d.pars) Sl.no)=.ok (.rr r a j' b k')) (ht:d.told=none:=by rfl) :
 aB T D (n+1) f [x,.tup [.int a,.dct j],.tup [.int b,.dct k],y]=.ok (.tup [r,.dct j',.dct k']):=by
 rw[lB,h]
 show aE (4==d.pars) _=_
 rw[aZ (by simpa using hl),ht]
 dsimp only
 rw[if_pos hm]
 show(match exS T (aB T D n) d.body ([.v x,.r a (.dct j),.r b (.dct k),.v y]++aW (d.names-d.pars) Sl.no)with
  |.ok (.rr x a1 j b1 k)=>aE (a1==a&&b1==b) (Res.ok (Tr.D.tup [x,.dct j,.dct k]))
  |_=>.no)=_
 rw[he]
 show aE (a==a&&b==b) _=_
 rw[aZ (by simp)]
@[simp] theorem ix_t0{a:D}{r:List D}:D.ix (.tup (a::r)) (.int 0)=.ok a:=iY (i:=0) rfl
@[simp] theorem vF{a b:D}{r:List D}:D.ix (.tup (a::b::r)) (.int 1)=.ok b:=iY (i:=1) rfl
@[simp] theorem DO{a b c:D}{r:List D}:D.ix (.tup (a::b::c::r)) (.int 2)=.ok c:=iY (i:=2) rfl
@[simp] theorem DP{a b c d:D}{r:List D}:D.ix (.tup (a::b::c::d::r)) (.int 3)=.ok d:=iY (i:=3) rfl
@[simp] theorem ix_t4{a b c d e:D}{r:List D}:D.ix (.tup (a::b::c::d::e::r)) (.int 4)=.ok e:=iY (i:=4) rfl
theorem dC{f:D->Nv->Res Out}{d:D}{r:List D}{e e1:Nv}(h:f d e=.ok (.nx e1)):bC f (d::r) e=bC f r e1:=by rw[bC,h];rfl
theorem DQ{f:D->Nv->Res Out}{d:D}{r:List D}{e e1:Nv}(h:f d e=.ok (.ct e1)):bC f (d::r) e=bC f r e1:=by rw[bC,h];rfl
theorem DR{f:D->Nv->Res Out}{d:D}{r:List D}{e:Nv}{x:D}{a b:Nat}{j k:List (Sum Int Str×D)}(h:f d e=.ok (.rr x a j b k)):bC f (d::r) e=.ok (.rr x a j b k):=by rw[bC,h];rfl
theorem vG{f:D->Nv->Res Out}{d:D}{r:List D}{e:Nv}{x:D}{k:Bool}(h:f d e=.ok (.rt x k)):bC f (d::r) e=.ok (.rt x k):=by rw[bC,h];rfl
theorem DS{f:D->Nv->Res Out}(I:Nat->Nv->Prop):∀(ds:List D)(e:Nv)(j:Nat),I j e->(∀i d e,ds[i]?=some d->I (j+i) e->∃e',(f d e=.ok (.nx e')\/f d e=.ok (.ct e'))/\I (j+i+1) e')->∃e',bC f ds e=.ok (.nx e')/\I (j+ds.length) e'
 |[],e,j,h,_=>⟨e,rfl,h⟩
 |d::r,e,j,h,st=>by
  obtain⟨e1,h1,h2⟩:=st 0 d e rfl h
  obtain⟨e2,h3,h4⟩:=DS I r e1 (j+1) h2 λi d' e' hd hI=>by
   have:=st (i+1) d' e' (by simpa using hd) (by rw[show j+(i+1)=j+1+i by lia];exact hI)
   rw[show j+(i+1)+1=j+1+i+1 by lia]at this
   exact this
  refine⟨e2,?_,by rw[aP,show j+(r.length+1)=j+1+r.length by lia];exact h4⟩
  rcases h1 with h1|h1
  ·rw[dC h1,h3]
  ·rw[DQ h1,h3]
theorem vH:∀(lo:Int)(n:Nat),eA lo n=(aD n).map λi=>.int (lo+(i:Int))
 |lo,0=>rfl
 |lo,n+1=>by
  rw[eA,vH (lo+1) n,yX,aK,cG]
  congr 1
  ·simp
  ·apply fU
   intro i _
   simp only[Function.comp]
   congr 1
   push_cast
   lia
@[simp] theorem Jh:∀{k:Int} {ds:List D},(cR k ds).length=ds.length
 |k,[]=>rfl
 |k,x::r=>by rw[cR,aP,aP,Jh]
end Tr
set_option maxRecDepth 100000
namespace Tr
open PySem
noncomputable def fE(ns:List Int)(k:Nat):Int:=ns.getD k 0
set_option genInjectivity false in
structure Part where
 name:Str
 voice:Str
 off:Int
 on:Int
noncomputable def Part.enc(p:Part):D:=.tup [.str p.name,.str p.voice,.int p.off,.int p.on]
structure Scene where
 name:Str
 len:Int
 pause:Int
 who:List Nat
noncomputable def aA(ws:List Nat):List D:=ws.map λ(i:Nat)=>D.int (i:Int)
noncomputable def Scene.enc(s:Scene):D:=.tup [.str s.name,.int s.len,.int s.pause,.tup (aA s.who)]
theorem ix_str{x:Str}{i:Nat}(h:i<x.cps.size)(hb:x.length<=big):∃y:Str,D.ix (.str x) (.int i)=.ok (.str y)/\y.length=1:=by
 refine⟨⟨#[x.cps[i]]⟩,?_,rfl⟩
 show aE (decide (x.length<=big)) (Res.of ((atI x.cps.toList i).map λc=>D.str ⟨#[c]⟩))=_
 rw[aZ (decide_eq_true hb)]
 unfold atI ixN
 rw[if_pos (Et i),if_pos (by simp;lia)]
 simp[h,Res.of]
@[simp] theorem add_str{x y:Str}(h:x.length+y.length<=big):D.bin .Add (.str x) (.str y)=.ok (.str (x++y)):=by
 show aE (decide (x.length+y.length<=big)) _=_
 rw[aZ (decide_eq_true h)]
theorem nodup_rev{l:List Nat}(h:l.Nodup):l.reverse.Nodup:=Lw.mpr (h.imp λh=>Ne.symm h)
theorem bI:(1000:Nat)<big:=by decide
set_option genInjectivity false in
structure GoodScene(many:Nat)(s:Scene):Prop where
 len:0<=s.len
 pause:0<=s.pause
 nd:s.who.Nodup
 lt:∀i∈s.who,i<many
theorem cE(ws:List Nat):(aA ws).length=ws.length:=by unfold aA;simp
theorem nH(i:Nat):∀ws:List Nat,D.mem (.int i) (aA ws)=decide (i∈ws)
 |[]=>rfl
 |w::r=>by
  show(D.eqb (.int w) (.int i)||D.mem (.int i) (aA r))=_
  rw[nH i r]
  have:D.eqb (.int w) (.int i)=decide (i=w):=by
   show((w:Int)==(i:Int))=_
   by_cases h:i=w
   ·subst h;simp
   ·rw[decide_eq_false h];simp;lia
  rw[this]
  by_cases h1:i=w<;>by_cases h2:i∈r<;>simp[h1,h2]
theorem iZ(k:Nat):∀ws:List Nat,D.pls (k+1) (aA ws)=true
 |[]=>rfl
 |w::r=>by
  show(D.pl k (.int w)&&D.pls (k+1) (aA r))=true
  rw[iZ k r];cases k<;>rfl
@[simp] theorem Ji{i:Nat}{ws:List Nat}:D.cmp .In (.int i) (.tup (aA ws))=.ok (.bl (decide (i∈ws))):=by
 show(do let k<-D.inn (.int i) (.tup (aA ws));.ok (D.bl k))=_
 show(do let k<-aE (D.pls 30 (aA ws)&&D.pl 29 (.int i)) (.ok (D.mem (.int i) (aA ws)));.ok (D.bl k))=_
 rw[iZ,nH];rfl
theorem nI{α:Type}(f:α->D)(k:Nat)(h:∀a,D.pl k (f a)=true):∀xs:List α,D.pls (k+1) (xs.map f)=true
 |[]=>rfl
 |a::r=>by rw[aK,D.pls,h a,nI f k h r];rfl
@[simp] theorem vI{n:Nat}{a:List D}:D.pl n (.tup a)=D.pls n a:=id rfl
@[simp] theorem qH{n:Nat}{a:List D}:D.pl n (.lst a)=D.pls n a:=id rfl
theorem qI{a:D}(h:D.pl 30 a=true):D.cmp .NotEq a a=.ok (.bl false):=by
 show aE (D.eqOk a a) (.ok (D.bl (!D.eqb a a)))=_
 rw[D.eqb_refl 30 a h,aZ (by unfold D.eqOk;rw[h];rfl)];rfl
noncomputable def Scene.both(s:Scene):Int:=s.len+s.pause
noncomputable def jA(ss:List Scene)(s t:Nat):Int:=((ss[s]?).map Scene.pause).getD 0+(((ss.drop (s+1)).take (t-(s+1))).map Scene.both).sum
theorem cut_nn{α:Type}{xs:List α}{a b:Nat}(ha:a<=xs.length)(hb:b<=xs.length):cut xs (some (a:Int)) (some (b:Int))=(xs.drop a).take (b-a):=by
 unfold cut sIx
 simp only[]
 rw[if_neg (by lia),if_neg (by lia),gZ,gZ,zI ha,zI hb]
theorem vJ{ss:List Scene}{s:Nat}{x:Scene}(h:ss[s]?=some x):D.ix (.tup (ss.map Scene.enc)) (.int s)=.ok x.enc:=iY (by rw[bK,h];rfl)
theorem vK{ss:List Part}{s:Nat}{x:Part}(h:ss[s]?=some x):D.ix (.tup (ss.map Part.enc)) (.int s)=.ok x.enc:=iY (by rw[bK,h];rfl)
@[simp] theorem enc1{s:Scene}:D.ix s.enc (.int 1)=.ok (.int s.len):=vF
@[simp] theorem enc2{s:Scene}:D.ix s.enc (.int 2)=.ok (.int s.pause):=DO
@[simp] theorem enc3{s:Scene}:D.ix s.enc (.int 3)=.ok (.tup (aA s.who)):=DP
@[simp] theorem penc2{s:Part}:D.ix s.enc (.int 2)=.ok (.int s.off):=DO
@[simp] theorem penc3{s:Part}:D.ix s.enc (.int 3)=.ok (.int s.on):=DP
end Tr
set_option maxRecDepth 100000
namespace Tr
open PySem
noncomputable def aC(t:Nat):D:=.int (t:Int)
theorem DT(lo n:Nat):eA (lo:Int) n=(dG lo n).map aC:=by
 rw[vH,List.range'_eq_map_range,cG]
 apply fU
 intro i _
 simp[aC]
theorem eE{n:Nat}(h:n<=1000):qB (.int (n:Int))=.ok ((aD n).map aC):=by
 rw[rng_ok (by lia),vH]
 congr 1
 apply fU
 intro i _
 simp[aC]
theorem DU{s m:Nat}(h:s<=1000)(h2:m<=1000):nG (.int ((s:Int)+1)) (.int (m:Int))=.ok ((dG (s+1) (m-(s+1))).map aC):=by
 have:nG (.int ((s+1:Nat):Int)) (.int (m:Int))=_:=DL (by lia) (by lia)
 rw[DT]at this
 exact this
theorem Jj{f:D->Nv->Res Out}(I:Nv->Prop)(g:Nat->Option (D×Bool))(ts:List Nat)(e:Nv)(h:I e)
 (st:∀t∈ts,∀e,I e->match g t with|some (x,k)=>f (aC t) e=.ok (.rt x k)|none=>∃e',(f (aC t) e=.ok (.nx e')\/f (aC t) e=.ok (.ct e'))/\I e') :
 match ts.findSome? g with|some (x,k)=>bC f (ts.map aC) e=.ok (.rt x k)|none=>∃e',bC f (ts.map aC) e=.ok (.nx e')/\I e':=by
 induction ts generalizing e with
 |nil=>exact⟨e,rfl,h⟩
 |cons t r ih=>
  have h1:=st t bF e h
  rw[zJ,aK]
  cases hg:g t with
  |some y=>
   rw[hg]at h1
   exact vG h1
  |none=>
   rw[hg]at h1
   obtain⟨e',h2,h3⟩:=h1
   have eq:bC f (aC t::r.map aC) e=bC f (r.map aC) e':=by
    rcases h2 with h2|h2
    ·exact dC h2
    ·exact DQ h2
   rw[eq]
   exact ih e' h3 λd' hd=>st d' (bB _ hd)
theorem DV{α β γ:Type}(h:α->Option β)(F:β->γ):∀l:List α,l.findSome? (λt=>(h t).map F)=(l.findSome? h).map F
 |[]=>rfl
 |a::r=>by
  rw[zJ,zJ]
  cases e:h a with
  |none=>simp[DV h F r]
  |some b=>rfl
inductive Rz where
 |sc (s:Nat)|ch (s t:Nat) (have_ need:Int)
noncomputable def Rz.enc:Rz->D
 |.sc s=>.tup [.str "scene", .int s]
 |.ch s t h n=>.tup [.str "change", .int s,.int t,.int h,.int n]
noncomputable def iI:Option Rz->D
 |none=>.non
 |some r=>r.enc
@[simp] theorem isNon_optR{o:Option Rz}:(iI o).isNon=o.isNone:=by
 cases o with
 |none=>rfl
 |some r=>cases r<;>rfl
noncomputable def dD(ss:List Scene)(t:Nat):List Nat:=((ss[t]?).map Scene.who).getD []
noncomputable def gE(ps:List Part)(i j:Nat):Int:=((ps[i]?).map Part.off).getD 0+((ps[j]?).map Part.on).getD 0
noncomputable def lJ(ps:List Part)(ss:List Scene)(s one other t:Nat):Option Rz:=
 if other∈dD ss t/\jA ss s t<gE ps one other then some (.ch s t (jA ss s t) (gE ps one other))else none
noncomputable def jB(ps:List Part)(ss:List Scene)(s one other:Nat):Option Rz:=(dG (s+1) (ss.length-(s+1))).findSome? (lJ ps ss s one other)
noncomputable def jC(ps:List Part)(ss:List Scene)(i j s:Nat):Option Rz:=
 if i∈dD ss s/\j∈dD ss s then some (.sc s)else if i∈dD ss s then jB ps ss s i j else if j∈dD ss s then jB ps ss s j i else none
noncomputable def eJ(ps:List Part)(ss:List Scene)(i j:Nat):Option Rz:=(aD ss.length).findSome? (jC ps ss i j)
noncomputable def begV(ss:List Scene)(k:Nat):Int:=((ss.take k).map Scene.both).sum
theorem vQ{ss:List Scene}{s:Nat}(h:s<ss.length):dD ss s=ss[s].who:=by unfold dD;rw[aX h];rfl
theorem Jk{ps:List Part}{i j:Nat}(h:i<ps.length)(h2:j<ps.length):gE ps i j=ps[i].off+ps[j].on:=by unfold gE;rw[aX h,aX h2];rfl
noncomputable def Rz.out(r:Rz):D×Bool:=(r.enc,false)
theorem DW{f:D->Nv->Res Out}{I:Nv->Prop}{g:Nat->Option Rz}{ts:List Nat}{e:Nv}(h:I e)
 (st:∀t∈ts,∀e,I e->match g t with|some r=>f (aC t) e=.ok (.rt r.enc false)|none=>∃e',f (aC t) e=.ok (.nx e')/\I e') :
 match ts.findSome? g with|some r=>bC f (ts.map aC) e=.ok (.rt r.enc false)|none=>∃e',bC f (ts.map aC) e=.ok (.nx e')/\I e':=by
 have:=Jj (f:=f) I (λt=>(g t).map Rz.out) ts e h (by
  intro t ht e he
  have:=st t ht e he
  cases hg:g t with
  |none=>rw[hg]at this;obtain⟨e',h1,h2⟩:=this;exact⟨e',.inl h1,h2⟩
  |some r=>rw[hg]at this;exact this)
 rw[DV]at this
 cases hg:ts.findSome? g with
 |none=>rw[hg]at this;exact this
 |some r=>rw[hg]at this;exact this
end Tr
set_option maxRecDepth 100000
namespace Tr
open PySem
theorem DX(k j:Sum Int Str)(y:D):∀kvs:List (Sum Int Str×D),bG (kvs.map λkv=>if kv.1=k then(kv.1,y)else kv) j=(bG kvs j).map λx=>if j=k then y else x
 |[]=>rfl
 |(k',d)::r=>by
  have ih:=DX k j y r
  rw[aK]
  unfold bG at ih⊢
  by_cases h1:k'=k<;>by_cases h2:k'=j
  ·subst h1;subst h2;simp[cJ]
  ·rw[if_pos h1]
   simp only[cJ,h2,decide_false,ih]
  ·have h3:j≠k:=λz=>h1 (h2.trans z)
   rw[if_neg h1]
   simp[cJ,h2,h3]
  ·rw[if_neg h1]
   simp only[cJ,h2,decide_false,ih]
theorem DY(k:Sum Int Str):∀kvs:List (Sum Int Str×D),(kvs.any λkv=>decide (kv.1=k))=(bG kvs k).isSome
 |[]=>rfl
 |(k',d)::r=>by
  have ih:=DY k r
  unfold bG at ih⊢
  by_cases h:k'=k
  ·simp[cJ,h]
  ·simp only[iM,cJ,h,decide_false,sI,ih]
theorem DZ(k j:Sum Int Str)(y:D):∀kvs:List (Sum Int Str×D),bG kvs k=none->bG (kvs++[(k,y)]) j=if j=k then some y else bG kvs j
 |[],_=>by
  by_cases h:k=j
  ·subst h;simp[bG,cJ]
  ·have h':¬j=k:=λz=>h z.symm
   simp[bG,cJ,h,h']
 |(k',d)::r,hn=>by
  have hk:¬k'=k:=λz=>by subst z;simp[bG,cJ]at hn
  have hn':bG r k=none:=by simpa[bG,cJ,hk]using hn
  have ih:=DZ k j y r hn'
  unfold bG at ih⊢
  by_cases h:k'=j
  ·have h':¬j=k:=λz=>hk (h.trans z)
   simp[cJ,h,h']
  ·simp only[Lx,cJ,h,decide_false,ih]
theorem qJ(kvs:List (Sum Int Str×D))(k j:Sum Int Str)(y:D):bG (dQ kvs k y) j=if j=k then some y else bG kvs j:=by
 unfold dQ
 rw[DY]
 cases h:bG kvs k with
 |none=>
  rw[if_neg (by simp)]
  exact DZ k j y kvs h
 |some x=>
  rw[if_pos (by simp),DX]
  by_cases e:j=k
  ·subst e;rw[h];simp
  ·rw[if_neg e]
   cases bG kvs j<;>simp[e]
theorem cC{α:Type}{f:D->Res (Option D)}(enc:α->D)(g:α->Option D):∀{xs:List α},(∀a∈xs,f (enc a)=.ok (g a))->aR f (xs.map enc)=.ok (xs.filterMap g)
 |[],_=>rfl
 |a::r,h=>by
  rw[aK,aR,h a bF,Res.ok_bind,cC enc g λx hx=>h x (bB _ hx),Res.ok_bind,gK]
  cases g a<;>rfl
theorem nJ{α:Type}{f:D->Res (Option D)}(enc:α->D)(p:α->Bool){xs:List α}(h:∀a∈xs,f (enc a)=.ok (if p a=true then some (enc a)else none)):aR f (xs.map enc)=.ok ((xs.filter p).map enc):=by
 rw[cC enc (λa=>if p a=true then some (enc a)else none) h]
 congr 1
 induction xs with
 |nil=>rfl
 |cons a r ih=>
  rw[gK,gN,ih λx hx=>h x (bB _ hx)]
  cases p a<;>rfl
noncomputable def fP(p:Nat×Nat):D:=.tup [.int p.1,.int p.2]
noncomputable def jD(many i:Nat):List (Nat×Nat):=(dG (i+1) (many-(i+1))).map λj=>(i,j)
noncomputable def gF(many:Nat):Nat->List (Nat×Nat)
 |0=>[]
 |k+1=>gF many k++jD many k
noncomputable def pairsOf(many:Nat):List (Nat×Nat):=gF many many
theorem Jl{many i:Nat}{p:Nat×Nat}(h:p∈jD many i):p.1=i/\i<p.2/\p.2<many:=by
 obtain⟨j,hj,rfl⟩:=bJ.mp h
 have:=sT.mp hj
 exact⟨rfl,by lia,by lia⟩
theorem vS{many:Nat}{p:Nat×Nat}:∀{k:Nat},p∈gF many k->p.1<p.2/\p.2<many
 |0,h=>by simp[gF]at h
 |k+1,h=>by
  rcases eY.mp h with q|q
  ·exact vS q
  ·have:=Jl q;lia
theorem vT(many:Nat):∀k,(gF many k).length<=k*many
 |0=>by simp[gF]
 |k+1=>by
  have:=vT many k
  rw[gF,bR,jD,aF,zK,Nat.succ_mul]
  lia
noncomputable def lenAt(ss:List Scene)(t:Nat):Int:=((ss[t]?).map Scene.len).getD 0
noncomputable def D0(ss:List Scene)(one:Nat):Nat->Option Int
 |0=>none
 |k+1=>if one∈dD ss k then some (begV ss k+lenAt ss k)else D0 ss one k
noncomputable def D1(ps:List Part)(ss:List Scene)(one other t:Nat):Bool:=
 decide (other∈dD ss t)&&(match D0 ss one t with|some e=>decide (begV ss t-e<gE ps one other)|none=>false)
noncomputable def hit(ps:List Part)(ss:List Scene)(i j t:Nat):Bool:=(decide (i∈dD ss t)&&decide (j∈dD ss t))||D1 ps ss i j t||D1 ps ss j i t
theorem D2{α β:Type}{f:α->Option β}{l:List α}:(l.findSome? f).isSome=l.any λa=>(f a).isSome:=by
 induction l with
 |nil=>rfl
 |cons a r ih=>
  rw[zJ,iM]
  cases f a<;>simp[ih]
theorem short_some{ps:List Part}{ss:List Scene}{s i j:Nat}:(jB ps ss s i j).isSome=true↔∃t,s<t/\t<ss.length/\j∈dD ss t/\jA ss s t<gE ps i j:=by
 unfold jB
 rw[D2,sQ]
 constructor
 ·rintro⟨t,h1,h2⟩
  have:=sT.mp h1
  unfold lJ at h2
  split at h2
  ·rename_i c;exact⟨t,by lia,by lia,c.1,c.2⟩
  ·cases h2
 ·rintro⟨t,h1,h2,h3,h4⟩
  refine⟨t,sT.mpr ⟨by lia,by lia⟩,?_⟩
  unfold lJ
  rw[if_pos ⟨h3,h4⟩];rfl
theorem from_some{ps:List Part}{ss:List Scene}{s i j:Nat}:(jC ps ss i j s).isSome=true↔(i∈dD ss s/\j∈dD ss s)\/(i∈dD ss s/\(jB ps ss s i j).isSome=true/\¬j∈dD ss s)\/(j∈dD ss s/\(jB ps ss s j i).isSome=true/\¬i∈dD ss s):=by
 unfold jC
 by_cases h1:i∈dD ss s<;>by_cases h2:j∈dD ss s<;>simp[h1,h2]
theorem reason_some{ps:List Part}{ss:List Scene}{i j:Nat}:(eJ ps ss i j).isSome=true↔∃s,s<ss.length/\(jC ps ss i j s).isSome=true:=by
 unfold eJ
 rw[D2,sQ]
 constructor
 ·rintro⟨s,h1,h2⟩;exact⟨s,by simpa using h1,h2⟩
 ·rintro⟨s,h1,h2⟩;exact⟨s,by simpa using h1,h2⟩
end Tr
set_option maxRecDepth 100000
namespace Tr
open PySem
theorem D3{α:Type}[DecidableEq α]:∀(ks acc:List α),acc.Nodup->(∀k∈ks,k∉acc)->ks.Nodup->ks.foldl (λacc k=>if acc.any (λx=>decide (x=k))then acc else acc++[k]) acc=acc++ks
 |[],acc,_,_,_=>by simp
 |k::r,acc,ha,hd,hn=>by
  have h1:acc.any (λx=>decide (x=k))=false:=by
   rw[List.any_eq_false]
   intro x hx
   simp only[decide_eq_true_eq]
   exact λe=>hd k bF (e▸hx)
  rw[nZ,h1]
  simp only[iO,if_false]
  rw[eK]at hn
  rw[D3 r (acc++[k]) ?_ ?_ hn.2]
  ·simp
  ·rw[kU]
   exact⟨ha,by simp,λa g1 b g2=>by simp at g2;subst g2;exact λe=>hd b bF (e▸g1)⟩
  ·intro x hx hx'
   rw[eY]at hx'
   rcases hx' with z|z
   ·exact hd x (bB _ hx) z
   ·simp at z;subst z;exact hn.1 hx
theorem Jm{ks:List (Sum Int Str)}(h:ks.Nodup):kA ks=ks:=by
 have:=D3 ks [] iN (λ_ _=>by simp) h
 rw[sS]at this
 exact this
noncomputable def nK(g:Str)(c:Nat):Bool:=decide (c∈g.cps.toList)
noncomputable def gG(x:Str):List Nat:=x.cps.toList
section
variable{T:Tab}
@[simp] theorem fresh_cmp{o:CmpOp}{a b:E}:bL T (.cmp o a b)=false:=id rfl
@[simp] theorem fresh_and{a b:E}:bL T (.and a b)=false:=id rfl
@[simp] theorem fresh_con{d:D}:bL T (.con d)=false:=id rfl
@[simp] theorem fresh_var{i:Nat}:bL T (.var i)=false:=id rfl
@[simp] theorem fresh_tup{a:E}:bL T (.tup a)=false:=id rfl
end
theorem Jn{x y:Str}(h:gG x=gG y):x=y:=by
 cases x;cases y
 simp only[gG]at h
 congr 1
 exact sJ.mp h
theorem D4{α:Type}{xs:List α}{a:Nat}(ha:a<=xs.length):cut xs (some (a:Int)) none=xs.drop a:=by
 unfold cut sIx
 simp only[]
 rw[if_neg (by lia),gZ,zI ha,sL (by simp)]
theorem D5{α:Type}{xs:List α}{b:Nat}(hb:b<=xs.length):cut xs none (some (b:Int))=xs.take b:=by
 unfold cut sIx
 simp only[]
 rw[if_neg (by lia),gZ,zI hb,Ej,Ek]
end Tr
set_option maxRecDepth 100000
namespace Tr
open PySem
set_option genInjectivity false in
structure Player where
 name:Str
 voices:Str
 hire:Int
noncomputable def Player.enc(p:Player):D:=.tup [.str p.name,.str p.voices,.int p.hire]
@[simp] theorem qenc1{s:Player}:D.ix s.enc (.int 1)=.ok (.str s.voices):=vF
@[simp] theorem penc1{s:Part}:D.ix s.enc (.int 1)=.ok (.str s.voice):=vF
theorem qs_at{ss:List Player}{s:Nat}{x:Player}(h:ss[s]?=some x):D.ix (.tup (ss.map Player.enc)) (.int s)=.ok x.enc:=iY (by rw[bK,h];rfl)
noncomputable def bH:Option Nat->D
 |none=>.non
 |some j=>.int (j:Int)
@[simp] theorem optN_none:bH none=.non:=id rfl
@[simp] theorem Jo{j:Nat}:bH (some j)=.int (j:Int):=id rfl
noncomputable def nL(p:Part)(q:Player):Bool:=match gG p.voice with
 |[c]=>nK q.voices c
 |_=>false
theorem Jp{p:Part}{q:Player}(h:(gG p.voice).length=1):D.cmp .NotIn (.str p.voice) (.str q.voices)=.ok (.bl (!nL p q)):=by
 obtain⟨c,hc⟩:∃c,gG p.voice=[c]:=List.length_eq_one_iff.mp h
 have e:p.voice=chr1 c:=Jn (by rw[hc];rfl)
 unfold nL
 rw[hc]
 rw[e]
 rfl
noncomputable def nM(P:List Part)(Q:List Player)(k j:Nat):Bool:=((P[k]?).bind λp=>(Q[j]?).map λq=>nL p q).getD false
theorem D6{P:List Part}{Q:List Player}{k j:Nat}(hk:k<P.length)(hj:j<Q.length):nM P Q k j=nL P[k] Q[j]:=by
 unfold nM;rw[aX hk,aX hj];rfl
theorem cast_at{cs:List (Option Nat)}{k:Nat}{o:Option Nat}(h:cs[k]?=some o):D.ix (.lst (cs.map bH)) (.int k)=.ok (bH o):=lI (by rw[bK,h];rfl)
theorem Jq(o:Option Nat)(j:Nat):D.cmp .Eq (bH o) (.int j)=.ok (.bl (decide (o=some j))):=by
 cases o with
 |none=>rfl
 |some i=>
  show Res.ok (D.bl ((i:Int)==(j:Int)))=_
  by_cases h:i=j
  ·subst h;simp
  ·rw[show((i:Int)==(j:Int))=false by simp;lia];simp[h]
theorem Jr(o o':Option Nat):D.cmp .Eq (bH o) (bH o')=.ok (.bl (decide (o=o'))):=by
 cases o' with
 |none=>cases o<;>rfl
 |some j=>exact Jq o j
inductive Flt where
 |nob (i:Nat)|voi (i k:Nat)|cla (i j:Nat)
noncomputable def Flt.enc:Flt->D
 |.nob i=>.tup [.str "nobody", .int i]
 |.voi i k=>.tup [.str "voice", .int i,.int k]
 |.cla i j=>.tup [.str "clash", .int i,.int j]
noncomputable def fF:Option Flt->D
 |none=>.non
 |some x=>x.enc
@[simp] theorem isNon_optF{o:Option Flt}:(fF o).isNon=o.isNone:=by
 cases o with
 |none=>rfl
 |some x=>cases x<;>rfl
noncomputable def eX(P:List Part)(Q:List Player)(cs:List (Option Nat))(k:Nat):Option Flt:=match cs.getD k none with
 |none=>some (.nob k)
 |some j=>if nM P Q k j=true then none else some (.voi k j)
noncomputable def gH(cs:List (Option Nat))(i j:Nat):Bool:=(cs.getD i none).isSome&&decide (cs.getD i none=cs.getD j none)
noncomputable def fQ(P:List Part)(Q:List Player)(ps:List (Nat×Nat))(cs:List (Option Nat)):List Flt:=
 (aD cs.length).filterMap (eX P Q cs)++(ps.filter λp=>gH cs p.1 p.2).map λp=>.cla p.1 p.2
theorem D7{α:Type}(f:α->D)(x:α):∀(cs:List α)(j:Nat),cR (j:Int) (cs.map f)=(aD cs.length).map (λk=>D.tup [.int ((j+k:Nat):Int),f (cs.getD k x)])
 |[],_=>rfl
 |c::r,j=>by
  rw[aK,cR,aP,yX,aK,cG]
  have h:=D7 f x r (j+1)
  rw[show((j+1:Nat):Int)=(j:Int)+1 by push_cast;rfl]at h
  rw[h]
  congr 1
  apply fU
  intro k _
  simp only[Function.comp,List.getD_cons_succ]
  congr 4
  lia
theorem D8{cs:List (Option Nat)}{k:Nat}(h:k<cs.length):cs[k]?=some (cs.getD k none):=by
 rw[eU,aX h];rfl
theorem D9{cs:List (Option Nat)}{k:Nat}(h:k<cs.length):D.ix (.lst (cs.map bH)) (.int k)=.ok (bH (cs.getD k none)):=cast_at (D8 h)
noncomputable def Flt.names(p:Nat):Flt->Bool
 |.nob i=>i==p
 |.voi i _=>i==p
 |.cla i j=>i==p||j==p
end Tr
set_option maxRecDepth 100000
namespace Tr
open PySem
end Tr
set_option maxRecDepth 100000
namespace Tr
open PySem
end Tr
set_option maxRecDepth 100000
namespace Tr
open PySem
noncomputable def aM(c:List (Nat×Nat))(p:Nat):Option Nat:=(c.find? λx=>x.1==p).map (·.2)
noncomputable def dI(c:List (Nat×Nat))(p g:Nat):List (Nat×Nat):=if(c.any λx=>x.1==p)=true then c.map (λx=>if x.1=p then(x.1,g)else x)else c++[(p,g)]
noncomputable def fcL(rec:Nat->List (Nat×Nat)->List Nat->Option (Bool×List (Nat×Nat)×List Nat))(gap:Nat):List Nat->List (Nat×Nat)->List Nat->Option (Bool×List (Nat×Nat)×List Nat)
 |[],c,a=>some (false,c,a)
 |p::r,c,a=>if p∈a then fcL rec gap r c a else
  match aM c p with
  |none=>some (true,dI c p gap,a++[p])
  |some g=>match rec g c (a++[p])with
   |some (true,c',a')=>some (true,dI c' p gap,a')
   |some (false,c',a')=>fcL rec gap r c' a'
   |none=>none
noncomputable def fc(ch:Nat->List Nat):Nat->Nat->List (Nat×Nat)->List Nat->Option (Bool×List (Nat×Nat)×List Nat)
 |0,_,_,_=>none
 |n+1,gap,c,a=>fcL (fc ch n) gap (ch gap) c a
theorem getA_none{c:List (Nat×Nat)}{p:Nat}:aM c p=none↔p∉c.map (·.1):=by
 unfold aM
 rw[Option.map_eq_none_iff,List.find?_eq_none]
 constructor
 ·intro h hm
  obtain⟨x,hx,e⟩:=bJ.mp hm
  exact h x hx (by simpa using e)
 ·intro h x hx e
  exact h (bJ.mpr ⟨x,hx,by simpa using e⟩)
theorem gI:∀{l U:List Nat},l.Nodup->(∀x∈l,x∈U)->l.length<=U.length
 |[],_,_,_=>eM _
 |a::r,U,h,hs=>by
  rw[eK]at h
  have ha:=hs a bF
  have:=gI (l:=r) (U:=U.erase a) h.2 λx hx=>(List.mem_erase_of_ne (λe:x=a=>h.1 (e▸hx))).mpr (hs x (bB _ hx))
  have l:=List.length_erase_of_mem ha
  have:=List.length_pos_of_mem ha
  rw[aP];lia
theorem nN{c:List (Nat×Nat)}{p g:Nat}(h:aM c p=some g):(p,g)∈c:=by
 unfold aM at h
 obtain⟨x,hx,rfl⟩:=Le.mp h
 have h1:=List.mem_of_find?_eq_some hx
 have h2:=List.find?_some hx
 have:x.1=p:=by simpa using h2
 rw[<-this];exact h1
theorem any_key{c:List (Nat×Nat)}{p:Nat}:(c.any λx=>x.1==p)=true↔p∈c.map (·.1):=by
 rw[sQ,bJ]
 simp
theorem D_{c:List (Nat×Nat)}{p g:Nat}:(dI c p g).map (·.1)=if p∈c.map (·.1)then c.map (·.1)else c.map (·.1)++[p]:=by
 unfold dI
 by_cases h:p∈c.map (·.1)
 ·rw[if_pos (any_key.mpr h),if_pos h,cG]
  apply fU
  intro x _
  show(if x.1=p then(x.1,g)else x).1=x.1
  split<;>rfl
 ·rw[if_neg (λz=>h (any_key.mp z)),if_neg h,dF];rfl
theorem jO{x:Nat×Nat}{c:List (Nat×Nat)}{p:Nat}:aM (x::c) p=if x.1=p then some x.2 else aM c p:=by
 unfold aM
 rw[cJ]
 by_cases h:x.1=p
 ·rw[if_pos h,show(x.1==p)=true by simpa using h];rfl
 ·rw[if_neg h,show(x.1==p)=false by simpa using h]
theorem Js{c d:List (Nat×Nat)}{p:Nat}:aM (c++d) p=(aM c p).or (aM d p):=by
 induction c with
 |nil=>simp[aM]
 |cons x c ih=>
  rw[Lx,jO,jO,ih]
  split<;>simp
theorem Jt{c:List (Nat×Nat)}{p g q:Nat}:aM (c.map λx=>if x.1=p then(x.1,g)else x) q=if q=p then(aM c p).map (λ_=>g)else aM c q:=by
 induction c with
 |nil=>simp[aM]
 |cons x c ih=>
  rw[aK,jO,jO,jO,ih]
  by_cases hx:x.1=p
  ·simp only[hx,if_true]
   by_cases hq:q=p
   ·subst hq;simp
   ·have hq':¬p=q:=λe=>hq e.symm
    simp[hq,hq']
  ·simp only[hx,if_false]
   by_cases hq:q=p
   ·subst hq;simp[hx]
   ·simp[hq]
theorem vU{c:List (Nat×Nat)}{p g q:Nat}:aM (dI c p g) q=if q=p then some g else aM c q:=by
 unfold dI
 by_cases h:p∈c.map (·.1)
 ·rw[if_pos (any_key.mpr h),Jt]
  by_cases hq:q=p
  ·rw[if_pos hq,if_pos hq]
   cases e:aM c p with
   |none=>exact absurd h (getA_none.mp e)
   |some z=>rfl
  ·rw[if_neg hq,if_neg hq]
 ·rw[if_neg (λz=>h (any_key.mp z)),Js,jO]
  by_cases hq:q=p
  ·subst hq
   rw[if_pos rfl,if_pos rfl,getA_none.mpr h];rfl
  ·rw[if_neg (λe=>hq e.symm),if_neg hq]
   cases aM c q<;>simp[aM]
noncomputable def cW(c:List (Nat×Nat))(g:Nat):Nat:=(c.filter λx=>x.2==g).length
theorem Ju{c:List (Nat×Nat)}(hd:(c.map (·.1)).Nodup){p g0 g:Nat}(h:aM c p=some g0)(q:Nat) :
 cW (c.map λx=>if x.1=p then(x.1,g)else x) q+(if g0=q then 1 else 0)=cW c q+if g=q then 1 else 0:=by
 induction c with
 |nil=>simp[aM]at h
 |cons x c ih=>
  rw[aK,eK]at hd
  rw[jO]at h
  by_cases hx:x.1=p
  ·rw[if_pos hx]at h
   cases h
   have same:c.map (λx=>if x.1=p then(x.1,g)else x)=c:=by
    refine(fU λy hy=>?_).trans (List.map_id c)
    have:y.1≠p:=λe=>hd.1 (by rw[hx,<-e];exact zA hy)
    rw[if_neg this];rfl
   rw[aK,same,if_pos hx]
   unfold cW
   rw[gN,gN]
   by_cases a:x.2=q<;>by_cases b:g=q<;>simp[a,b]
  ·rw[if_neg hx]at h
   have:=ih hd.2 h
   rw[aK,if_neg hx]
   unfold cW at this⊢
   rw[gN,gN]
   by_cases a:x.2=q
   ·simp only[a,beq_self_eq_true,if_true,aP];lia
   ·simp only[show(x.2==q)=false by simpa using a,iO,if_false];exact this
theorem Jv{c:List (Nat×Nat)}{p g:Nat}(h:aM c p=none)(q:Nat):cW (dI c p g) q=cW c q+if g=q then 1 else 0:=by
 unfold dI
 rw[if_neg (λz=>getA_none.mp h (any_key.mp z))]
 unfold cW
 rw[Ly,bR]
 congr 1
 by_cases a:g=q<;>simp[a]
theorem Jw{c:List (Nat×Nat)}(hd:(c.map (·.1)).Nodup){p g0 g:Nat}(h:aM c p=some g0)(q:Nat):cW (dI c p g) q+(if g0=q then 1 else 0)=cW c q+if g=q then 1 else 0:=by
 unfold dI
 rw[if_pos (any_key.mpr (Classical.byContradiction λz=>by rw[getA_none.mpr z]at h;cases h))]
 exact Ju hd h q
theorem Da{c:List (Nat×Nat)}(hd:(c.map (·.1)).Nodup)(p g:Nat):((dI c p g).map (·.1)).Nodup:=by
 rw[D_]
 split
 ·exact hd
 ·rename_i h
  rw[kU]
  refine⟨hd,by simp,λx hx y hy e=>?_⟩
  rw[bX.mp hy]at e
  exact h (e▸hx)
noncomputable def OkA(ch:Nat->List Nat)(c:List (Nat×Nat)):Prop:=(c.map (·.1)).Nodup/\∀p g,aM c p=some g->p∈ch g
theorem OkA.put{ch:Nat->List Nat}{c:List (Nat×Nat)}(h:OkA ch c){p g:Nat}(hp:p∈ch g):OkA ch (dI c p g):=by
 refine⟨Da h.1 p g,λq k e=>?_⟩
 rw[vU]at e
 split at e
 ·rename_i z
  cases e
  rw[z];exact hp
 ·exact h.2 q k e
structure Won(ch:Nat->List Nat)(gap:Nat)(c:List (Nat×Nat))(a:List Nat)(c':List (Nat×Nat))(a':List Nat):Prop where
 ok:OkA ch c'
 keep:∀p∈a,aM c' p=aM c p
 cnt:∀q,cW c' q=cW c q+if gap=q then 1 else 0
structure Lost(ch:Nat->List Nat)(gap:Nat)(xs:List Nat)(c:List (Nat×Nat))(a:List Nat)(c':List (Nat×Nat))(a':List Nat):Prop where
 same:c'=c
 sub:∀p∈a,p∈a'
 nd:a.Nodup->a'.Nodup
 all:∀p∈xs,p∈a'
 new:∀p∈a',p∉a->(∃g,aM c p=some g/\∀q∈ch g,q∈a')/\(p∈xs\/∃q g,q∈a'/\q∉a/\aM c q=some g/\p∈ch g)
theorem vV{ch:Nat->List Nat}{rec:Nat->List (Nat×Nat)->List Nat->Option (Bool×List (Nat×Nat)×List Nat)}
 (ih:∀g c a b c' a',OkA ch c->rec g c a=some (b,c',a')->if b=true then Won ch g c a c' a' else Lost ch g (ch g) c a c' a') (gap:Nat) :
 ∀(xs:List Nat)(c:List (Nat×Nat))(a:List Nat)(b:Bool)(c':List (Nat×Nat))(a':List Nat),(∀p∈xs,p∈ch gap)->OkA ch c->fcL rec gap xs c a=some (b,c',a')->if b=true then Won ch gap c a c' a' else Lost ch gap xs c a c' a'
 |[],c,a,b,c',a',_,ok,h=>by
  cases h
  rw[if_neg aU]
  exact⟨rfl,λp hp=>hp,λh=>h,λp hp=>(by cases hp),λp hp hn=>absurd hp hn⟩
 |p::r,c,a,b,c',a',hx,ok,h=>by
  have hr:∀q∈r,q∈ch gap:=λq hq=>hx q (bB _ hq)
  have hp:=hx p bF
  rw[fcL]at h
  by_cases pa:p∈a
  ·rw[if_pos pa]at h
   have:=vV ih gap r c a b c' a' hr ok h
   cases b with
   |true=>exact this
   |false=>
    rw[if_neg aU]at this⊢
    exact⟨this.same,this.sub,this.nd,λq hq=>by
     rcases aO.mp hq with rfl|hq
     ·exact this.sub _ pa
     ·exact this.all q hq,λq hq hn=>⟨(this.new q hq hn).1,(this.new q hq hn).2.imp (bB _) id⟩⟩
  ·rw[if_neg pa]at h
   cases e:aM c p with
   |none=>
    rw[e]at h
    cases h
    rw[if_pos rfl]
    exact⟨ok.put hp,λq hq=>by rw[vU,if_neg (λz:q=p=>pa (z▸hq))],λq=>Jv e q⟩
   |some g=>
    rw[e]at h
    dsimp only at h
    cases e2:rec g c (a++[p])with
    |none=>rw[e2]at h;cases h
    |some z=>
     obtain⟨b1,c1,a1⟩:=z
     rw[e2]at h
     have i:=ih g c (a++[p]) b1 c1 a1 ok e2
     cases b1 with
     |true=>
      rw[if_pos rfl]at i
      cases h
      rw[if_pos rfl]
      have gp:aM c1 p=some g:=by rw[i.keep p (by simp),e]
      refine⟨i.ok.put hp,λq hq=>?_,λq=>?_⟩
      ·rw[vU,if_neg (λz:q=p=>pa (z▸hq)),i.keep q (by simp[hq])]
      ·have h1:=Jw i.ok.1 (g:=gap) gp q
       have h2:=i.cnt q
       lia
     |false=>
      rw[if_neg aU]at i
      dsimp only at h
      obtain⟨rfl,i2,i3,i4,i5⟩:=i
      have j:=vV ih gap r c1 a1 b c' a' hr ok h
      have pin:p∈a1:=i2 p (by simp)
      cases b with
      |true=>
       rw[if_pos rfl]at j⊢
       exact⟨j.ok,λq hq=>j.keep q (i2 q (by simp[hq])),j.cnt⟩
      |false=>
       rw[if_neg aU]at j⊢
       obtain⟨j1,j2,j3,j4,j5⟩:=j
       refine⟨j1,λq hq=>j2 q (i2 q (by simp[hq])),λnd=>j3 (i3 ?_),λq hq=>?_,λq hq hn=>?_⟩
       ·rw[kU]
        exact⟨nd,by simp,λx hx y hy e=>pa (by rw[bX.mp hy]at e;exact e▸hx)⟩
       ·rcases aO.mp hq with rfl|hq
        ·exact j2 _ pin
        ·exact j4 q hq
       ·by_cases q1:q∈a1
        ·by_cases qp:q=p
         ·subst qp
          exact⟨⟨g,e,λy hy=>j2 y (i4 y hy)⟩,.inl bF⟩
         ·obtain⟨⟨k,k1,k2⟩,k3⟩:=i5 q q1 (by simp[hn,qp])
          refine⟨⟨k,k1,λy hy=>j2 y (k2 y hy)⟩,.inr ?_⟩
          rcases k3 with k3|⟨y,z,y1,y2,y3,y4⟩
          ·exact⟨p,g,j2 p pin,pa,e,k3⟩
          ·exact⟨y,z,j2 y y1,λya=>y2 (by simp[ya]),y3,y4⟩
        ·obtain⟨k1,k3⟩:=j5 q hq q1
         refine⟨k1,?_⟩
         rcases k3 with k3|⟨y,z,y1,y2,y3,y4⟩
         ·exact .inl (bB _ k3)
         ·exact .inr ⟨y,z,y1,λya=>y2 (i2 y (by simp[ya])),y3,y4⟩
theorem vW(ch:Nat->List Nat):∀(n g:Nat)(c:List (Nat×Nat))(a:List Nat)(b:Bool)(c':List (Nat×Nat))(a':List Nat),OkA ch c->fc ch n g c a=some (b,c',a')->if b=true then Won ch g c a c' a' else Lost ch g (ch g) c a c' a'
 |0,_,_,_,_,_,_,_,h=>by cases h
 |n+1,g,c,a,b,c',a',ok,h=>vV (vW ch n) g (ch g) c a b c' a' (λ_ h=>h) ok h
theorem vY{ch:Nat->List Nat}{U:List Nat}{n:Nat}(hU:∀g,∀p∈ch g,p∈U)
 (ih:∀g c a,OkA ch c->a.Nodup->(∀p∈a,p∈U)->U.length<a.length+n->∃r,fc ch n g c a=some r) (gap:Nat) :
 ∀(xs:List Nat)(c:List (Nat×Nat))(a:List Nat),(∀p∈xs,p∈ch gap)->OkA ch c->a.Nodup->(∀p∈a,p∈U)->U.length<a.length+1+n->(∀p∈xs,p∉a->U.length<a.length+1+n)->∃r,fcL (fc ch n) gap xs c a=some r
 |[],c,a,_,_,_,_,_,_=>⟨_,rfl⟩
 |p::r,c,a,hx,ok,nd,au,hl,hq=>by
  have hr:∀q∈r,q∈ch gap:=λq hq=>hx q (bB _ hq)
  rw[fcL]
  by_cases pa:p∈a
  ·rw[if_pos pa]
   exact vY hU ih gap r c a hr ok nd au hl λq h1 h2=>hl
  ·rw[if_neg pa]
   cases e:aM c p with
   |none=>exact⟨_,rfl⟩
   |some g=>
    dsimp only
    have nd':(a++[p]).Nodup:=by
     rw[kU]
     exact⟨nd,by simp,λx hx y hy e=>pa (by rw[bX.mp hy]at e;exact e▸hx)⟩
    have au':∀q∈a++[p],q∈U:=λq hq=>by
     rcases eY.mp hq with h|h
     ·exact au q h
     ·rw[bX.mp h];exact hU gap p (hx p bF)
    obtain⟨⟨b1,c1,a1⟩,e2⟩:=ih g c (a++[p]) ok nd' au' (by rw[bR,fG];lia)
    rw[e2]
    have i:=vW ch n g c (a++[p]) b1 c1 a1 ok e2
    cases b1 with
    |true=>exact⟨_,rfl⟩
    |false=>
     rw[if_neg aU]at i
     obtain⟨rfl,i2,i3,i4,i5⟩:=i
     have au1:∀q∈a1,q∈U:=λq hq=>by
      by_cases z:q∈a++[p]
      ·exact au' q z
      ·rcases(i5 q hq z).2 with h|⟨y,k,_,_,_,h⟩
       ·exact hU g q h
       ·exact hU k q h
     have la:a.length+1<=a1.length:=by
      have:=gI nd' λq hq=>i2 q hq
      rw[bR,fG]at this
      exact this
     exact vY hU ih gap r c1 a1 hr ok (i3 nd') au1 (by lia) λ_ _ _=>by lia
theorem Dc{ch:Nat->List Nat}{U:List Nat}(hU:∀g,∀p∈ch g,p∈U):∀(n g:Nat)(c:List (Nat×Nat))(a:List Nat),OkA ch c->a.Nodup->(∀p∈a,p∈U)->U.length<a.length+n->∃r,fc ch n g c a=some r
 |0,g,c,a,ok,nd,au,hl=>by
  have:=gI nd au
  lia
 |n+1,g,c,a,ok,nd,au,hl=>vY hU (λg c a=>Dc hU n g c a) g (ch g) c a (λ_ h=>h) ok nd au (by lia) λ_ _ _=>by lia
end Tr
namespace K64
open PySem Tr
noncomputable def qK:E:=
 (.bin .Add (.ix (.var 0) (.con (.int 1))) (.ix (.var 0) (.con (.int 2))))
noncomputable def vZ:S:=
 (.cons (.asg (.one 3) (.ix (.var 0) (.glob 2)))
 (.cons (.ret (.bin .Add (.ix (.ix (.var 3) (.var 1)) (.con (.int 2))) (.bt .sum (.acons (.comp 1 [] (.one 0) qK (.seq (.sl (.var 3) (.bin .Add (.var 1) (.con (.int 1))) (.var 2))) (.con (.bl true))) .anil))))
 .nil))
noncomputable def wA:S:=
 (.cons (.ret (.bin .Add (.ix (.ix (.ix (.var 0) (.glob 0)) (.var 1)) (.con (.int 2))) (.ix (.ix (.ix (.var 0) (.glob 0)) (.var 2)) (.con (.int 3)))))
 .nil)
noncomputable def nP:S:=
 (.cons (.ite (.cmp .In (.var 3) (.ix (.ix (.ix (.var 0) (.glob 2)) (.var 5)) (.con (.int 3))))
 (.cons (.asg (.one 6) (.call 0 (.acons (.var 0) (.acons (.var 1) (.acons (.var 5) .anil)))))
 (.cons (.ite (.cmp .Lt (.var 6) (.var 4))
 (.cons (.ret (.tup (.acons (.con (.str "change")) (.acons (.var 1) (.acons (.var 5) (.acons (.var 6) (.acons (.var 4) .anil)))))))
 .nil)
 .nil)
 .nil))
 .nil)
 .nil)
noncomputable def qL:S:=
 (.cons (.asg (.one 4) (.call 1 (.acons (.var 0) (.acons (.var 2) (.acons (.var 3) .anil)))))
 (.cons (.forS (.one 5) (.rng2 (.bin .Add (.var 1) (.con (.int 1))) (.bt .len (.acons (.ix (.var 0) (.glob 2)) .anil))) nP)
 (.cons (.ret (.con .non))
 .nil)))
noncomputable def lK:S:=
 (.cons (.asg (.one 4) (.ix (.ix (.ix (.var 0) (.glob 2)) (.var 1)) (.con (.int 3))))
 (.cons (.ite (.and (.cmp .In (.var 2) (.var 4)) (.cmp .In (.var 3) (.var 4)))
 (.cons (.ret (.tup (.acons (.con (.str "scene")) (.acons (.var 1) .anil))))
 .nil)
 .nil)
 (.cons (.ite (.cmp .In (.var 2) (.var 4))
 (.cons (.ret (.call 2 (.acons (.var 0) (.acons (.var 1) (.acons (.var 2) (.acons (.var 3) .anil))))))
 .nil)
 .nil)
 (.cons (.ite (.cmp .In (.var 3) (.var 4))
 (.cons (.ret (.call 2 (.acons (.var 0) (.acons (.var 1) (.acons (.var 3) (.acons (.var 2) .anil))))))
 .nil)
 .nil)
 (.cons (.ret (.con .non))
 .nil)))))
noncomputable def qM:S:=
 (.cons (.asg (.one 4) (.call 3 (.acons (.var 0) (.acons (.var 3) (.acons (.var 1) (.acons (.var 2) .anil))))))
 (.cons (.ite (.cmp .IsNot (.var 4) (.con .non))
 (.cons (.ret (.var 4))
 .nil)
 .nil)
 .nil))
noncomputable def qN:S:=
 (.cons (.forS (.one 3) (.rng (.bt .len (.acons (.ix (.var 0) (.glob 2)) .anil))) qM)
 (.cons (.ret (.con .non))
 .nil))
noncomputable def qO:E:=
 (.cmp .IsNot (.call 4 (.acons (.var 2) (.acons (.var 1) (.acons (.var 0) .anil)))) (.con .non))
noncomputable def qP:E:=
 (.tup (.acons (.var 1) (.acons (.var 0) .anil)))
noncomputable def wB:S:=
 (.cons (.ext 1 (.comp 1 [3,0] (.one 0) qP (.rng2 (.bin .Add (.var 3) (.con (.int 1))) (.var 2)) qO))
 .nil)
noncomputable def wC:S:=
 (.cons (.asgO 1 (.lst .anil))
 (.cons (.asg (.one 2) (.bt .len (.acons (.ix (.var 0) (.glob 0)) .anil)))
 (.cons (.forS (.one 3) (.rng (.var 2)) wB)
 (.cons (.retO 1)
 .nil))))
noncomputable def nQ:S:=
 (.cons (.ite (.cmp .Is (.var 2) (.con .non))
 (.cons (.ret (.tup (.acons (.con (.str "nobody")) (.acons (.var 1) .anil))))
 .nil)
 .nil)
 (.cons (.ite (.cmp .NotIn (.ix (.ix (.ix (.var 0) (.glob 0)) (.var 1)) (.con (.int 1))) (.ix (.ix (.ix (.var 0) (.glob 1)) (.var 2)) (.con (.int 1))))
 (.cons (.ret (.tup (.acons (.con (.str "voice")) (.acons (.var 1) (.acons (.var 2) .anil)))))
 .nil)
 .nil)
 (.cons (.ret (.con .non))
 .nil)))
noncomputable def qQ:S:=
 (.cons (.ret (.and (.cmp .IsNot (.ix (.var 0) (.var 1)) (.con .non)) (.cmp .Eq (.ix (.var 0) (.var 1)) (.ix (.var 0) (.var 2)))))
 .nil)
noncomputable def wD:E:=
 (.call 6 (.acons (.var 2) (.acons (.var 0) (.acons (.var 1) .anil))))
noncomputable def qR:E:=
 (.cmp .IsNot (.var 0) (.con .non))
noncomputable def qS:E:=
 (.var 0)
noncomputable def qT:E:=
 (.call 7 (.acons (.var 2) (.acons (.var 0) (.acons (.var 1) .anil))))
noncomputable def qU:E:=
 (.tup (.acons (.con (.str "clash")) (.acons (.var 0) (.acons (.var 1) .anil))))
noncomputable def wF:S:=
 (.cons (.asgO 2 (.comp 2 [0] (.many [0,1]) wD (.enum (.var 1)) (.con (.bl true))))
 (.cons (.asgO 2 (.comp 1 [] (.one 0) qS (.seq (.rd 2)) qR))
 (.cons (.ext 2 (.comp 2 [1] (.many [0,1]) qU (.seq (.call 5 (.acons (.var 0) .anil))) qT))
 (.cons (.retO 2)
 .nil))))
noncomputable def wG:S:=
 (.cons (.ite (.cmp .NotEq (.call 8 (.acons (.var 0) (.acons (.var 1) .anil))) (.lst .anil))
 (.cons (.never)
 .nil)
 .nil)
 .nil)
noncomputable def qV:E:=
 (.cmp .In (.ix (.var 2) (.var 0)) (.var 1))
noncomputable def qW:E:=
 (.var 0)
noncomputable def wH:S:=
 (.cons (.ret (.comp 1 [2,1] (.one 0) qW (.seq (.ix (.ix (.ix (.var 0) (.glob 2)) (.var 3)) (.con (.int 3)))) qV))
 .nil)
noncomputable def wI:E:=
 (.ix (.var 1) (.var 0))
noncomputable def qX:E:=
 (.cmp .Eq (.var 0) (.var 2))
noncomputable def qY:E:=
 (.var 1)
noncomputable def lL:E:=
 (.and (.cmp .NotIn (.var 0) (.var 1)) (.cmp .NotIn (.var 0) (.var 2)))
noncomputable def lM:E:=
 (.var 0)
noncomputable def wJ:S:=
 (.cons (.asg (.one 5) (.comp 1 [1] (.one 0) wI (.seq (.ix (.ix (.ix (.var 0) (.glob 2)) (.var 3)) (.con (.int 3)))) (.con (.bl true))))
 (.cons (.asg (.one 6) (.srt (.comp 2 [4] (.many [0,1]) qY (.seq (.ix (.var 0) (.glob 3))) qX)))
 (.cons (.ret (.comp 1 [2,5] (.one 0) lM (.seq (.var 6)) lL))
 .nil)))
noncomputable def wK:E:=
 (.ix (.var 1) (.var 0))
noncomputable def wL:S:=
 (.cons (.asg (.one 3) (.bin .Add (.lst (.acons (.var 2) .anil)) (.comp 1 [0] (.one 0) wK (.seqD (.var 1)) (.con (.bl true)))))
 (.cons (.ret (.tup (.acons (.con (.str "lacks")) (.acons (.srt (.var 3)) (.acons (.srt (.var 1)) .anil)))))
 .nil))
noncomputable def wM:E:=
 (.tup (.acons (.var 0) (.acons (.call 11 (.acons (.var 1) (.acons (.var 2) (.acons (.var 3) (.acons (.var 4) (.acons (.var 0) .anil)))))) .anil)))
noncomputable def kG:S:=
 (.cons (.newD 8)
 (.cons (.ifR true .omit 29 (.var 5) 6 8 (.var 7)
 (.cons (.sealed 8)
 (.cons (.sealed 6)
 (.cons (.ret (.call 12 (.acons (.var 6) (.acons (.var 8) (.acons (.var 7) .anil)))))
 .nil)))
 .nil)
 .nil))
noncomputable def wN:E:=
 (.tup (.acons (.ix (.var 1) (.var 0)) (.acons (.var 0) .anil)))
noncomputable def wO:E:=
 (.tup (.acons (.var 0) (.acons (.ix (.var 1) (.var 0)) .anil)))
noncomputable def qZ:S:=
 (.cons (.asg (.one 4) (.call 10 (.acons (.var 0) (.acons (.var 1) (.acons (.var 2) (.acons (.var 3) .anil))))))
 (.cons (.asg (.one 5) (.dck (.comp 1 [0,1,2,3] (.one 0) wM (.seq (.var 4)) (.con (.bl true)))))
 (.cons (.newD 6)
 (.cons (.forS (.one 7) (.seq (.var 4)) kG)
 (.cons (.sealed 6)
 (.cons (.asg (.one 9) (.dck (.comp 1 [6] (.one 0) wN (.seqD (.var 6)) (.con (.bl true)))))
 (.cons (.ret (.tup (.acons (.con (.str "covered")) (.acons (.comp 1 [9] (.one 0) wO (.seq (.var 4)) (.con (.bl true))) .anil))))
 .nil)))))))
noncomputable def wQ:E:=
 (.call 13 (.acons (.var 1) (.acons (.var 2) (.acons (.var 3) (.acons (.var 0) .anil)))))
noncomputable def wR:S:=
 (.cons (.exp (.call 9 (.acons (.var 0) (.acons (.var 1) .anil))))
 (.cons (.ret (.comp 1 [0,1,2] (.one 0) wQ (.rng (.bt .len (.acons (.ix (.var 0) (.glob 2)) .anil))) (.con (.bl true))))
 .nil))
noncomputable def lN:S:=
 (.cons (.ite (.cmp .Eq (.ix (.call 13 (.acons (.var 0) (.acons (.var 1) (.acons (.var 2) (.acons (.var 3) .anil))))) (.con (.int 0))) (.con (.str "lacks")))
 (.cons (.ret (.var 3))
 .nil)
 .nil)
 .nil)
noncomputable def wU:S:=
 (.cons (.forS (.one 3) (.rng (.bt .len (.acons (.ix (.var 0) (.glob 2)) .anil))) lN)
 (.cons (.ret (.con .non))
 .nil))
noncomputable def wV:E:=
 (.bin .Add (.var 1) (.tup (.acons (.var 0) .anil)))
noncomputable def nR:S:=
 (.cons (.asg (.one 4) (.ife (.var 3) (.bin .Add (.ix (.var 3) (.neg (.con (.int 1)))) (.con (.int 1))) (.con (.int 0))))
 (.cons (.ext 2 (.comp 1 [3] (.one 0) wV (.rng2 (.var 4) (.var 1)) (.con (.bl true))))
 .nil))
noncomputable def wW:S:=
 (.cons (.asgO 2 (.lst .anil))
 (.cons (.forS (.one 3) (.seq (.var 0)) nR)
 (.cons (.retO 2)
 .nil)))
noncomputable def wX:S:=
 (.cons (.asgN 2 (.call 16 (.acons (.var 2) (.acons (.var 0) .anil))))
 (.cons (.extN 3 2)
 .nil))
noncomputable def wY:S:=
 (.cons (.asgN 2 (.lst (.acons (.tup .anil) .anil)))
 (.cons (.asgO 3 (.lst (.acons (.tup .anil) .anil)))
 (.cons (.forS (.one 4) (.rng (.var 1)) wX)
 (.cons (.retO 3)
 .nil))))
noncomputable def wZ:E:=
 (.tup (.acons (.var 0) (.acons (.call 15 (.acons (.var 1) (.acons (.var 2) (.acons (.var 0) .anil)))) .anil)))
noncomputable def xA:S:=
 (.cons (.exp (.call 9 (.acons (.var 0) (.acons (.var 1) .anil))))
 (.cons (.ret (.comp 1 [0,1] (.one 0) wZ (.seq (.call 17 (.acons (.bt .len (.acons (.ix (.var 0) (.glob 1)) .anil)) (.acons (.var 2) .anil)))) (.con (.bl true))))
 .nil))
noncomputable def rA:S:=
 (.cons (.ite (.cmp .Lt (.var 1) (.bt .len (.acons (.var 0) .anil)))
 (.cons (.ret (.ix (.var 0) (.var 1)))
 .nil)
 .nil)
 (.cons (.ret (.con (.int 0)))
 .nil))
noncomputable def rC:S:=
 (.cons (.ite (.var 3)
 (.cons (.asg (.one 6) (.bin .Mod (.bin .Add (.bin .Add (.bin .Mult (.bin .Mod (.var 0) (.con (.int 2147483629))) (.con (.int 48271))) (.bin .Mult (.bin .Mult (.var 5) (.var 5)) (.con (.int 69621)))) (.con (.int 7))) (.con (.int 2147483647))))
 (.cons (.app 4 (.bin .Mod (.bin .FloorDiv (.bin .Mod (.bin .Mult (.var 6) (.con (.int 39373))) (.con (.int 2147483629))) (.con (.int 5))) (.var 1)))
 .nil))
 (.cons (.app 4 (.bin .Mod (.var 0) (.var 1)))
 (.cons (.asg (.one 0) (.bin .FloorDiv (.var 0) (.var 1)))
 .nil)))
 .nil)
noncomputable def xB:S:=
 (.cons (.asgO 4 (.lst .anil))
 (.cons (.forS (.one 5) (.rng (.var 2)) rC)
 (.cons (.retO 4)
 .nil)))
noncomputable def xC:E:=
 (.ix (.var 1) (.var 0))
noncomputable def nS:S:=
 (.cons (.ite (.and (.cmp .Eq (.ix (.var 4) (.var 6)) (.con (.int 1))) (.cmp .NotIn (.ix (.var 2) (.var 6)) (.comp 1 [2] (.one 0) xC (.seq (.rd 5)) (.con (.bl true)))))
 (.cons (.app 5 (.var 6))
 .nil)
 .nil)
 .nil)
noncomputable def rD:S:=
 (.cons (.asg (.one 4) (.call 20 (.acons (.bin .FloorDiv (.var 0) (.con (.int 10000))) (.acons (.con (.int 2)) (.acons (.bt .len (.acons (.var 2) .anil)) (.acons (.var 3) .anil))))))
 (.cons (.asgO 5 (.lst .anil))
 (.cons (.forS (.one 6) (.rng (.bt .len (.acons (.var 2) .anil))) nS)
 (.cons (.ite (.cmp .Eq (.bin .Mod (.var 0) (.con (.int 2))) (.con (.int 1)))
 (.cons (.rev 5)
 .nil)
 .nil)
 (.cons (.ret (.tup (.acons (.bin .Add (.con (.str "s")) (.ix (.con (.str "abcdef")) (.var 1))) (.acons (.bin .Mod (.bin .FloorDiv (.var 0) (.con (.int 2))) (.con (.int 50))) (.acons (.bin .Add (.con (.int 60)) (.bin .Mod (.bin .FloorDiv (.var 0) (.con (.int 100))) (.con (.int 100)))) (.acons (.bt .tuple (.acons (.rd 5) .anil)) .anil))))))
 .nil)))))
noncomputable def rE:E:=
 (.tup (.acons (.bin .Add (.con (.str "p")) (.ix (.con (.str "abcdef")) (.var 0))) (.acons (.ix (.con (.str "abz")) (.ix (.var 3) (.var 0))) (.acons (.ix (.var 1) (.var 0)) (.acons (.ix (.var 2) (.var 0)) .anil)))))
noncomputable def rF:E:=
 (.cmp .Eq (.ix (.var 3) (.var 0)) (.var 2))
noncomputable def rG:E:=
 (.ix (.var 1) (.var 0))
noncomputable def rH:E:=
 (.or (.cmp .In (.var 0) (.var 1)) (.cmp .Eq (.bin .Mod (.bin .FloorDiv (.ix (.var 2) (.var 3)) (.ix (.lst (.acons (.con (.int 1)) (.acons (.con (.int 2)) (.acons (.con (.int 4)) .anil)))) (.var 0))) (.con (.int 2))) (.con (.int 1))))
noncomputable def rJ:E:=
 (.var 0)
noncomputable def xD:E:=
 (.ix (.con (.str "abz")) (.var 0))
noncomputable def rK:S:=
 (.cons (.asg (.one 12) (.comp 1 [5,11,4] (.one 0) rG (.rng (.var 1)) rF))
 (.cons (.asg (.one 13) (.comp 1 [12,9,11] (.one 0) rJ (.rng (.con (.int 3))) rH))
 (.cons (.app 10 (.tup (.acons (.bin .Add (.con (.str "x")) (.ix (.con (.str "abcde")) (.var 11))) (.acons (.mth .join (.con (.str "")) (.comp 1 [] (.one 0) xD (.seq (.var 13)) (.con (.bl true)))) (.acons (.con (.int 0)) .anil)))))
 .nil)))
noncomputable def rL:E:=
 (.cmp .Eq (.ix (.var 2) (.var 0)) (.con (.int 1)))
noncomputable def rM:E:=
 (.tup (.acons (.var 1) (.acons (.var 0) .anil)))
noncomputable def xE:S:=
 (.cons (.asg (.one 16) (.call 20 (.acons (.call 19 (.acons (.var 0) (.acons (.bin .Add (.con (.int 6)) (.var 15)) .anil))) (.acons (.con (.int 2)) (.acons (.var 2) (.acons (.var 3) .anil))))))
 (.cons (.asg (.one 14) (.bin .Add (.var 14) (.comp 1 [15,16] (.one 0) rM (.rng (.var 2)) rL)))
 .nil))
noncomputable def rN:E:=
 (.call 21 (.acons (.var 1) (.acons (.var 0) (.acons (.var 2) (.acons (.var 3) .anil)))))
noncomputable def xF:S:=
 (.cons (.asg (.one 4) (.call 20 (.acons (.call 19 (.acons (.var 0) (.acons (.con (.int 1)) .anil))) (.acons (.var 2) (.acons (.var 1) (.acons (.var 3) .anil))))))
 (.cons (.asg (.one 5) (.call 20 (.acons (.call 19 (.acons (.var 0) (.acons (.con (.int 2)) .anil))) (.acons (.con (.int 3)) (.acons (.var 1) (.acons (.var 3) .anil))))))
 (.cons (.asg (.one 6) (.call 20 (.acons (.call 19 (.acons (.var 0) (.acons (.con (.int 3)) .anil))) (.acons (.con (.int 31)) (.acons (.var 1) (.acons (.var 3) .anil))))))
 (.cons (.asg (.one 7) (.call 20 (.acons (.call 19 (.acons (.var 0) (.acons (.con (.int 4)) .anil))) (.acons (.con (.int 31)) (.acons (.var 1) (.acons (.var 3) .anil))))))
 (.cons (.asg (.one 8) (.bt .tuple (.acons (.comp 1 [6,7,5] (.one 0) rE (.rng (.var 1)) (.con (.bl true))) .anil)))
 (.cons (.asg (.one 9) (.call 20 (.acons (.call 19 (.acons (.var 0) (.acons (.con (.int 5)) .anil))) (.acons (.con (.int 8)) (.acons (.var 2) (.acons (.var 3) .anil))))))
 (.cons (.asgO 10 (.lst .anil))
 (.cons (.forS (.one 11) (.rng (.var 2)) rK)
 (.cons (.asg (.one 14) (.lst .anil))
 (.cons (.forS (.one 15) (.rng (.var 1)) xE)
 (.cons (.asg (.one 17) (.comp 2 [4,3] (.many [0,1]) rN (.enum (.sl (.var 0) (.con (.int 12)) (.con (.int 18)))) (.con (.bl true))))
 (.cons (.ret (.tup (.acons (.tup (.acons (.var 8) (.acons (.bt .tuple (.acons (.rd 10) .anil)) (.acons (.bt .tuple (.acons (.var 17) .anil)) (.acons (.tup .anil) (.acons (.bt .tuple (.acons (.var 14) .anil)) .anil)))))) (.acons (.var 4) .anil))))
 .nil))))))))))))
noncomputable def xG:S:=
 (.cons (.asg (.many [2,3,4,5]) (.ix (.ix (.var 0) (.con (.int 2))) (.var 1)))
 (.cons (.asg (.one 6) (.bin .Add (.bin .Add (.sl (.ix (.var 0) (.con (.int 2))) .omit (.var 1)) (.tup (.acons (.tup (.acons (.var 2) (.acons (.var 3) (.acons (.con (.int 0)) (.acons (.var 5) .anil))))) .anil))) (.sl (.ix (.var 0) (.con (.int 2))) (.bin .Add (.var 1) (.con (.int 1))) .omit)))
 (.cons (.ret (.bin .Add (.bin .Add (.sl (.var 0) .omit (.con (.int 2))) (.tup (.acons (.var 6) .anil))) (.sl (.var 0) (.con (.int 3)) .omit)))
 .nil)))
noncomputable def xH:E:=
 (.ix (.var 1) (.var 0))
noncomputable def xI:E:=
 (.and (.cmp .In (.tup (.acons (.var 1) (.acons (.var 0) .anil))) (.ix (.var 2) (.con (.int 4)))) (.cmp .NotIn (.var 0) (.bin .Add (.var 3) (.var 4))))
noncomputable def xJ:E:=
 (.var 0)
noncomputable def xK:S:=
 (.cons (.asg (.one 5) (.comp 1 [1] (.one 0) xH (.seq (.ix (.var 3) (.con (.int 3)))) (.con (.bl true))))
 (.cons (.ret (.comp 1 [4,0,2,5] (.one 0) xJ (.rng (.bt .len (.acons (.ix (.var 0) (.con (.int 1))) .anil))) xI))
 .nil))
noncomputable def nT:E:=
 (.cmp .In (.ix (.var 2) (.var 0)) (.var 1))
noncomputable def nU:E:=
 (.var 0)
noncomputable def xM:E:=
 (.ix (.var 0) (.con (.int 1)))
noncomputable def xN:E:=
 (.ix (.var 0) (.con (.int 0)))
noncomputable def xO:E:=
 (.cmp .NotIn (.ix (.var 0) (.con (.int 1))) (.call 24 (.acons (.var 1) (.acons (.var 2) (.acons (.var 3) (.acons (.var 4) (.acons (.ix (.var 0) (.con (.int 0))) .anil)))))))
noncomputable def xP:E:=
 (.var 0)
noncomputable def xQ:S:=
 (.cons (.asg (.one 7) (.bin .Add (.var 7) (.call 24 (.acons (.var 0) (.acons (.var 1) (.acons (.var 2) (.acons (.var 3) (.acons (.var 8) .anil))))))))
 .nil)
noncomputable def xR:E:=
 (.cmp .NotIn (.var 0) (.var 1))
noncomputable def xS:E:=
 (.var 0)
noncomputable def rO:S:=
 (.cons (.asg (.one 5) (.comp 1 [2,1] (.one 0) nU (.seq (.ix (.var 3) (.con (.int 3)))) nT))
 (.cons (.ite (.or (.not (.isi (.var 4) .tuple)) (.not (.isi (.ix (.var 4) (.con (.int 1))) .list)))
 (.cons (.ret (.con (.bl false)))
 .nil)
 .nil)
 (.cons (.ite (.cmp .Eq (.ix (.var 4) (.con (.int 0))) (.con (.str "covered")))
 (.cons (.asg (.one 6) (.comp 1 [] (.one 0) xM (.seq (.ix (.var 4) (.con (.int 1)))) (.con (.bl true))))
 (.cons (.ite (.or (.cmp .NotEq (.comp 1 [] (.one 0) xN (.seq (.ix (.var 4) (.con (.int 1)))) (.con (.bl true))) (.var 5)) (.cmp .Lt (.lset (.var 6)) (.bt .len (.acons (.var 6) .anil))))
 (.cons (.ret (.con (.bl false)))
 .nil)
 .nil)
 (.cons (.ret (.cmp .Eq (.comp 1 [0,1,2,3] (.one 0) xP (.seq (.ix (.var 4) (.con (.int 1)))) xO) (.lst .anil)))
 .nil)))
 .nil)
 (.cons (.asg (.one 7) (.lst .anil))
 (.cons (.forS (.one 8) (.seq (.ix (.var 4) (.con (.int 1)))) xQ)
 (.cons (.ite (.or (.cmp .NotEq (.ix (.var 4) (.con (.int 0))) (.con (.str "lacks"))) (.cmp .NotEq (.comp 1 [5] (.one 0) xS (.seq (.ix (.var 4) (.con (.int 1)))) xR) (.lst .anil)))
 (.cons (.ret (.con (.bl false)))
 .nil)
 .nil)
 (.cons (.ret (.and (.cmp .Eq (.ix (.var 4) (.con (.int 1))) (.sset (.ix (.var 4) (.con (.int 1))))) (.and (.cmp .Eq (.ix (.var 4) (.con (.int 2))) (.sset (.var 7))) (.cmp .Lt (.bt .len (.acons (.ix (.var 4) (.con (.int 2))) .anil)) (.bt .len (.acons (.ix (.var 4) (.con (.int 1))) .anil))))))
 .nil)))))))
noncomputable def xT:S:=
 (.cons (.ite (.not (.call 25 (.acons (.var 0) (.acons (.var 1) (.acons (.var 2) (.acons (.ix (.ix (.var 0) (.con (.int 2))) (.var 4)) (.acons (.ix (.var 3) (.var 4)) .anil)))))))
 (.cons (.ret (.con .non))
 .nil)
 .nil)
 .nil)
noncomputable def xU:E:=
 (.ix (.var 0) (.con (.int 0)))
noncomputable def xV:S:=
 (.cons (.asg (.one 3) (.call 14 (.acons (.var 0) (.acons (.var 1) (.acons (.var 2) .anil)))))
 (.cons (.ite (.or (.not (.isi (.var 3) .list)) (.cmp .NotEq (.bt .len (.acons (.var 3) .anil)) (.bt .len (.acons (.ix (.var 0) (.con (.int 2))) .anil))))
 (.cons (.ret (.con .non))
 .nil)
 .nil)
 (.cons (.forS (.one 4) (.rng (.bt .len (.acons (.var 3) .anil))) xT)
 (.cons (.ret (.comp 1 [] (.one 0) xU (.seq (.var 3)) (.con (.bl true))))
 .nil))))
noncomputable def rP:E:=
 (.and (.cmp .Eq (.ix (.ix (.var 2) (.var 3)) (.var 0)) (.con (.str "covered"))) (.cmp .NotEq (.ix (.var 1) (.var 0)) (.con (.str "covered"))))
noncomputable def rQ:E:=
 (.var 0)
noncomputable def xW:S:=
 (.cons (.asg (.one 3) (.ix (.var 0) (.bin .Add (.sl (.var 1) .omit (.var 2)) (.sl (.var 1) (.bin .Add (.var 2) (.con (.int 1))) .omit))))
 (.cons (.ite (.cmp .NotEq (.comp 1 [3,0,1] (.one 0) rQ (.rng (.bt .len (.acons (.var 3) .anil))) rP) (.lst .anil))
 (.cons (.ret (.con (.bl false)))
 .nil)
 .nil)
 .nil))
noncomputable def xX:S:=
 (.cons (.forS (.one 2) (.rng (.bt .len (.acons (.var 1) .anil))) xW)
 (.cons (.ret (.con (.bl true)))
 .nil))
noncomputable def xY:E:=
 (.cmp .Eq (.bin .Mod (.bin .FloorDiv (.var 1) (.ix (.lst (.acons (.con (.int 1)) (.acons (.con (.int 2)) (.acons (.con (.int 4)) (.acons (.con (.int 8)) (.acons (.con (.int 16)) .anil)))))) (.var 0))) (.con (.int 2))) (.con (.int 1)))
noncomputable def xZ:E:=
 (.var 0)
noncomputable def yA:S:=
 (.cons (.asg (.one 7) (.comp 1 [6] (.one 0) xZ (.rng (.var 2)) xY))
 (.cons (.dputV 5 (.bt .tuple (.acons (.var 7) .anil)) (.call 26 (.acons (.var 3) (.acons (.var 4) (.acons (.var 7) .anil)))))
 (.cons (.ite (.cmp .Is (.ix (.rd 5) (.bt .tuple (.acons (.var 7) .anil))) (.con .non))
 (.cons (.ret (.con (.bl false)))
 .nil)
 .nil)
 .nil)))
noncomputable def yB:E:=
 (.ix (.var 0) (.con (.int 0)))
noncomputable def rR:E:=
 (.cmp .Eq (.ix (.ix (.var 1) (.var 2)) (.var 0)) (.con (.str "lacks")))
noncomputable def rS:E:=
 (.var 0)
noncomputable def yC:S:=
 (.cons (.asg (.one 10) (.comp 1 [5,7] (.one 0) rS (.rng (.bt .len (.acons (.ix (.var 3) (.con (.int 2))) .anil))) rR))
 (.cons (.ite (.or (.cmp .NotEq (.var 9) (.ix (.bin .Add (.var 10) (.lst (.acons (.con .non) .anil))) (.con (.int 0)))) (.not (.call 27 (.acons (.var 5) (.acons (.var 7) .anil)))))
 (.cons (.ret (.con (.bl false)))
 .nil)
 .nil)
 .nil))
noncomputable def gJ:S:=
 (.cons (.asg (.one 1) (.call 19 (.acons (.var 0) (.acons (.con (.int 0)) .anil))))
 (.cons (.asg (.one 2) (.bin .Add (.con (.int 1)) (.bin .Mod (.bin .FloorDiv (.var 1) (.con (.int 14))) (.con (.int 5)))))
 (.cons (.asg (.many [3,4]) (.call 22 (.acons (.var 0) (.acons (.bin .Mod (.bin .FloorDiv (.var 1) (.con (.int 2))) (.con (.int 7))) (.acons (.var 2) (.acons (.cmp .Eq (.bin .Mod (.var 1) (.con (.int 2))) (.con (.int 1))) .anil))))))
 (.cons (.ite (.and (.cmp .Eq (.bin .Mod (.bin .FloorDiv (.var 1) (.con (.int 70))) (.con (.int 4))) (.con (.int 3))) (.cmp .NotEq (.ix (.var 3) (.con (.int 2))) (.tup .anil)))
 (.cons (.asg (.one 3) (.call 23 (.acons (.var 3) (.acons (.bin .Mod (.bin .FloorDiv (.var 1) (.con (.int 280))) (.bt .len (.acons (.ix (.var 3) (.con (.int 2))) .anil))) .anil))))
 (.cons (.ite (.cmp .NotEq (.call 8 (.acons (.var 3) (.acons (.var 4) .anil))) (.lst .anil))
 (.cons (.ret (.con (.bl true)))
 .nil)
 .nil)
 .nil))
 .nil)
 (.cons (.newT 5)
 (.cons (.forS (.one 6) (.rng (.ix (.lst (.acons (.con (.int 1)) (.acons (.con (.int 2)) (.acons (.con (.int 4)) (.acons (.con (.int 8)) (.acons (.con (.int 16)) (.acons (.con (.int 32)) .anil))))))) (.var 2))) yA)
 (.cons (.asg (.one 8) (.call 18 (.acons (.var 3) (.acons (.var 4) (.acons (.var 2) .anil)))))
 (.cons (.sealed 5)
 (.cons (.ite (.or (.not (.isi (.var 8) .list)) (.cmp .NotEq (.srtT (.comp 1 [] (.one 0) yB (.seq (.var 8)) (.con (.bl true)))) (.srtT (.dkl (.var 5)))))
 (.cons (.ret (.con (.bl false)))
 .nil)
 .nil)
 (.cons (.forS (.many [7,9]) (.seq (.var 8)) yC)
 (.cons (.ret (.con (.bl true)))
 .nil)))))))))))
noncomputable def gS:S:=
 (.cons (.ite (.cmp .NotIn (.var 4) (.rd 2))
 (.cons (.dputR 2 (.var 4) (.con (.bl true)))
 (.cons (.ifR false (.cmp .NotIn (.var 4) (.rd 1)) 29 (.var 0) 1 2 (.ix (.rd 1) (.var 4))
 (.cons (.dputR 1 (.var 4) (.var 3))
 (.cons (.retR (.con (.bl true)) 1 2)
 .nil))
 .nil)
 .nil))
 .nil)
 .nil)
noncomputable def nV:S:=
 (.cons (.forS (.one 4) (.seq (.ix (.var 0) (.var 3))) gS)
 (.cons (.retR (.con (.bl false)) 1 2)
 .nil))
noncomputable def T:Tab:=⟨λg=>match g with|0=>(.int 0)|1=>(.int 1)|2=>(.int 2)|3=>(.int 4)|_=>.non,λf=>f==5||f==8||f==10||f==11||f==14||f==16||f==17||f==18||f==20||f==24,λf=>match f with|29=>some 1000|_=>none⟩
@[simp] theorem T_glob0:T.glob 0=(.int 0):=id rfl
@[simp] theorem T_glob1:T.glob 1=(.int 1):=id rfl
@[simp] theorem T_glob2:T.glob 2=(.int 2):=id rfl
@[simp] theorem T_glob3:T.glob 3=(.int 4):=id rfl
@[simp] theorem T_fresh2:T.fresh 2=false:=id rfl
@[simp] theorem T_fresh12:T.fresh 12=false:=id rfl
noncomputable def dfs:List Df:=[⟨4,3,vZ,none⟩,⟨3,3,wA,none⟩,⟨7,4,qL,none⟩,⟨5,4,lK,none⟩,⟨5,3,qN,none⟩,⟨4,1,wC,none⟩,⟨3,3,nQ,none⟩,⟨3,3,qQ,none⟩,⟨3,2,wF,none⟩,⟨2,2,wG,none⟩,⟨4,4,wH,none⟩,⟨7,5,wJ,none⟩,⟨4,3,wL,none⟩,⟨10,4,qZ,none⟩,⟨3,3,wR,none⟩,⟨4,3,wU,none⟩,⟨5,2,wW,none⟩,⟨5,2,wY,none⟩,⟨3,3,xA,none⟩,⟨2,2,rA,none⟩,⟨7,4,xB,none⟩,⟨7,4,rD,none⟩,⟨18,4,xF,none⟩,⟨7,2,xG,none⟩,⟨6,5,xK,none⟩,⟨9,5,rO,none⟩,⟨5,3,xV,none⟩,⟨4,2,xX,none⟩,⟨11,1,gJ,none⟩,⟨5,4,nV,none⟩]
theorem kH(n:Nat)(ns:List Int)(k:Nat):aB T dfs (n+1) 19 [.lst (ns.map D.int),.int k]=.ok (.int (fE ns k)):=by
 unfold fE
 refine bW (k:=false) rfl rfl rfl ?_
 by_cases h:k<ns.length
 ·have hi:(ns.map D.int)[k]?=some (.int (ns.getD k 0)):=by simp[h]
  have f1:bL T ((E.var 0).ix (E.var 1))=false:=rfl
  simp[rA,h,lI hi,f1]
 ·simp[rA,h]
theorem Jx(n:Nat)(P A B C:D)(ss:List Scene)(hl:ss.length<=24)(s t:Nat)(h:s<t)(ht:t<=ss.length):aB T dfs (n+1) 0 [.tup [P,A,.tup (ss.map Scene.enc),B,C],.int s,.int t]=.ok (.int (jA ss s t)):=by
 refine bW (k:=true) rfl rfl rfl ?_
 have hs:s<ss.length:=by lia
 have e1:=vJ (aX hs)
 have e2:cut (ss.map Scene.enc) (some ((s:Int)+1)) (some (t:Int))=((ss.drop (s+1)).take (t-(s+1))).map Scene.enc:=by
  have:=cut_nn (xs:=ss.map Scene.enc) (a:=s+1) (b:=t) (by simp;lia) (by simp;lia)
  rw[sM,sN,<-this]
  push_cast
  rfl
 have e3:aR (aG T (aB T dfs n) 1 [] (.one 0) qK (.con (.bl true)) [.v (.tup [P,A,.tup (ss.map Scene.enc),B,C]),.v (.int s),.v (.int t),.v (.tup (ss.map Scene.enc))]) (((ss.drop (s+1)).take (t-(s+1))).map Scene.enc)=.ok ((((ss.drop (s+1)).take (t-(s+1))).map Scene.both).map D.int):=by
  rw[cG]
  have:∀xs:List Scene,aR (aG T (aB T dfs n) 1 [] (.one 0) qK (.con (.bl true)) [.v (.tup [P,A,.tup (ss.map Scene.enc),B,C]),.v (.int s),.v (.int t),.v (.tup (ss.map Scene.enc))]) (xs.map Scene.enc)=.ok (xs.map (D.int∘Scene.both)):=by
   intro xs
   induction xs with
   |nil=>rfl
   |cons x r ih=>
    rw[aK,aR,ih]
    simp[aG,Tr.aQ,qK,Scene.both]
  exact this _
 have e4:((ss.map Scene.enc).length:Nat)<=big:=by have:=bI;simp;lia
 have e5:((((ss.drop (s+1)).take (t-(s+1))).map Scene.enc).length:Nat)<=big:=by have:=bI;simp;lia
 have e6:((ss[s]?).map Scene.pause).getD 0=ss[s].pause:=by simp[hs]
 have e7:jA ss s t=ss[s].pause+(((ss.drop (s+1)).take (t-(s+1))).map Scene.both).sum:=by unfold jA;rw[e6]
 rw[e7]
 clear e7 e4 ht
 generalize (ss.drop (s+1)).take (t-(s+1))=X at *
 simp only[aF]at e5
 simp[vZ,e1,e2,e3,e5]
theorem Jy(n:Nat)(A S B C:D)(ps:List Part)(i j:Nat)(hi:i<ps.length)(hj:j<ps.length):aB T dfs (n+1) 1 [.tup [.tup (ps.map Part.enc),A,S,B,C],.int i,.int j]=.ok (.int (gE ps i j)):=by
 refine bW (k:=true) rfl rfl rfl ?_
 simp[wA,vK (aX hi),vK (aX hj),Jk hi hj]
theorem Dd(n:Nat)(A B C:D)(ps:List Part)(ss:List Scene)(hl:ss.length<=24)(s i j:Nat)(hs:s<ss.length)(hi:i<ps.length)(hj:j<ps.length) :
 aB T dfs (n+2) 2 [.tup [.tup (ps.map Part.enc),A,.tup (ss.map Scene.enc),B,C],.int s,.int i,.int j]=.ok (iI (jB ps ss s i j)):=by
 have ct:=Jy n A (.tup (ss.map Scene.enc)) B C ps i j hi hj
 have rg:=DU (s:=s) (m:=ss.length) (by lia) (by lia)
 have loop:=DW (f:=aS T (aB T dfs (n+1)) (.one 5) nP) (g:=lJ ps ss s i j) (ts:=dG (s+1) (ss.length-(s+1)))
  (e:=[.v (.tup [.tup (ps.map Part.enc),A,.tup (ss.map Scene.enc),B,C]),.v (.int s),.v (.int i),.v (.int j),.v (.int (gE ps i j)),.no,.no])
  (I:=λe=>∃s5 s6,e=[.v (.tup [.tup (ps.map Part.enc),A,.tup (ss.map Scene.enc),B,C]),.v (.int s),.v (.int i),.v (.int j),.v (.int (gE ps i j)),s5,s6]) ⟨_,_,rfl⟩ (by
   rintro t ht e ⟨s5,s6,rfl⟩
   have ht':s<t/\t<ss.length:=by have:=sT.mp ht;lia
   have e1:=vJ (aX ht'.2)
   have e2:=Jx n (.tup (ps.map Part.enc)) A B C ss hl s t ht'.1 (by lia)
   have e3:=vQ ht'.2
   unfold lJ
   by_cases c1:j∈dD ss t
   ·by_cases c2:jA ss s t<gE ps i j
    ·rw[if_pos ⟨c1,c2⟩]
     rw[e3]at c1
     simp[aS,nP,aC,e1,e2,c1,c2,bL,Rz.enc]
    ·rw[if_neg (by simp[c2])]
     rw[e3]at c1
     refine⟨?e1,?h1,?i1⟩
     case h1=>
      simp[aS,nP,aC,e1,e2,c1,c2,bL]
      exact rfl
     case i1=>exact⟨_,_,rfl⟩
   ·rw[if_neg (by simp[c1])]
    rw[e3]at c1
    refine⟨?e2,?h2,?i2⟩
    case h2=>
     simp[aS,nP,aC,e1,e2,c1,bL]
     exact rfl
    case i2=>exact⟨_,_,rfl⟩)
 refine bW (k:=false) rfl rfl rfl ?_
 unfold jB
 cases hg:(dG (s+1) (ss.length-(s+1))).findSome? (lJ ps ss s i j)with
 |some r=>
  rw[hg]at loop
  simp[qL,ct,rg,loop,iI]
 |none=>
  rw[hg]at loop
  obtain⟨e',h1,s5,s6,rfl⟩:=loop
  simp[qL,ct,rg,h1,iI,bL]
theorem Jz(n:Nat)(A B C:D)(ps:List Part)(ss:List Scene)(hl:ss.length<=24)(s i j:Nat)(hs:s<ss.length)(hi:i<ps.length)(hj:j<ps.length) :
 aB T dfs (n+3) 3 [.tup [.tup (ps.map Part.enc),A,.tup (ss.map Scene.enc),B,C],.int s,.int i,.int j]=.ok (iI (jC ps ss i j s)):=by
 have e1:=vJ (aX hs)
 have e2:=Dd n A B C ps ss hl s i j hs hi hj
 have e3:=Dd n A B C ps ss hl s j i hs hj hi
 have e4:=vQ hs
 refine bW (k:=false) rfl rfl rfl ?_
 unfold jC
 rw[e4]
 by_cases c1:i∈ss[s].who<;>by_cases c2:j∈ss[s].who
 ·simp[lK,e1,c1,c2,iI,Rz.enc,bL]
 ·simp[lK,e1,c1,c2,e2]
 ·simp[lK,e1,c1,c2,e3]
 ·simp[lK,e1,c1,c2,iI,bL]
theorem KA(n:Nat)(A B C:D)(ps:List Part)(ss:List Scene)(hl:ss.length<=24)(i j:Nat)(hi:i<ps.length)(hj:j<ps.length) :
 aB T dfs (n+4) 4 [.tup [.tup (ps.map Part.enc),A,.tup (ss.map Scene.enc),B,C],.int i,.int j]=.ok (iI (eJ ps ss i j)):=by
 have rg:=eE (n:=ss.length) (by lia)
 have loop:=DW (f:=aS T (aB T dfs (n+3)) (.one 3) qM) (g:=jC ps ss i j) (ts:=aD ss.length)
  (e:=[.v (.tup [.tup (ps.map Part.enc),A,.tup (ss.map Scene.enc),B,C]),.v (.int i),.v (.int j),.no,.no])
  (I:=λe=>∃s5 s6,e=[.v (.tup [.tup (ps.map Part.enc),A,.tup (ss.map Scene.enc),B,C]),.v (.int i),.v (.int j),s5,s6]) ⟨_,_,rfl⟩ (by
   rintro s ht e ⟨s5,s6,rfl⟩
   have e1:=Jz n A B C ps ss hl s i j (by simpa using ht) hi hj
   cases hg:jC ps ss i j s with
   |some r=>
    rw[hg]at e1
    simp[aS,qM,aC,e1,bL]
    rfl
   |none=>
    rw[hg]at e1
    refine⟨?e1,?h1,?i1⟩
    case h1=>
     simp[aS,qM,aC,e1]
     exact rfl
    case i1=>exact⟨_,_,rfl⟩)
 refine bW (k:=false) rfl rfl rfl ?_
 unfold eJ
 cases hg:(aD ss.length).findSome? (jC ps ss i j)with
 |some r=>
  rw[hg]at loop
  simp[qN,rg,loop,iI]
 |none=>
  rw[hg]at loop
  obtain⟨e',h1,s5,s6,rfl⟩:=loop
  simp[qN,rg,h1,iI,bL]
theorem KB(n:Nat)(A B C:D)(ps:List Part)(ss:List Scene)(hl:ss.length<=24)(hp:ps.length<=8) :
 aB T dfs (n+5) 5 [.tup [.tup (ps.map Part.enc),A,.tup (ss.map Scene.enc),B,C]]=.ok (.lst (((pairsOf ps.length).filter λp=>(eJ ps ss p.1 p.2).isSome).map fP)):=by
 have rg:=eE (n:=ps.length) (by lia)
 obtain⟨e',h1,s3,rfl⟩:=DS (f:=aS T (aB T dfs (n+4)) (.one 3) wB)
  (λi e=>∃s3,e=[.v (.tup [.tup (ps.map Part.enc),A,.tup (ss.map Scene.enc),B,C]),.o (.lst (((gF ps.length i).filter λp=>(eJ ps ss p.1 p.2).isSome).map fP)),.v (.int ps.length),s3])
  ((aD ps.length).map aC) [.v (.tup [.tup (ps.map Part.enc),A,.tup (ss.map Scene.enc),B,C]),.o (.lst []),.v (.int ps.length),.no] 0 ⟨_,rfl⟩ (by
   rintro i0 d e hd ⟨s3,rfl⟩
   rw[lW]
   rw[bK]at hd
   cases hx:(aD ps.length)[i0]? with
   |none=>rw[hx]at hd;cases hd
   |some i=>
   rw[hx]at hd
   cases hd
   have hi':=gL.mp hx
   simp at hi'
   obtain⟨hi,rfl⟩:=hi'
   have rg2:=DU (s:=i0) (m:=ps.length) (by lia) (by lia)
   have hc:aR (aG T (aB T dfs (n+4)) 1 [3,0] (.one 0) qP qO [.v (.tup [.tup (ps.map Part.enc),A,.tup (ss.map Scene.enc),B,C]),.o (.lst (((gF ps.length i0).filter λp=>(eJ ps ss p.1 p.2).isSome).map fP)),.v (.int ps.length),.v (.int i0)]) ((dG (i0+1) (ps.length-(i0+1))).map aC) =
    .ok (((jD ps.length i0).filter λp=>(eJ ps ss p.1 p.2).isSome).map fP):=by
    rw[cC aC (λj=>if(eJ ps ss i0 j).isSome=true then some (fP (i0,j))else none) (by
     intro j hj
     have hj':=sT.mp hj
     have e1:=KA n A B C ps ss hl i0 j hi (by lia)
     cases hr:eJ ps ss i0 j with
     |none=>rw[hr]at e1;simp[aG,Tr.aQ,aC,qO,qP,e1]
     |some r=>rw[hr]at e1;simp[aG,Tr.aQ,aC,qO,qP,e1,fP])]
    refine congrArg Res.ok ?_
    unfold jD
    generalize dG (i0+1) (ps.length-(i0+1))=l
    induction l with
    |nil=>rfl
    |cons j r ih=>
     rw[gK,aK,gN]
     dsimp only
     rw[ih]
     cases (eJ ps ss i0 j).isSome<;>rfl
   have b1:(((gF ps.length i0).filter λp=>(eJ ps ss p.1 p.2).isSome).map fP).length+(((jD ps.length i0).filter λp=>(eJ ps ss p.1 p.2).isSome).map fP).length<=big:=by
    have h1:=vT ps.length i0
    have h2:(jD ps.length i0).length<=8:=by rw[jD,aF,zK];lia
    have h3:=fJ (λp:Nat×Nat=>(eJ ps ss p.1 p.2).isSome) (gF ps.length i0)
    have h4:=fJ (λp:Nat×Nat=>(eJ ps ss p.1 p.2).isSome) (jD ps.length i0)
    have h5:i0*ps.length<=8*8:=Lz (by lia) hp
    have:=bI
    rw[aF,aF]
    lia
   have b2:((dG (i0+1) (ps.length-(i0+1))).map aC).length<=big:=by have:=bI;simp;lia
   refine⟨?e1,.inl ?h1,?i1⟩
   case h1=>
    rw[aS]
    simp only[Jb,aC,Res.ok_bind,wB,J6,J8,J2,J3,J0,JY,JZ,List.set,Ja,J_,val_v,Jc,rg2,hc,J9,J7,own_o,decide_eq_true b1,decide_eq_true b2,GK,Bool.and_self,J4,J5]
    exact rfl
   case i1=>exact⟨.v (aC i0),by rw[gF,Ly,dF];rfl⟩)
 refine bW (k:=true) rfl rfl rfl ?_
 have hlen:((aD ps.length).map aC).length=ps.length:=by simp
 rw[hlen,lW]at h1
 simp[wC,rg,h1,pairsOf]
theorem KC(n:Nat)(P:List Part)(Q:List Player)(X Y Z:D)(hv:∀p∈P,(gG p.voice).length=1)(cs:List (Option Nat))(hc:∀j,some j∈cs->j<Q.length)(k:Nat)(hk:k<P.length)(hk2:k<cs.length) :
 aB T dfs (n+1) 6 [.tup [.tup (P.map Part.enc),.tup (Q.map Player.enc),X,Y,Z],.int k,bH (cs.getD k none)]=.ok (fF (eX P Q cs k)):=by
 refine bW (k:=false) rfl rfl rfl ?_
 unfold eX
 cases h:cs.getD k none with
 |none=>simp[nQ,fF,Flt.enc]
 |some j=>
  have hj:j<Q.length:=hc j (by
   have:=D8 hk2
   rw[h]at this
   exact gW this)
  have e1:=vK (aX hk)
  have e2:=qs_at (aX hj)
  have e3:=Jp (p:=P[k]) (q:=Q[j]) (hv _ (eF hk))
  rw[<-D6 hk hj]at e3
  dsimp only
  generalize nM P Q k j=c at e3
  cases c with
  |true=>simp[nQ,e1,e2,e3,fF]
  |false=>simp[nQ,e1,e2,e3,fF,Flt.enc]
theorem KD(n:Nat)(cs:List (Option Nat))(i j:Nat)(hi:i<cs.length)(hj:j<cs.length):aB T dfs (n+1) 7 [.lst (cs.map bH),.int i,.int j]=.ok (.bl (gH cs i j)):=by
 refine bW (k:=false) rfl rfl rfl ?_
 have e1:=D9 hi
 have e2:=D9 hj
 have e3:=Jr (cs.getD i none) (cs.getD j none)
 unfold gH
 generalize cs.getD i none=a at *
 generalize cs.getD j none=b at *
 cases a with
 |none=>simp[qQ,e1]
 |some x=>simp only[Jo]at e1 e3;simp[qQ,e1,e2,e3]
theorem KE(n:Nat)(P:List Part)(Q:List Player)(S:List Scene)(Y Z:D)(hp:P.length<=8)(hs:S.length<=24)(hv:∀p∈P,(gG p.voice).length=1)(cs:List (Option Nat))(hl:cs.length=P.length)(hc:∀j,some j∈cs->j<Q.length)(ps:List (Nat×Nat))(hps:∀p∈ps,p.1<P.length/\p.2<P.length)(hpl:ps.length<=100)
 (cl:aB T dfs (n+5) 5 [.tup [.tup (P.map Part.enc),.tup (Q.map Player.enc),.tup (S.map Scene.enc),Y,Z]]=.ok (.lst (ps.map fP))) :
 aB T dfs (n+6) 8 [.tup [.tup (P.map Part.enc),.tup (Q.map Player.enc),.tup (S.map Scene.enc),Y,Z],.lst (cs.map bH)]=.ok (.lst ((fQ P Q ps cs).map Flt.enc)):=by
 have hb:=bI
 refine bW (k:=true) rfl rfl rfl ?_
 have c1:∀x,aR (aG T (aB T dfs (n+5)) 2 [0] (.many [0,1]) wD (.con (.bl true)) [.v (.tup [.tup (P.map Part.enc),.tup (Q.map Player.enc),.tup (S.map Scene.enc),Y,Z]),.v (.lst (cs.map bH)),x]) (cR 0 (cs.map bH))=.ok ((aD cs.length).map λk=>fF (eX P Q cs k)):=by
  intro x
  have e:=D7 bH none cs 0
  rw[show((0:Nat):Int)=0 from rfl]at e
  rw[e,cC (λk=>D.tup [.int ((0+k:Nat):Int),bH (cs.getD k none)]) (λk=>some (fF (eX P Q cs k))) (by
   intro k hk
   have hk:k<cs.length:=by simpa using hk
   have e1:=KC (n+4) P Q (.tup (S.map Scene.enc)) Y Z hv cs hc k (by lia) hk
   simp only[lW]
   generalize bH (cs.getD k none)=z at e1⊢
   simp[aG,Tr.aQ,wD,e1]),eZ]
 have c2:∀x y z (l:List (Option Flt)),aR (aG T (aB T dfs (n+5)) 1 [] (.one 0) qS qR [x,y,z]) (l.map fF)=.ok ((l.filterMap id).map Flt.enc):=by
  intro x y z l
  rw[cC fF (λo=>o.map Flt.enc) (by
   intro o _
   cases o with
   |none=>simp[aG,Tr.aQ,qS,qR,fF]
   |some f=>simp[aG,Tr.aQ,qS,qR];rfl)]
  refine congrArg Res.ok ?_
  induction l with
  |nil=>rfl
  |cons o r ih=>cases o<;>simp[ih]
 have c3:∀x z,aR (aG T (aB T dfs (n+5)) 2 [1] (.many [0,1]) qU qT [x,.v (.lst (cs.map bH)),z]) (ps.map fP)=.ok (((ps.filter λp=>gH cs p.1 p.2).map λp=>Flt.cla p.1 p.2).map Flt.enc):=by
  intro x z
  rw[cC fP (λp=>if gH cs p.1 p.2=true then some (Flt.enc (.cla p.1 p.2))else none) (by
   intro p hp'
   have h:=hps p hp'
   have e1:=KD (n+4) cs p.1 p.2 (by lia) (by lia)
   generalize gH cs p.1 p.2=c at e1
   cases c with
   |true=>simp[aG,Tr.aQ,fP,qU,qT,e1,Flt.enc]
   |false=>simp[aG,Tr.aQ,fP,qU,qT,e1])]
  refine congrArg Res.ok ?_
  clear cl hpl hps
  induction ps with
  |nil=>rfl
  |cons p r ih=>
   rw[gK,gN]
   cases gH cs p.1 p.2<;>simp[ih]
 have c4:((aD cs.length).map λk=>fF (eX P Q cs k))=((aD cs.length).map (eX P Q cs)).map fF:=by rw[cG];rfl
 rw[c4]at c1
 have c5:=λx y z=>c2 x y z ((aD cs.length).map (eX P Q cs))
 have l1:cs.length<=big:=by lia
 have l2:(((aD cs.length).map (eX P Q cs)).map fF).length<=big:=by simp;lia
 have l3:ps.length<=big:=by lia
 have l5:=fJ (λp:Nat×Nat=>gH cs p.1 p.2) ps
 have l6:(((aD cs.length).map (eX P Q cs)).filterMap id).length<=cs.length:=by
  have:=List.length_filterMap_le id ((aD cs.length).map (eX P Q cs))
  simpa using this
 have f1:fQ P Q ps cs=((aD cs.length).map (eX P Q cs)).filterMap id++(ps.filter λp=>gH cs p.1 p.2).map λp=>Flt.cla p.1 p.2:=by
  unfold fQ
  rw[Lc];rfl
 rw[f1]
 generalize ((aD cs.length).map (eX P Q cs)).filterMap id=A at *
 generalize hB:((aD cs.length).map (eX P Q cs)).map fF=B at *
 have l7:A.length+((ps.filter λp=>gH cs p.1 p.2)).length<=big:=by lia
 generalize hG:(ps.filter λp=>gH cs p.1 p.2).map (λp=>Flt.cla p.1 p.2)=G at *
 have l8:A.length+G.length<=big:=by rw[<-hG,aF];exact l7
 simp[wF,vB,c1,l1,c5,l2,cl,c3,l3,l8]
noncomputable def bM(c:List (Nat×Nat)):List (Sum Int Str×D):=c.map λx=>(.inl (x.1:Int),.int (x.2:Int))
noncomputable def bN(a:List Nat):List (Sum Int Str×D):=a.map λ(p:Nat)=>(.inl (p:Int),.bl true)
theorem yD(c:List (Nat×Nat))(p:Nat):bG (bM c) (.inl (p:Int))=(aM c p).map λ(g:Nat)=>D.int (g:Int):=by
 unfold bG bM aM
 rw[List.find?_map,MA,MA]
 rw[show((λkv:Sum Int Str×D=>decide (kv.1=Sum.inl (p:Int)))∘λx:Nat×Nat=>((Sum.inl (x.1:Int):Sum Int Str),D.int (x.2:Int)))=λx:Nat×Nat=>x.1==p from funext λx=>by
  show decide ((Sum.inl (x.1:Int):Sum Int Str)=Sum.inl (p:Int))=(x.1==p)
  by_cases h:x.1=p
  ·rw[h];simp
  ·rw[decide_eq_false (λz=>h (by injection z with z;lia))];simp[h]]
 rfl
theorem KF(a:List Nat)(p:Nat):bG (bN a) (.inl (p:Int))=if p∈a then some (.bl true)else none:=by
 unfold bG bN
 induction a with
 |nil=>rfl
 |cons x r ih=>
  rw[aK,cJ]
  by_cases h:x=p
  ·subst h
   rw[show decide ((Sum.inl (x:Int):Sum Int Str)=Sum.inl (x:Int))=true by simp,if_pos bF];rfl
  ·rw[show decide ((Sum.inl (x:Int):Sum Int Str)=Sum.inl (p:Int))=false from decide_eq_false (λz=>h (by injection z with z;lia))]
   rw[ih]
   by_cases q:p∈r
   ·rw[if_pos q,if_pos (bB _ q)]
   ·rw[if_neg q,if_neg (λz=>by rcases aO.mp z with z|z;exact h z.symm;exact q z)]
theorem KG(a:List Nat)(p:Nat):((bN a).any λkv=>decide (kv.1=(.inl (p:Int))))=decide (p∈a):=by
 unfold bN
 rw[List.any_map]
 induction a with
 |nil=>rfl
 |cons x r ih=>
  rw[iM,ih]
  by_cases h:x=p
  ·subst h;simp
  ·have:((λkv:Sum Int Str×D=>decide (kv.1=Sum.inl (p:Int)))∘λ(p:Nat)=>((Sum.inl (p:Int):Sum Int Str),D.bl true)) x=false:=decide_eq_false (λz=>h (by injection z with z;lia))
   rw[this,sI]
   simp only[aO]
   rw[decide_eq_decide]
   exact⟨.inr,λz=>z.resolve_left λe=>h e.symm⟩
theorem KH{a:List Nat}{p:Nat}(h:p∉a):dQ (bN a) (.inl (p:Int)) (.bl true)=bN (a++[p]):=by
 unfold dQ
 rw[KG,if_neg (by simpa using h)]
 unfold bN
 rw[dF];rfl
theorem De(c:List (Nat×Nat))(p g:Nat):dQ (bM c) (.inl (p:Int)) (.int (g:Int))=bM (dI c p g):=by
 unfold dQ dI
 have e1:((bM c).any λkv=>decide (kv.1=(.inl (p:Int))))=c.any λx=>x.1==p:=by
  unfold bM
  rw[List.any_map]
  congr 1
  funext x
  show decide ((Sum.inl (x.1:Int):Sum Int Str)=Sum.inl (p:Int))=(x.1==p)
  by_cases h:x.1=p
  ·rw[h];simp
  ·rw[decide_eq_false (λz=>h (by injection z with z;lia))];simp[h]
 rw[e1]
 by_cases h:(c.any λx=>x.1==p)=true
 ·rw[if_pos h,if_pos h]
  unfold bM
  rw[cG,cG]
  apply fU
  intro x _
  show(if(Sum.inl (x.1:Int):Sum Int Str)=Sum.inl (p:Int)then(Sum.inl (x.1:Int),D.int (g:Int))else(Sum.inl (x.1:Int),D.int (x.2:Int)))=_
  by_cases q:x.1=p
  ·rw[if_pos (by rw[q])]
   show _=((Sum.inl (((if x.1=p then(x.1,g)else x):Nat×Nat).1:Int):Sum Int Str),D.int (((if x.1=p then(x.1,g)else x):Nat×Nat).2:Int))
   rw[if_pos q]
  ·rw[if_neg (λz=>q (by injection z with z;lia))]
   show _=((Sum.inl (((if x.1=p then(x.1,g)else x):Nat×Nat).1:Int):Sum Int Str),D.int (((if x.1=p then(x.1,g)else x):Nat×Nat).2:Int))
   rw[if_neg q]
 ·rw[if_neg h,if_neg h]
  unfold bM
  rw[dF];rfl
noncomputable abbrev fcE(C:D)(t1 t2:Nat)(c:List (Nat×Nat))(a:List Nat)(g:Nat)(x:Sl):Nv:=[.v C,.r t1 (.dct (bM c)),.r t2 (.dct (bN a)),.v (.int (g:Int)),x]
theorem Dg(a:List Nat)(p:Nat):D.cmp .NotIn (.int (p:Int)) (.dct (bN a))=.ok (.bl (decide (p∉a))):=by
 show(do let k<-D.inn (.int (p:Int)) (.dct (bN a));Res.ok (D.bl (!k)))=_
 rw[show D.inn (.int (p:Int)) (.dct (bN a))=.ok (bG (bN a) (.inl (p:Int))).isSome from rfl,KF,Res.ok_bind]
 by_cases h:p∈a
 ·rw[if_pos h];simp[h]
 ·rw[if_neg h];simp[h]
theorem Dh(c:List (Nat×Nat))(p:Nat):D.cmp .NotIn (.int (p:Int)) (.dct (bM c))=.ok (.bl (aM c p).isNone):=by
 show(do let k<-D.inn (.int (p:Int)) (.dct (bM c));Res.ok (D.bl (!k)))=_
 rw[show D.inn (.int (p:Int)) (.dct (bM c))=.ok (bG (bM c) (.inl (p:Int))).isSome from rfl,yD,Res.ok_bind]
 cases aM c p<;>rfl
structure Sm(U G:List Nat)(c:List (Nat×Nat))(a:List Nat):Prop where
 cn:(c.map (·.1)).Nodup
 cu:∀p∈c.map (·.1),p∈U
 an:a.Nodup
 au:∀p∈a,p∈U
 cv:∀x∈c,x.2∈G
theorem Sm.len{U G:List Nat}{c:List (Nat×Nat)}{a:List Nat}(h:Sm U G c a)(hU:U.length<=100):(bM c).length<big/\(bN a).length<big:=by
 have hb:=bI
 have h1:=gI h.cn h.cu
 have h2:=gI h.an h.au
 unfold bM bN
 rw[aF,aF]
 rw[aF]at h1
 exact⟨by lia,by lia⟩
theorem Sm.ask{U G:List Nat}{c:List (Nat×Nat)}{a:List Nat}(h:Sm U G c a){p:Nat}(hp:p∈U)(hn:p∉a):Sm U G c (a++[p]):=
 ⟨h.cn,h.cu,kU.mpr ⟨h.an,by simp,λx hx y hy e=>hn (by rw[bX.mp hy]at e;exact e▸hx)⟩,λx hx=>by
  rcases eY.mp hx with z|z
  ·exact h.au x z
  ·rw[bX.mp z];exact hp,h.cv⟩
theorem KI{c:List (Nat×Nat)}{p g:Nat}{x:Nat×Nat}(h:x∈dI c p g):x∈c\/x.2=g:=by
 unfold dI at h
 split at h
 ·obtain⟨y,hy,e⟩:=bJ.mp h
  split at e
  ·exact .inr (by rw[<-e])
  ·exact .inl (e▸hy)
 ·rcases eY.mp h with z|z
  ·exact .inl z
  ·exact .inr (by rw[bX.mp z])
theorem Sm.put{U G:List Nat}{c:List (Nat×Nat)}{a:List Nat}(h:Sm U G c a){p:Nat}(hp:p∈U){g:Nat}(hg:g∈G):Sm U G (dI c p g) a:=
 ⟨Da h.cn p g,λx hx=>by
  rw[D_]at hx
  split at hx
  ·exact h.cu x hx
  ·rcases eY.mp hx with z|z
   ·exact h.cu x z
   ·rw[bX.mp z];exact hp,h.an,h.au,λx hx=>(KI hx).elim (h.cv x) λe=>e▸hg⟩
theorem rT{cf:Nat->List D->Res D}{C:D}{t1 t2 g:Nat}{U G:List Nat}(hg:g∈G)(hU:U.length<=100){rec:Nat->List (Nat×Nat)->List Nat->Option (Bool×List (Nat×Nat)×List Nat)}
 (hrec:∀g c a b c' a',g∈G->Sm U G c a->rec g c a=some (b,c',a')->Sm U G c' a'/\fX cf 29 C (bM c) (bN a) (.int (g:Int))=.ok (.bl b,bM c',bN a')) :
 ∀(xs:List Nat)(c:List (Nat×Nat))(a:List Nat)(b:Bool)(c':List (Nat×Nat))(a':List Nat)(x:Sl),(∀p∈xs,p∈U)->Sm U G c a->fcL rec g xs c a=some (b,c',a') ->
  Sm U G c' a'/\if b=true then bC (aS T cf (.one 4) gS) (xs.map aC) (fcE C t1 t2 c a g x)=.ok (.rr (.bl true) t1 (bM c') t2 (bN a'))else ∃y,bC (aS T cf (.one 4) gS) (xs.map aC) (fcE C t1 t2 c a g x)=.ok (.nx (fcE C t1 t2 c' a' g y))
 |[],c,a,b,c',a',x,_,h,e=>by
  cases e
  exact⟨h,by rw[if_neg aU];exact⟨x,rfl⟩⟩
 |p::r,c,a,b,c',a',x,hx,h,e=>by
  have hp:=hx p bF
  have hr:∀q∈r,q∈U:=λq hq=>hx q (bB _ hq)
  rw[fcL]at e
  by_cases ha:p∈a
  ·rw[if_pos ha]at e
   obtain⟨g1,g2⟩:=rT (t1:=t1) (t2:=t2) hg hU hrec r c a b c' a' (.v (.int (p:Int))) hr h e
   refine⟨g1,?_⟩
   have body:aS T cf (.one 4) gS (aC p) (fcE C t1 t2 c a g x)=.ok (.nx (fcE C t1 t2 c a g (.v (.int (p:Int))))):=by
    have q:=Dg a p
    rw[decide_eq_false (by simpa using ha)]at q
    simp[aS,gS,fcE,aC,q]
   rw[aK,dC body]
   exact g2
  ·rw[if_neg ha]at e
   have q:=Dg a p
   rw[decide_eq_true ha]at q
   have qa:=KH ha
   have hA:=h.ask hp ha
   cases hc:aM c p with
   |none=>
    rw[hc]at e
    cases e
    refine⟨hA.put hp hg,?_⟩
    rw[if_pos rfl]
    have qc:=Dh c p
    rw[hc]at qc
    have pc:=De c p g
    have body:aS T cf (.one 4) gS (aC p) (fcE C t1 t2 c a g x)=.ok (.rr (.bl true) t1 (bM (dI c p g)) t2 (bN (a++[p]))):=by
     have st:exS T cf (.ifR false (.cmp .NotIn (.var 4) (.rd 1)) 29 (.var 0) 1 2 (.ix (.rd 1) (.var 4)) (.cons (.dputR 1 (.var 4) (.var 3)) (.cons (.retR (.con (.bl true)) 1 2) .nil)) .nil) (fcE C t1 t2 c (a++[p]) g (.v (.int (p:Int))))=.ok (.rr (.bl true) t1 (bM (dI c p g)) t2 (bN (a++[p]))):=by
      rw[ifR_t rfl (by decide) (z:=.bl true) (by simp[fcE,qc]) rfl]
      have l1:=(h.len hU).1
      simp[fcE,pc,l1,Res.of,dP]
     have l2:=(h.len hU).2
     generalize hz:(S.ifR false (.cmp .NotIn (.var 4) (.rd 1)) 29 (.var 0) 1 2 (.ix (.rd 1) (.var 4)) (.cons (.dputR 1 (.var 4) (.var 3)) (.cons (.retR (.con (.bl true)) 1 2) .nil)) .nil)=W at st
     simp only[fcE]at st
     simp[aS,gS,fcE,aC,q,qa,l2,hz,st,Res.of,dP]
    rw[aK,DR body]
   |some g0=>
    rw[hc]at e
    dsimp only at e
    cases hz:rec g0 c (a++[p])with
    |none=>rw[hz]at e;cases e
    |some z=>
     obtain⟨b1,c1,a1⟩:=z
     obtain⟨s1,rf⟩:=hrec g0 c (a++[p]) b1 c1 a1 (h.cv _ (nN hc)) hA hz
     rw[hz]at e
     have qc:=Dh c p
     rw[hc]at qc
     have ix:D.ix (.dct (bM c)) (.int (p:Int))=.ok (.int (g0:Int)):=by rw[qE,qD,Res.ok_bind,yD,hc];rfl
     have l2:=(h.len hU).2
     have st:=DM (T:=T) (cf:=cf) (e:=fcE C t1 t2 c (a++[p]) g (.v (.int (p:Int)))) (neg:=false) (c:=.cmp .NotIn (.var 4) (.rd 1)) (x:=.var 0) (i:=1) (j:=2) (y:=.ix (.rd 1) (.var 4)) (a:=.cons (.dputR 1 (.var 4) (.var 3)) (.cons (.retR (.con (.bl true)) 1 2) .nil)) (b:=.nil) (f:=29) (k:=b1) rfl (by decide) (.inr ⟨(show _=Res.ok (D.bl false) by simp[fcE,qc]),rfl⟩) (d1:=C) (by simp[fcE]) (g:=bM c) (by simp[fcE]) (h:=bN (a++[p])) (by simp[fcE]) (d2:=.int (g0:Int)) (by simp[fcE,ix]) rf rfl
     generalize hw:(S.ifR false (.cmp .NotIn (.var 4) (.rd 1)) 29 (.var 0) 1 2 (.ix (.rd 1) (.var 4)) (.cons (.dputR 1 (.var 4) (.var 3)) (.cons (.retR (.con (.bl true)) 1 2) .nil)) .nil)=W at st
     cases b1 with
     |true=>
      cases e
      refine⟨s1.put hp hg,?_⟩
      rw[if_pos rfl]
      have pc:=De c1 p g
      have l1:=(s1.len hU).1
      have body:aS T cf (.one 4) gS (aC p) (fcE C t1 t2 c a g x)=.ok (.rr (.bl true) t1 (bM (dI c1 p g)) t2 (bN a')):=by
       rw[if_pos (by decide)]at st
       simp[fcE,pc,l1,Res.of,dP]at st
       simp[aS,gS,fcE,aC,q,qa,l2,hw,st,Res.of,dP]
      rw[aK,DR body]
     |false=>
      obtain⟨g1,g2⟩:=rT (t1:=t1) (t2:=t2) hg hU hrec r c1 a1 b c' a' (.v (.int (p:Int))) hr s1 e
      refine⟨g1,?_⟩
      have body:aS T cf (.one 4) gS (aC p) (fcE C t1 t2 c a g x)=.ok (.nx (fcE C t1 t2 c1 a1 g (.v (.int (p:Int))))):=by
       rw[if_neg (by decide)]at st
       simp[fcE]at st
       simp[aS,gS,fcE,aC,q,qa,l2,hw,st,Res.of,dP]
      rw[aK,dC body]
      exact g2
theorem Di{C:D}{U G:List Nat}(hU:U.length<=100){ch:Nat->List Nat}(hch:∀g∈G,D.ix C (.int (g:Int))=.ok (.lst ((ch g).map aC))/\∀p∈ch g,p∈U)(m:Nat) :
 ∀(n g:Nat)(c:List (Nat×Nat))(a:List Nat)(b:Bool)(c':List (Nat×Nat))(a':List Nat),g∈G->Sm U G c a->fc ch n g c a=some (b,c',a')->Sm U G c' a'/\∀t1 t2:Nat,aB T dfs (m+n) 29 [C,.tup [.int t1,.dct (bM c)],.tup [.int t2,.dct (bN a)],.int (g:Int)]=.ok (.tup [.bl b,.dct (bM c'),.dct (bN a')])
 |0,g,c,a,b,c',a',hg,h,e=>by cases e
 |n+1,g,c,a,b,c',a',hg,h,e=>by
  rw[fc]at e
  have hrec:∀g c a b c' a',g∈G->Sm U G c a->fc ch n g c a=some (b,c',a')->Sm U G c' a'/\fX (aB T dfs (m+n)) 29 C (bM c) (bN a) (.int (g:Int))=.ok (.bl b,bM c',bN a'):=λg c a b c' a' hg h e=>by
   obtain⟨h1,h2⟩:=Di hU hch m n g c a b c' a' hg h e
   exact⟨h1,Ag λt1 t2 _=>h2 t1 t2⟩
  obtain⟨ix,hu⟩:=hch g hg
  refine⟨(rT (t1:=0) (t2:=0) hg hU hrec (ch g) c a b c' a' .no hu h e).1,λt1 t2=>?_⟩
  obtain⟨_,run⟩:=rT (C:=C) (t1:=t1) (t2:=t2) hg hU hrec (ch g) c a b c' a' .no hu h e
  refine Jg rfl rfl rfl ?_
  show exS T (aB T dfs (m+n)) nV (fcE C t1 t2 c a g .no)=_
  cases b with
  |true=>
   rw[if_pos rfl]at run
   simp only[fcE]at run⊢
   simp[nV,ix,run]
  |false=>
   rw[if_neg aU]at run
   obtain⟨y,run⟩:=run
   simp only[fcE]at run⊢
   simp[nV,ix,run]
theorem Dj{i:Nat}{ws:List Nat}:D.cmp .In (.int (i:Int)) (.lst (aA ws))=.ok (.bl (decide (i∈ws))):=by
 show(do let k<-aE (D.pls 30 (aA ws)&&D.pl 29 (.int (i:Int))) (.ok (D.mem (.int (i:Int)) (aA ws)));.ok (D.bl k))=_
 rw[aZ (by rw[iZ 29 ws];rfl),nH];rfl
theorem yE{i:Nat}{ws:List Nat}:D.cmp .NotIn (.int (i:Int)) (.lst (aA ws))=.ok (.bl (!decide (i∈ws))):=by
 show(do let k<-aE (D.pls 30 (aA ws)&&D.pl 29 (.int (i:Int))) (.ok (D.mem (.int (i:Int)) (aA ws)));.ok (D.bl (!k)))=_
 rw[aZ (by rw[iZ 29 ws];rfl),nH];rfl
noncomputable def cA(cs:List Nat)(i:Nat):Nat:=cs.getD i 0
theorem Dk{α β:Type}(f:α->β):∀{l:List α},(l.map f).Nodup->l.Nodup
 |[],_=>iN
 |a::r,h=>by
  rw[aK,eK]at h
  exact eK.mpr ⟨λz=>h.1 (bJ.mpr ⟨a,z,rfl⟩),Dk f h.2⟩
theorem cast_at{cs:List Nat}{i:Nat}(h:i<cs.length):D.ix (.lst (aA cs)) (.int (i:Int))=.ok (.int (cA cs i:Int)):=by
 refine lI ?_
 unfold aA
 rw[bK,aX h,show cA cs i=cs[i] by unfold cA;rw[eU,aX h];rfl];rfl
theorem yF(n:Nat)(size many:Nat)(hs:0<size)(hs2:size<1000)(mx:Bool):∀(ks ds:List Nat)(cell:Int)(x5 x6:Sl),(∀k∈ks,k<=100)->(∀d∈ds,d<size)->ds.length+ks.length<=900 ->
 ∃(ds':List Nat)(c':Int)(y5 y6:Sl),bC (aS T (aB T dfs n) (.one 5) rC) (ks.map aC) [.v (.int cell),.v (.int (size:Int)),.v (.int (many:Int)),.v (.bl mx),.o (.lst (aA ds)),x5,x6]=.ok (.nx [.v (.int c'),.v (.int (size:Int)),.v (.int (many:Int)),.v (.bl mx),.o (.lst (aA ds')),y5,y6])/\(∀d∈ds',d<size)/\ds'.length=ds.length+ks.length
 |[],ds,cell,x5,x6,_,h,_=>⟨ds,cell,x5,x6,rfl,h,rfl⟩
 |k::r,ds,cell,x5,x6,hk,h,hl=>by
  have hb:=bI
  have hk0:=hk k bF
  rw[aP]at hl
  have hsz:(0:Int)<(size:Int):=by lia
  have add:∀z:Int,∃d:Nat,d<size/\z%(size:Int)=(d:Int)/\aA ds++[.int (z%(size:Int))]=aA (ds++[d]):=λz=>by
   have h1:=zL z (Int.ne_of_gt hsz)
   have h2:=zM z hsz
   refine⟨(z%(size:Int)).toNat,by lia,by lia,?_⟩
   unfold aA
   rw[dF]
   show _=_++[D.int ((z%(size:Int)).toNat:Int)]
   rw[sR h1]
  have ln:(aA ds).length<big:=by rw[cE];lia
  cases mx with
  |true=>
   obtain⟨d,d1,d2,d3⟩:=add ((((cell%2147483629*48271+(k:Int)*(k:Int)*69621)+7)%2147483647*39373)%2147483629/5)
   obtain⟨ds',c',y5,y6,e,g1,g2⟩:=yF n size many hs hs2 true r (ds++[d]) cell (.v (.int (k:Int))) (.v (.int (((cell%2147483629*48271+(k:Int)*(k:Int)*69621)+7)%2147483647))) (λq hq=>hk q (bB _ hq)) (λq hq=>by
    rcases eY.mp hq with z|z
    ·exact h q z
    ·rw[bX.mp z];exact d1) (by rw[bR,fG];lia)
   refine⟨ds',c',y5,y6,?_,g1,by rw[g2,bR,fG,aP];lia⟩
   rw[aK,<-e]
   refine dC ?_
   rw[<-d3]
   have m1:=Jd (i:=(k:Int)) (j:=(k:Int)) (by lia)
   have m2:=vE (i:=(k:Int)*(k:Int)) (j:=69621) (by lia)
   have m3:=vE (i:=cell%2147483629) (j:=48271) (by lia)
   have m4:=vE (i:=((cell%2147483629*48271+(k:Int)*(k:Int)*69621)+7)%2147483647) (j:=39373) (by lia)
   have f1:=qG (i:=(((cell%2147483629*48271+(k:Int)*(k:Int)*69621)+7)%2147483647*39373)%2147483629) (j:=5) (by lia)
   have f2:=qF (i:=(((cell%2147483629*48271+(k:Int)*(k:Int)*69621)+7)%2147483647*39373)%2147483629/5) hsz
   generalize aA ds=dd at *
   simp[aS,rC,aC,m1,m2,m3,m4,f1,f2,ln]
  |false=>
   obtain⟨d,d1,d2,d3⟩:=add cell
   obtain⟨ds',c',y5,y6,e,g1,g2⟩:=yF n size many hs hs2 false r (ds++[d]) (cell/(size:Int)) (.v (.int (k:Int))) x6 (λq hq=>hk q (bB _ hq)) (λq hq=>by
    rcases eY.mp hq with z|z
    ·exact h q z
    ·rw[bX.mp z];exact d1) (by rw[bR,fG];lia)
   refine⟨ds',c',y5,y6,?_,g1,by rw[g2,bR,fG,aP];lia⟩
   rw[aK,<-e]
   refine dC ?_
   rw[<-d3]
   have f1:=qG (i:=cell) (j:=(size:Int)) (by lia)
   have f2:=qF (i:=cell) hsz
   generalize aA ds=dd at *
   simp[aS,rC,aC,f1,f2,ln]
theorem kI(n:Nat)(cell:Int)(size many:Nat)(hs:0<size)(hs2:size<1000)(hm:many<=8)(mx:Bool):∃ds:List Nat,ds.length=many/\(∀d∈ds,d<size)/\aB T dfs (n+1) 20 [.int cell,.int (size:Int),.int (many:Int),.bl mx]=.ok (.lst (aA ds)):=by
 have hb:=bI
 obtain⟨ds,c',y5,y6,e,g1,g2⟩:=yF n size many hs hs2 mx (aD many) [] cell .no .no (λk hk=>by have:=bO.mp hk;lia) (λd hd=>by cases hd) (by rw[bQ,gX];lia)
 rw[bQ,gX,lW]at g2
 refine⟨ds,g2,g1,bW (k:=true) rfl rfl rfl ?_⟩
 have rg:=eE (n:=many) (by lia)
 rw[show aA []=[]from rfl]at e
 have l1:((aD many).map aC).length<=big:=by rw[aF,bQ];lia
 generalize (aD many).map aC=rr at *
 generalize aA ds=dd at *
 simp[xB,rg,e,l1]
theorem nodup_rev{α:Type}{l:List α}(h:l.Nodup):l.reverse.Nodup:=by
 rw[Eu,Lw]
 exact iL.imp (λz=>Ne.symm z) h
theorem rV(n:Nat){cs row:List Nat}(h8:cs.length<=8)(hr:row.length=cs.length)(a0 a1 a3:Sl):∀(ks kept:List Nat)(x6:Sl),(∀k∈ks,k<cs.length)->(∀k∈kept,k<cs.length)->(kept.map (cA cs)).Nodup->kept.length+ks.length<=100 ->
 ∃(kept':List Nat)(y6:Sl),bC (aS T (aB T dfs n) (.one 6) nS) (ks.map aC) [a0,a1,.v (.lst (aA cs)),a3,.v (.lst (aA row)),.o (.lst (aA kept)),x6]=.ok (.nx [a0,a1,.v (.lst (aA cs)),a3,.v (.lst (aA row)),.o (.lst (aA kept')),y6])/\(∀k∈kept',k<cs.length)/\(kept'.map (cA cs)).Nodup/\kept'.length<=100
 |[],kept,x6,_,h1,h2,h3=>⟨kept,x6,rfl,h1,h2,by rw[gX]at h3;lia⟩
 |k::r,kept,x6,hk,h1,h2,h3=>by
  have hb:=bI
  have hk0:=hk k bF
  rw[aP]at h3
  have e1:=cast_at (cs:=row) (i:=k) (by lia)
  have e2:=cast_at (cs:=cs) (i:=k) hk0
  have c1:∀a0 a1 a3 a4 a5 a6,aR (aG T (aB T dfs n) 1 [2] (.one 0) xC (.con (.bl true)) [a0,a1,.v (.lst (aA cs)),a3,a4,a5,a6]) (aA kept)=.ok (aA (kept.map (cA cs))):=λa0 a1 a3 a4 a5 a6=>by
   show aR _ (kept.map λ(i:Nat)=>D.int (i:Int))=_
   rw[cC (λ(i:Nat)=>D.int (i:Int)) (λ(i:Nat)=>some (D.int (cA cs i:Int))) (λi hi=>by
    have e:=cast_at (cs:=cs) (h1 i hi)
    generalize D.lst (aA cs)=nc at *
    simp[aG,Tr.aQ,xC,e]),eZ]
   unfold aA
   rw[cG];rfl
  have ni:=yE (i:=cA cs k) (ws:=kept.map (cA cs))
  have lk:(aA kept).length<=big:=by rw[cE];lia
  have lk2:(aA kept).length<big:=by rw[cE];lia
  by_cases q1:cA row k=1
  ·by_cases q2:cA cs k∈kept.map (cA cs)
   ·obtain⟨kept',y6,e,g⟩:=rV n h8 hr a0 a1 a3 r kept (.v (.int (k:Int))) (λq hq=>hk q (bB _ hq)) h1 h2 (by lia)
    refine⟨kept',y6,?_,g⟩
    rw[aK,<-e]
    refine dC ?_
    rw[decide_eq_true q2]at ni
    rw[q1]at e1
    generalize aA (kept.map (cA cs))=km at *
    generalize aA kept=kd at *
    generalize aA cs=nc at *
    generalize aA row=nr at *
    simp[aS,nS,aC,e1,e2,c1,ni,lk]
   ·obtain⟨kept',y6,e,g⟩:=rV n h8 hr a0 a1 a3 r (kept++[k]) (.v (.int (k:Int))) (λq hq=>hk q (bB _ hq)) (λq hq=>by
     rcases eY.mp hq with z|z
     ·exact h1 q z
     ·rw[bX.mp z];exact hk0) (by
     rw[dF,kU]
     refine⟨h2,by simp,λa ha b hb' z=>q2 ?_⟩
     have hb':b=cA cs k:=bX.mp hb'
     rw[<-hb',<-z];exact ha) (by rw[bR,fG];lia)
    refine⟨kept',y6,?_,g⟩
    rw[aK,<-e]
    refine dC ?_
    rw[decide_eq_false q2]at ni
    rw[q1]at e1
    rw[show aA (kept++[k])=aA kept++[.int (k:Int)] by unfold aA;rw[dF];rfl]
    generalize aA (kept.map (cA cs))=km at *
    generalize aA kept=kd at *
    generalize aA cs=nc at *
    generalize aA row=nr at *
    simp[aS,nS,aC,e1,e2,c1,ni,lk,lk2]
  ·obtain⟨kept',y6,e,g⟩:=rV n h8 hr a0 a1 a3 r kept (.v (.int (k:Int))) (λq hq=>hk q (bB _ hq)) h1 h2 (by lia)
   refine⟨kept',y6,?_,g⟩
   rw[aK,<-e]
   refine dC ?_
   have q0:D.cmp .Eq (.int (cA row k:Int)) (.int 1)=.ok (.bl false):=by
    show aE (D.eqOk (.int (cA row k:Int)) (.int 1)) (.ok (D.bl ((cA row k:Int)==1)))=_
    rw[aZ (by rfl),show((cA row k:Int)==1)=false by rw[beq_eq_false_iff_ne];lia]
   generalize aA kept=kd at *
   generalize aA cs=nc at *
   generalize aA row=nr at *
   simp[aS,nS,aC,e1,q0]
theorem txAt(x p:Str)(hx:x.length<=100)(hp:p.length<=100){k:Nat}(hk:k<x.cps.size):∃y:Str,D.ix (.str x) (.int (k:Int))=.ok (.str y)/\y.length=1/\D.bin .Add (.str p) (.str y)=.ok (.str (p++y)):=by
 have hb:=bI
 obtain⟨y,h1,h2⟩:=ix_str hk (by lia)
 refine⟨y,h1,h2,?_⟩
 show aE (decide (p.length+y.length<=big)) _=_
 rw[aZ (decide_eq_true (by lia))]
theorem KJ(n:Nat)(cell:Int)(k:Nat)(hk:k<6)(cs:List Nat)(h8:cs.length<=8)(mx:Bool):∃s:Scene,GoodScene cs.length s/\60<=s.pause/\(s.who.map (cA cs)).Nodup/\aB T dfs (n+2) 21 [.int cell,.int (k:Int),.lst (aA cs),.bl mx]=.ok s.enc:=by
 have hb:=bI
 obtain⟨row,r1,r2,er⟩:=kI n (cell/10000) 2 cs.length (by decide) (by decide) h8 mx
 rw[show((2:Nat):Int)=2 from rfl]at er
 obtain⟨kept,y6,lo,g1,g2,g3⟩:=rV (n+1) h8 r1 (.v (.int cell)) (.v (.int (k:Int))) (.v (.bl mx)) (aD cs.length) [] .no (λk hk=>bO.mp hk) (λk hk=>by cases hk) iN (by rw[bQ,gX];lia)
 rw[show aA []=[]from rfl]at lo
 obtain⟨y,t1,_,t2⟩:=txAt "abcdef" "s" (by decide) (by decide) (k:=k) (by show k<6;exact hk)
 have rg:=eE (n:=cs.length) (by lia)
 have l1:((aD cs.length).map aC).length<=big:=by rw[aF,bQ];lia
 have ln:Bt.run .len [.lst (aA cs)]=.ok (.int (cs.length:Nat)):=by
  show Res.ok (D.int ((aA cs).length:Nat))=_
  rw[cE]
 have nd:=Dk _ g2
 have tp:∀l:List D,Bt.run .tuple [.lst l]=.ok (.tup l):=λ_=>rfl
 by_cases q:cell%2=1
 ·refine⟨⟨"s" ++ y,cell/2%50,60+cell/100%100,kept.reverse⟩,⟨by show 0<=cell/2%50;lia,by show 0<=60+cell/100%100;lia,nodup_rev nd,λi hi=>g1 i (List.mem_reverse.mp hi)⟩,by show 60<=60+cell/100%100;lia,by show(kept.reverse.map (cA cs)).Nodup;rw[MB];exact nodup_rev g2,bW (k:=false) rfl rfl rfl ?_⟩
  unfold Scene.enc
  dsimp only
  rw[show aA kept.reverse=(aA kept).reverse by unfold aA;rw[MB]]
  generalize (aD cs.length).map aC=rr at *
  generalize aA kept=kd at *
  generalize aA cs=nc at *
  generalize aA row=nr at *
  simp[rD,er,ln,rg,l1,lo,q,t1,t2,tp]
 ·refine⟨⟨"s" ++ y,cell/2%50,60+cell/100%100,kept⟩,⟨by show 0<=cell/2%50;lia,by show 0<=60+cell/100%100;lia,nd,g1⟩,by show 60<=60+cell/100%100;lia,g2,bW (k:=false) rfl rfl rfl ?_⟩
  unfold Scene.enc
  dsimp only
  generalize (aD cs.length).map aC=rr at *
  generalize aA kept=kd at *
  generalize aA cs=nc at *
  generalize aA row=nr at *
  simp[rD,er,ln,rg,l1,lo,q,t1,t2,tp]
theorem Dl{α β:Type}{f:D->Res (Option D)}(e:α->D)(enc:β->D)(R:α->β->Prop):∀{xs:List α},(∀a∈xs,∃p,f (e a)=.ok (some (enc p))/\R a p)->∃l:List β,aR f (xs.map e)=.ok (l.map enc)/\l.length=xs.length/\∀(i:Nat)(a:α)(p:β),xs[i]?=some a->l[i]?=some p->R a p
 |[],_=>⟨[],rfl,rfl,λi a p h=>by cases h⟩
 |a::r,h=>by
  obtain⟨p,h1,h2⟩:=h a bF
  obtain⟨l,g1,g2,g3⟩:=Dl e enc R (xs:=r) λx hx=>h x (bB _ hx)
  refine⟨p::l,by rw[aK,aR,h1,Res.ok_bind,g1];rfl,by rw[aP,aP,g2],λi x y hx hy=>?_⟩
  cases i with
  |zero=>cases hx;cases hy;exact h2
  |succ i=>exact g3 i x y hx hy
noncomputable def vch (v:Nat):Str:=if v=0 then "a" else if v=1 then "b" else "z"
noncomputable def lO(v:Nat):Nat:=if v=0 then 97 else if v=1 then 98 else 122
theorem Dm {v:Nat} (h:v<3):D.ix (.str "abz") (.int (v:Int))=.ok (.str (vch v)):=by
 have hb:=bI
 have:v=0\/v=1\/v=2:=by lia
 show aE (decide (("abz" : Str).length<=big)) _=_
 rw[aZ (decide_eq_true (by show 3<=big;lia))]
 rcases this with rfl|rfl|rfl<;>rfl
theorem Dn(v:Nat):gG (vch v)=[lO v]:=by
 unfold vch lO
 repeat' split
 all_goals rfl
theorem KL (tb:Nat->Bool):∃s:Str,Mt.run .join (.str "") (.lst (((aD 3).filter tb).map λv=>.str (vch v)))=.ok (.str s)/\∀v,v<3->tb v=true->nK s (lO v)=true:=by
 have hb:=bI
 have go:∀l:List Nat,l.length<=3->(∀v,v<3->v∈l->nK (jK "" (l.map vch)) (lO v)=true)->∃s:Str,Mt.run .join (.str "") (.lst (l.map λv=>.str (vch v)))=.ok (.str s)/\∀v,v<3->v∈l->nK s (lO v)=true:=λl hl h=>by
  refine⟨jK "" (l.map vch),?_,h⟩
  have st:∀l:List Nat,iB (l.map λv=>D.str (vch v))=.ok (l.map vch):=λl=>by
   induction l with
   |nil=>rfl
   |cons a r ih=>
    show(do let q<-iB (r.map λv=>D.str (vch v));Res.ok (vch a::q))=_
    rw[ih];rfl
  have sm:∀l:List Nat,((l.map vch).map Str.length).sum=l.length:=λl=>by
   induction l with
   |nil=>rfl
   |cons a r ih=>
    rw[aK,aK,List.sum_cons,ih,aP]
    have : (vch a).length = 1 := by unfold vch; repeat' split
                                    all_goals rfl
    lia
  show(iB (l.map λv=>D.str (vch v))>>=λxs:List Str=>aE (decide (("" : Str).length<=64)&&decide ((xs.map Str.length).sum+xs.length*64<=big)) (.ok (D.str (jK "" xs))))=_
  rw[st l,Res.ok_bind,aZ (by rw[sm l,aF,decide_eq_true (p:=l.length+l.length*64<=big) (by lia)];rfl)]
 obtain⟨s,h1,h2⟩:=go ((aD 3).filter tb) (bV (fJ ..) (by decide)) (by
  have e:(aD 3).filter tb=(if tb 0=true then [0]else [])++((if tb 1=true then [1]else [])++(if tb 2=true then [2]else [])):=by
   show [0,1,2].filter tb=_
   cases h0:tb 0<;>cases h1:tb 1<;>cases h2:tb 2<;>simp[h0,h1,h2]
  rw[e]
  intro v hv hm
  have:v=0\/v=1\/v=2:=by lia
  cases h0:tb 0<;>cases h1:tb 1<;>cases h2:tb 2<;>rw[h0,h1,h2]at hm<;>rcases this with rfl|rfl|rfl<;>first|rfl|(exfalso;revert hm;decide))
 exact⟨s,h1,λv hv ht=>h2 v hv (cP.mpr ⟨bO.mpr hv,ht⟩)⟩
theorem KM(n:Nat){many:Nat}(hm:many<=6){vs off on:List Nat}(hv:vs.length=many/\∀d∈vs,d<3)(ho:off.length=many/\∀d∈off,d<31)(hp:on.length=many/\∀d∈on,d<31)(a0 a1 a2 a3 a4:Sl)(rest:List Sl) :
 ∃P:List Part,aR (aG T (aB T dfs n) 1 [6,7,5] (.one 0) rE (.con (.bl true)) (a0::a1::a2::a3::a4::.v (.lst (aA vs))::.v (.lst (aA off))::.v (.lst (aA on))::rest)) ((aD many).map aC)=.ok (P.map Part.enc)/\P.length=many/\∀(i:Nat)(p:Part),P[i]?=some p->i<many/\p.voice=vch (cA vs i)/\0<=p.off/\p.off<=30/\0<=p.on/\p.on<=30:=by
 have cm:∀{l:List Nat} {b i:Nat},l.length=many->(∀d∈l,d<b)->i<many->cA l i<b:=λ{l b i} h1 h2 h3=>h2 _ (by
  unfold cA
  rw[eU,aX (by lia)]
  exact eF _)
 obtain⟨P,g1,g2,g3⟩:=Dl (f:=aG T (aB T dfs n) 1 [6,7,5] (.one 0) rE (.con (.bl true)) (a0::a1::a2::a3::a4::.v (.lst (aA vs))::.v (.lst (aA off))::.v (.lst (aA on))::rest)) aC Part.enc (λi p=>p.voice=vch (cA vs i)/\0<=p.off/\p.off<=30/\0<=p.on/\p.on<=30) (xs:=aD many) (λi hi=>by
  have hi:=bO.mp hi
  have e1:=cast_at (cs:=vs) (i:=i) (by lia)
  have e2:=cast_at (cs:=off) (i:=i) (by lia)
  have e3:=cast_at (cs:=on) (i:=i) (by lia)
  have v3:=cm hv.1 hv.2 hi
  have o3:=cm ho.1 ho.2 hi
  have p3:=cm hp.1 hp.2 hi
  have e4:=Dm v3
  obtain⟨y,t1,_,t2⟩:=txAt "abcdef" "p" (by decide) (by decide) (k:=i) (by show i<6;lia)
  refine⟨⟨"p" ++ y,vch (cA vs i),(cA off i:Int),(cA on i:Int)⟩,?_,rfl,by show(0:Int)<=(cA off i:Int);lia,by show(cA off i:Int)<=30;lia,by show(0:Int)<=(cA on i:Int);lia,by show(cA on i:Int)<=30;lia⟩
  generalize D.lst (aA vs)=n1 at *
  generalize D.lst (aA off)=n2 at *
  generalize D.lst (aA on)=n3 at *
  simp[aG,Tr.aQ,rE,aC,e1,e2,e3,e4,t1,t2,Part.enc])
 rw[bQ]at g2
 refine⟨P,g1,g2,λi p h=>?_⟩
 have hi:i<many:=by rw[<-g2];exact(gL.mp h).1
 exact⟨hi,g3 i i p (by rw[Ew hi]) h⟩
theorem Do{l:List Nat}{b i:Nat}(h2:∀d∈l,d<b)(h3:i<l.length):cA l i<b:=h2 _ (by
 unfold cA
 rw[eU,aX h3]
 exact eF _)
noncomputable def yG(cs vs:List Nat)(j:Nat)(q:Player):Prop:=∀k,k<cs.length->cA cs k=j->nK q.voices (lO (cA vs k))=true
theorem KN {j:Nat} (h:j<5):∃y:Str,D.ix (.str "abcde") (.int (j:Int))=.ok (.str y)/\D.bin .Add (.str "x") (.str y)=.ok (.str ("x" ++ y)):=by
 obtain⟨y,t1,_,t2⟩:=txAt "abcde" "x" (by decide) (by decide) (k:=j) (by show j<5;exact h)
 exact⟨y,t1,t2⟩
noncomputable def w3(v:Nat):Int:=if v=0 then 1 else if v=1 then 2 else 4
theorem KO(n:Nat){many j:Nat}(hm:many<=6){cs vs more:List Nat}(hc:cs.length=many)(hv:vs.length=many/\∀d∈vs,d<3)(hmo:j<more.length)(hj:j<5)(a0 a2 a3 a6 a7 a8 x11 x12 x13 a14 a15 a16 a17:Sl)(acc:List D)(ha:acc.length<=100) :
 ∃(q:Player)(y12 y13:Sl),aS T (aB T dfs n) (.one 11) rK (.int (j:Int)) [a0,.v (.int (many:Int)),a2,a3,.v (.lst (aA cs)),.v (.lst (aA vs)),a6,a7,a8,.v (.lst (aA more)),.o (.lst acc),x11,x12,x13,a14,a15,a16,a17]=.ok (.nx [a0,.v (.int (many:Int)),a2,a3,.v (.lst (aA cs)),.v (.lst (aA vs)),a6,a7,a8,.v (.lst (aA more)),.o (.lst (acc++[q.enc])),.v (.int (j:Int)),y12,y13,a14,a15,a16,a17])/\yG cs vs j q:=by
 have hb:=bI
 have rg:=eE (n:=many) (by lia)
 have l1:((aD many).map aC).length<=big:=by rw[aF,bQ];lia
 have c1:∀a0 a1 a2 a3 a6 a7 a8 a9 a10 a12 a13 a14 a15 a16 a17,aR (aG T (aB T dfs n) 1 [5,11,4] (.one 0) rG rF [a0,a1,a2,a3,.v (.lst (aA cs)),.v (.lst (aA vs)),a6,a7,a8,a9,a10,.v (.int (j:Int)),a12,a13,a14,a15,a16,a17]) ((aD many).map aC)=.ok (aA (((aD many).filter λk=>decide (cA cs k=j)).map (cA vs))):=λa0 a1 a2 a3 a6 a7 a8 a9 a10 a12 a13 a14 a15 a16 a17=>by
  rw[cC aC (λk=>if cA cs k=j then some (D.int (cA vs k:Int))else none) (λk hk=>by
   have hk:=bO.mp hk
   have e1:=cast_at (cs:=cs) (i:=k) (by lia)
   have e2:=cast_at (cs:=vs) (i:=k) (by lia)
   have q:D.cmp .Eq (.int (cA cs k:Int)) (.int (j:Int))=.ok (.bl (decide (cA cs k=j))):=by
    show aE (D.eqOk (.int (cA cs k:Int)) (.int (j:Int))) (.ok (D.bl ((cA cs k:Int)==(j:Int))))=_
    rw[aZ (by rfl)]
    refine congrArg (λb=>Res.ok (D.bl b)) ?_
    by_cases z:cA cs k=j
    ·rw[decide_eq_true z,z];simp
    ·rw[decide_eq_false z,beq_eq_false_iff_ne];lia
   by_cases z:cA cs k=j
   ·rw[if_pos z]
    rw[decide_eq_true z]at q
    generalize D.lst (aA cs)=n1 at *
    generalize D.lst (aA vs)=n2 at *
    simp[aG,Tr.aQ,rG,rF,aC,e1,e2,q]
   ·rw[if_neg z]
    rw[decide_eq_false z]at q
    generalize D.lst (aA cs)=n1 at *
    generalize D.lst (aA vs)=n2 at *
    simp[aG,Tr.aQ,rG,rF,aC,e1,q])]
  refine congrArg Res.ok ?_
  generalize aD many=l
  unfold aA
  rw[cG]
  induction l with
  |nil=>rfl
  |cons a r ih=>
   rw[gK,gN,ih]
   by_cases z:cA cs a=j
   ·rw[if_pos z,if_pos (decide_eq_true z)];rfl
   ·rw[if_neg z,if_neg (by rw[decide_eq_false z];exact aU)]
 generalize hown:((aD many).filter λk=>decide (cA cs k=j)).map (cA vs)=own at c1
 have em:=cast_at (cs:=more) (i:=j) hmo
 have c2:∀a0 a1 a2 a3 a4 a5 a6 a7 a8 a10 a13 a14 a15 a16 a17,aR (aG T (aB T dfs n) 1 [12,9,11] (.one 0) rJ rH [a0,a1,a2,a3,a4,a5,a6,a7,a8,.v (.lst (aA more)),a10,.v (.int (j:Int)),.v (.lst (aA own)),a13,a14,a15,a16,a17]) ((aD 3).map aC)=.ok (aA ((aD 3).filter λv=>decide (v∈own)||decide ((cA more j:Int)/w3 v%2=1))):=λa0 a1 a2 a3 a4 a5 a6 a7 a8 a10 a13 a14 a15 a16 a17=>by
  refine nJ aC _ λv hv=>?_
  have hv:=bO.mp hv
  have e1:=Dj (i:=v) (ws:=own)
  have e2:D.ix (.lst [.int 1,.int 2,.int 4]) (.int (v:Int))=.ok (.int (w3 v)):=by
   have:v=0\/v=1\/v=2:=by lia
   rcases this with rfl|rfl|rfl<;>rfl
  have hw:0<w3 v/\w3 v<1073741824:=by
   unfold w3
   repeat' split
   all_goals lia
  have e3:=qG (i:=(cA more j:Int)) hw
  generalize decide (v∈own)=b at *
  generalize D.lst (aA own)=n1 at *
  generalize D.lst (aA more)=n2 at *
  by_cases z:(cA more j:Int)/w3 v%2=1
  ·cases b<;>simp[aG,Tr.aQ,rJ,rH,aC,e1,em,e2,e3,z]
  ·cases b<;>simp[aG,Tr.aQ,rJ,rH,aC,e1,em,e2,e3,z]
 generalize htb:(λv=>decide (v∈own)||decide ((cA more j:Int)/w3 v%2=1))=tb at c2
 obtain⟨s,s1,s2⟩:=KL tb
 have c3:∀env,aR (aG T (aB T dfs n) 1 [] (.one 0) xD (.con (.bl true)) env) (aA ((aD 3).filter tb))=.ok (((aD 3).filter tb).map λv=>.str (vch v)):=λenv=>by
  show aR _ (((aD 3).filter tb).map λ(i:Nat)=>D.int (i:Int))=_
  rw[cC (λ(i:Nat)=>D.int (i:Int)) (λv=>some (.str (vch v))) (λv hv=>by
   have e:=Dm (bO.mp (cP.mp hv).1)
   simp[aG,Tr.aQ,xD,e]),eZ]
 obtain⟨y,t1,t2⟩:=KN hj
 refine⟨⟨"x" ++ y,s,0⟩,.v (.lst (aA own)),.v (.lst (aA ((aD 3).filter tb))),?_,λk hk hkj=>?_⟩
 ·have rg3:qB (.int 3)=.ok ((aD 3).map aC):=rfl
  have l3:((aD 3).map aC).length<=big:=by rw[aF,bQ];lia
  have l4:(aA ((aD 3).filter tb)).length<=big:=by
   rw[cE]
   exact bV (fJ ..) (by rw[bQ];lia)
  have la:acc.length<big:=by lia
  unfold Player.enc
  dsimp only
  generalize ((aD 3).filter tb).map (λv=>D.str (vch v))=jl at *
  generalize aA ((aD 3).filter tb)=tl at *
  generalize (aD 3).map aC=r3 at *
  generalize (aD many).map aC=rr at *
  generalize aA own=no at *
  generalize aA cs=n1 at *
  generalize aA vs=n2 at *
  generalize aA more=n3 at *
  simp[aS,rK,rg,l1,c1,rg3,l3,c2,l4,c3,s1,t1,t2,la]
 ·have hk':k<vs.length:=by lia
  refine s2 (cA vs k) (Do hv.2 hk') ?_
  rw[<-htb]
  show(decide (cA vs k∈own)||_)=true
  rw[decide_eq_true (by rw[<-hown];exact bJ.mpr ⟨k,cP.mpr ⟨bO.mpr (by lia),decide_eq_true hkj⟩,rfl⟩)];rfl
theorem Dp(n:Nat){many:Nat}(hm:many<=6){cs vs more:List Nat}(hc:cs.length=many)(hv:vs.length=many/\∀d∈vs,d<3)(a0 a2 a3 a6 a7 a8 a14 a15 a16 a17:Sl):∀(m j:Nat)(Q:List Player)(x11 x12 x13:Sl),j+m<=more.length->j+m<=5->Q.length=j->(∀(i:Nat)(q:Player),Q[i]?=some q->yG cs vs i q) ->
 ∃(Q':List Player)(y11 y12 y13:Sl),bC (aS T (aB T dfs n) (.one 11) rK) ((dG j m).map aC) [a0,.v (.int (many:Int)),a2,a3,.v (.lst (aA cs)),.v (.lst (aA vs)),a6,a7,a8,.v (.lst (aA more)),.o (.lst (Q.map Player.enc)),x11,x12,x13,a14,a15,a16,a17]=.ok (.nx [a0,.v (.int (many:Int)),a2,a3,.v (.lst (aA cs)),.v (.lst (aA vs)),a6,a7,a8,.v (.lst (aA more)),.o (.lst (Q'.map Player.enc)),y11,y12,y13,a14,a15,a16,a17])/\Q'.length=j+m/\∀(i:Nat)(q:Player),Q'[i]?=some q->yG cs vs i q
 |0,j,Q,x11,x12,x13,_,_,h1,h2=>⟨Q,x11,x12,x13,rfl,h1,h2⟩
 |m+1,j,Q,x11,x12,x13,hj,hj5,h1,h2=>by
  obtain⟨q,y12,y13,e,hq⟩:=KO n hm hc hv (more:=more) (j:=j) (by lia) (by lia) a0 a2 a3 a6 a7 a8 x11 x12 x13 a14 a15 a16 a17 (Q.map Player.enc) (by rw[aF];lia)
  obtain⟨Q',z11,z12,z13,e2,g1,g2⟩:=Dp n hm hc hv a0 a2 a3 a6 a7 a8 a14 a15 a16 a17 m (j+1) (Q++[q]) (.v (.int (j:Int))) y12 y13 (show j+1+m<=more.length by lia) (by lia) (by rw[bR,h1];rfl) (λi r hr=>by
   by_cases hi:i<Q.length
   ·rw[kO hi]at hr
    exact h2 i r hr
   ·rw[gM (by lia)]at hr
    have:i=j:=by
     have:=(gL.mp hr).1
     rw[fG]at this
     lia
    subst this
    rw[h1,Nat.sub_self]at hr
    cases hr
    exact hq)
  refine⟨Q',z11,z12,z13,?_,by lia,g2⟩
  rw[Es,aK,<-e2,dF]
  exact dC e
noncomputable def prD(p:Nat×Nat):D:=.tup [.int p.1,.int p.2]
theorem KP(n:Nat){players k:Nat}{row:List Nat}(hr:row.length=players)(a0 a1 a2 a3 a4 a5 a6 a7 a8 a9 a10 a11 a12 a13 a14 a17:Sl) :
 aR (aG T (aB T dfs n) 1 [15,16] (.one 0) rM rL [a0,a1,a2,a3,a4,a5,a6,a7,a8,a9,a10,a11,a12,a13,a14,.v (.int (k:Int)),.v (.lst (aA row)),a17]) ((aD players).map aC)=.ok ((((aD players).filter λj=>decide (cA row j=1)).map λj=>(k,j)).map prD):=by
 rw[cC aC (λj=>if cA row j=1 then some (prD (k,j))else none) (λj hj=>by
  have e1:=cast_at (cs:=row) (i:=j) (by rw[hr];exact bO.mp hj)
  have q:D.cmp .Eq (.int (cA row j:Int)) (.int 1)=.ok (.bl (decide (cA row j=1))):=by
   show aE (D.eqOk (.int (cA row j:Int)) (.int 1)) (.ok (D.bl ((cA row j:Int)==1)))=_
   rw[aZ (by rfl)]
   refine congrArg (λb=>Res.ok (D.bl b)) ?_
   by_cases z:cA row j=1
   ·rw[decide_eq_true z,z];rfl
   ·rw[decide_eq_false z,beq_eq_false_iff_ne];lia
  unfold prD
  by_cases z:cA row j=1
  ·rw[if_pos z]
   rw[decide_eq_true z]at q
   generalize D.lst (aA row)=n1 at *
   simp[aG,Tr.aQ,rM,rL,aC,e1,q]
  ·rw[if_neg z]
   rw[decide_eq_false z]at q
   generalize D.lst (aA row)=n1 at *
   simp[aG,Tr.aQ,rM,rL,aC,e1,q])]
 refine congrArg Res.ok ?_
 rw[cG]
 generalize aD players=l
 induction l with
 |nil=>rfl
 |cons a r ih=>
  rw[gK,gN,ih]
  by_cases z:cA row a=1
  ·rw[if_pos z,if_pos (decide_eq_true z)];rfl
  ·rw[if_neg z,if_neg (by rw[decide_eq_false z];exact aU)]
theorem Dq(n:Nat)(ns:List Int){players:Nat}(hp:1<=players/\players<=5)(mx:Bool)(a1 a4 a5 a6 a7 a8 a9 a10 a11 a12 a13 a17:Sl):∀(ks:List Nat)(cv:List (Nat×Nat))(x15 x16:Sl),(∀k∈ks,k<=20)->(∀x∈cv,x.2<players)->cv.length+ks.length*5<=48 ->
 ∃(cv':List (Nat×Nat))(y15 y16:Sl),bC (aS T (aB T dfs (n+1)) (.one 15) xE) (ks.map aC) [.v (.lst (ns.map D.int)),a1,.v (.int (players:Int)),.v (.bl mx),a4,a5,a6,a7,a8,a9,a10,a11,a12,a13,.v (.lst (cv.map prD)),x15,x16,a17]=.ok (.nx [.v (.lst (ns.map D.int)),a1,.v (.int (players:Int)),.v (.bl mx),a4,a5,a6,a7,a8,a9,a10,a11,a12,a13,.v (.lst (cv'.map prD)),y15,y16,a17])/\(∀x∈cv',x.2<players)/\cv'.length<=48
 |[],cv,x15,x16,_,h1,h2=>⟨cv,x15,x16,rfl,h1,by rw[gX]at h2;lia⟩
 |k::r,cv,x15,x16,hk,h1,h2=>by
  have hb:=bI
  rw[aP]at h2
  have hk0:=hk k bF
  obtain⟨row,r1,r2,er⟩:=kI n (fE ns (6+k)) 2 players (by decide) (by decide) (by lia) mx
  rw[show((2:Nat):Int)=2 from rfl]at er
  have ec:=kH n ns (6+k)
  rw[show((6+k:Nat):Int)=6+(k:Int) by lia]at ec
  have c1:=KP (n+1) (k:=k) r1
  generalize hnew:(((aD players).filter λj=>decide (cA row j=1)).map λj=>(k,j))=new at c1
  have ln:new.length<=5:=by
   rw[<-hnew,aF]
   exact bV (fJ ..) (by rw[bQ];lia)
  obtain⟨cv',y15,y16,e,g⟩:=Dq n ns hp mx a1 a4 a5 a6 a7 a8 a9 a10 a11 a12 a13 a17 r (cv++new) (.v (.int (k:Int))) (.v (.lst (aA row))) (λq hq=>hk q (bB _ hq)) (λx hx=>by
   rcases eY.mp hx with z|z
   ·exact h1 x z
   ·rw[<-hnew]at z
    obtain⟨j,hj,rfl⟩:=bJ.mp z
    exact bO.mp (cP.mp hj).1) (by rw[bR];lia)
  refine⟨cv',y15,y16,?_,g⟩
  rw[aK,<-e]
  refine dC ?_
  have rg:=eE (n:=players) (by lia)
  have l1:((aD players).map aC).length<=big:=by rw[aF,bQ];lia
  have ad:D.bin .Add (.lst (cv.map prD)) (.lst (new.map prD))=.ok (.lst ((cv++new).map prD)):=by
   show aE (decide ((cv.map prD).length+(new.map prD).length<=big)) (.ok (D.lst (cv.map prD++new.map prD)))=_
   rw[aZ (decide_eq_true (by rw[aF,aF];lia)),dF]
  generalize (cv++new).map prD=c2 at *
  generalize cv.map prD=c0 at *
  generalize new.map prD=cn at *
  generalize (aD players).map aC=rr at *
  generalize aA row=nr at *
  simp[aS,xE,aC,ec,er,rg,l1,c1,ad]
theorem KQ{α:Type}(f:α->D)(xs:List α)(lo hi:Option Int):cut (xs.map f) lo hi=(Tr.cut xs lo hi).map f:=by
 unfold cut;rw[aF,sM,sN]
theorem Dr{α:Type}(xs:List α):(cut xs (some 12) (some 18)).length<=6:=by
 unfold cut sIx
 rw[kN]
 dsimp only
 repeat' split
 all_goals lia
theorem Ds(n:Nat){cs:List Nat}(h8:cs.length<=8)(mx:Bool)(env:Nv)(h4:env.at 4=.v (.lst (aA cs)))(h3:env.at 3=.v (.bl mx)):∀(cells:List Int)(j:Nat),j+cells.length<=6 ->
 ∃S:List Scene,aR (aG T (aB T dfs (n+2)) 2 [4,3] (.many [0,1]) rN (.con (.bl true)) env) (cR (j:Int) (cells.map D.int))=.ok (S.map Scene.enc)/\S.length=cells.length/\∀s∈S,GoodScene cs.length s/\60<=s.pause/\(s.who.map (cA cs)).Nodup
 |[],j,_=>⟨[],rfl,rfl,λs hs=>by cases hs⟩
 |c::r,j,h=>by
  rw[aP]at h
  obtain⟨s,g1,g2,g3,e⟩:=KJ n c j (by lia) cs h8 mx
  obtain⟨S,f1,f2,f3⟩:=Ds n h8 mx env h4 h3 r (j+1) (by lia)
  refine⟨s::S,?_,by rw[aP,aP,f2],λx hx=>?_⟩
  ·rw[aK,cR,aR]
   rw[show(j:Int)+1=((j+1:Nat):Int) by lia,f1]
   have:aG T (aB T dfs (n+2)) 2 [4,3] (.many [0,1]) rN (.con (.bl true)) env (.tup [.int (j:Int),.int c])=.ok (some s.enc):=by
    generalize D.lst (aA cs)=nc at *
    simp[aG,Tr.aQ,rN,h4,h3,e]
   rw[this];rfl
  ·rcases aO.mp hx with z|z
   ·subst z;exact⟨g1,g2,g3⟩
   ·exact f3 x z
noncomputable def yH(cv:List (Nat×Nat))(Q:List Player):Prop:=cv.length<=48/\∀x∈cv,x.2<Q.length
structure Made(P:List Part)(Q:List Player)(S:List Scene)(cs:List Nat)(cv:List (Nat×Nat)):Prop where
 hp:P.length<=6
 hq:Q.length<=5
 hs:S.length<=6
 one:∀p∈P,(gG p.voice).length=1
 dress:∀p∈P,0<=p.off/\p.off<=30/\0<=p.on/\p.on<=30
 good:∀s∈S,GoodScene P.length s
 long:∀s∈S,60<=s.pause
 own:∀s∈S,(s.who.map (cA cs)).Nodup
 len:cs.length=P.length
 lt:∀j∈cs,j<Q.length
 may:∀k,k<P.length->nM P Q k (cA cs k)=true
 cov:yH cv Q
theorem KR(n:Nat)(ns:List Int)(many players:Nat)(hm:many<=6)(hp:1<=players/\players<=5)(mx:Bool):∃(P:List Part)(Q:List Player)(S:List Scene)(cs:List Nat)(cv:List (Nat×Nat)),Made P Q S cs cv/\Q.length=players /\
 aB T dfs (n+3) 22 [.lst (ns.map D.int),.int (many:Int),.int (players:Int),.bl mx]=.ok (.tup [.tup [.tup (P.map Part.enc),.tup (Q.map Player.enc),.tup (S.map Scene.enc),.tup [],.tup (cv.map prD)],.lst (aA cs)]):=by
 have hb:=bI
 obtain⟨cs,s1,s2,e1⟩:=kI (n+1) (fE ns 1) players many (by lia) (by lia) (by lia) mx
 obtain⟨vs,v1,v2,e2⟩:=kI (n+1) (fE ns 2) 3 many (by lia) (by lia) (by lia) mx
 obtain⟨off,o1,o2,e3⟩:=kI (n+1) (fE ns 3) 31 many (by lia) (by lia) (by lia) mx
 obtain⟨on,p1,p2,e4⟩:=kI (n+1) (fE ns 4) 31 many (by lia) (by lia) (by lia) mx
 obtain⟨more,m1,m2,e5⟩:=kI (n+1) (fE ns 5) 8 players (by lia) (by lia) (by lia) mx
 rw[show((3:Nat):Int)=3 from rfl]at e2
 rw[show((31:Nat):Int)=31 from rfl]at e3 e4
 rw[show((8:Nat):Int)=8 from rfl]at e5
 have k1:aB T dfs (n+2) 19 [.lst (ns.map D.int),.int 1]=.ok (.int (fE ns 1)):=kH (n+1) ns 1
 have k2:aB T dfs (n+2) 19 [.lst (ns.map D.int),.int 2]=.ok (.int (fE ns 2)):=kH (n+1) ns 2
 have k3:aB T dfs (n+2) 19 [.lst (ns.map D.int),.int 3]=.ok (.int (fE ns 3)):=kH (n+1) ns 3
 have k4:aB T dfs (n+2) 19 [.lst (ns.map D.int),.int 4]=.ok (.int (fE ns 4)):=kH (n+1) ns 4
 have k5:aB T dfs (n+2) 19 [.lst (ns.map D.int),.int 5]=.ok (.int (fE ns 5)):=kH (n+1) ns 5
 obtain⟨P,c1,q1,q2⟩:=KM (n+2) hm ⟨v1,v2⟩ ⟨o1,o2⟩ ⟨p1,p2⟩ (.v (.lst (ns.map D.int))) (.v (.int (many:Int))) (.v (.int (players:Int))) (.v (.bl mx)) (.v (.lst (aA cs))) [.no,.no,.no,.no,.no,.no,.no,.no,.no,.no]
 obtain⟨Q,t11,t12,t13,l1,q3,q4⟩:=Dp (n+2) hm s1 ⟨v1,v2⟩ (more:=more) (.v (.lst (ns.map D.int))) (.v (.int (players:Int))) (.v (.bl mx)) (.v (.lst (aA off))) (.v (.lst (aA on))) (.v (.tup (P.map Part.enc))) .no .no .no .no players 0 [] .no .no .no (by lia) (by lia) rfl (λi q h=>by cases h)
 rw[lW]at q3
 rw[show(dG 0 players)=aD players from(Er ..).symm,kP]at l1
 obtain⟨cv,t15,t16,l2,q5,q6⟩:=Dq (n+1) ns hp mx (.v (.int (many:Int))) (.v (.lst (aA cs))) (.v (.lst (aA vs))) (.v (.lst (aA off))) (.v (.lst (aA on))) (.v (.tup (P.map Part.enc))) (.v (.lst (aA more))) (.o (.lst (Q.map Player.enc))) t11 t12 t13 .no (aD many) [] .no .no (λk hk=>by have:=bO.mp hk;lia) (λx hx=>by cases hx) (by rw[bQ,gX];lia)
 rw[kP]at l2
 obtain⟨S,c2,q7,q8⟩:=Ds n (cs:=cs) (by lia) mx [.v (.lst (ns.map D.int)),.v (.int (many:Int)),.v (.int (players:Int)),.v (.bl mx),.v (.lst (aA cs)),.v (.lst (aA vs)),.v (.lst (aA off)),.v (.lst (aA on)),.v (.tup (P.map Part.enc)),.v (.lst (aA more)),.o (.lst (Q.map Player.enc)),t11,t12,t13,.v (.lst (cv.map prD)),t15,t16,.no] rfl rfl (cut ns (some 12) (some 18)) 0 (by have:=Dr ns;lia)
 have hcut:=Dr ns
 refine⟨P,Q,S,cs,cv,⟨by lia,by lia,by lia,λp hp=>?_,λp hp=>?_,λs hs=>?_,λs hs=>(q8 s hs).2.1,λs hs=>(q8 s hs).2.2,by lia,λj hj=>by rw[q3];exact s2 j hj,λk hk=>?_,⟨q6,λx hx=>by rw[q3];exact q5 x hx⟩⟩,q3,?_⟩
 ·obtain⟨i,hi⟩:=MC hp
  rw[(q2 i p hi).2.1,Dn];rfl
 ·obtain⟨i,hi⟩:=MC hp
  exact(q2 i p hi).2.2
 ·rw[show P.length=cs.length by lia];exact(q8 s hs).1
 ·have hj:cA cs k<Q.length:=by rw[q3];exact Do s2 (by lia)
  rw[D6 hk hj]
  unfold nL
  have e:=q2 k P[k] (aX hk)
  rw[e.2.1,Dn]
  exact q4 (cA cs k) Q[cA cs k] (aX hj) k (by lia) rfl
 ·have rg1:=eE (n:=many) (by lia)
  have rg2:=eE (n:=players) (by lia)
  have b1:((aD many).map aC).length<=big:=by rw[aF,bQ];lia
  have b2:((aD players).map aC).length<=big:=by rw[aF,bQ];lia
  have tp:∀l:List D,Bt.run .tuple [.lst l]=.ok (.tup l):=λ_=>rfl
  have sl:D.sl (.lst (ns.map D.int)) (some 12) (some 18)=.ok (.lst ((cut ns (some 12) (some 18)).map D.int)):=by
   show Res.ok (D.lst (cut (ns.map D.int) (some 12) (some 18)))=_
   rw[KQ]
  have p12:D.part (.int 12)=.ok (some 12):=rfl
  have p18:D.part (.int 18)=.ok (some 18):=rfl
  have en:vB (.lst ((cut ns (some 12) (some 18)).map D.int))=.ok (cR 0 ((cut ns (some 12) (some 18)).map D.int)):=rfl
  rw[show((0:Nat):Int)=0 from rfl]at c2
  have ben:(cR 0 ((cut ns (some 12) (some 18)).map D.int)).length<=big:=by
   have:∀(l:List D)(k:Int),(cR k l).length=l.length:=λl=>by
    induction l with
    |nil=>intro _;rfl
    |cons a r ih=>intro k;rw[cR,aP,ih,aP]
   rw[this,aF];lia
  refine bW (k:=false) rfl rfl rfl ?_
  generalize cR 0 ((cut ns (some 12) (some 18)).map D.int)=ed at *
  generalize (cut ns (some 12) (some 18)).map D.int=ct at *
  generalize (aD many).map aC=rm at *
  generalize (aD players).map aC=rp at *
  generalize P.map Part.enc=pp at *
  generalize Q.map Player.enc=qq at *
  generalize S.map Scene.enc=ss at *
  generalize cv.map prD=cc at *
  generalize aA cs=n1 at *
  generalize aA vs=n2 at *
  generalize aA off=n3 at *
  generalize aA on=n4 at *
  generalize aA more=n5 at *
  generalize ns.map D.int=sc at *
  simp[-sl_l,xF,k1,k2,k3,k4,k5,e1,e2,e3,e4,e5,rg1,rg2,b1,b2,c1,l1,l2,tp,sl,p12,p18,en,ben,c2]
noncomputable def jE(A:D)(aw:List Nat):Prop:=∀j:Nat,D.cmp .In (.int (j:Int)) A=.ok (.bl (decide (j∈aw)))/\D.cmp .NotIn (.int (j:Int)) A=.ok (.bl (!decide (j∈aw)))
theorem nW(aw:List Nat):jE (.lst (aA aw)) aw:=λ_=>⟨Dj,yE⟩
theorem KS(aw:List Nat):jE (.tup (aA aw)) aw:=λj=>⟨Ji,by
 show(do let k<-aE (D.pls 30 (aA aw)&&D.pl 29 (.int (j:Int))) (.ok (D.mem (.int (j:Int)) (aA aw)));.ok (D.bl (!k)))=_
 rw[aZ (by rw[iZ 29 aw];rfl),nH];rfl⟩
noncomputable def bZ(cs aw:List Nat)(s:Scene):List Nat:=s.who.filter λi=>decide (cA cs i∈aw)
theorem rW{S:List Scene}{k:Nat}(h:k<S.length):D.ix (.tup (S.map Scene.enc)) (.int (k:Int))=.ok S[k].enc:=iY (by rw[bK,aX h];rfl)
theorem KU(n:Nat)(B0 B1 L C:D)(S:List Scene)(cs aw:List Nat)(A:D)(hA:jE A aw)(hs:∀s∈S,GoodScene cs.length s)(h8:cs.length<=8)(k:Nat)(hk:k<S.length) :
 aB T dfs (n+1) 10 [.tup [B0,B1,.tup (S.map Scene.enc),L,C],.lst (aA cs),A,.int (k:Int)]=.ok (.lst (aA (bZ cs aw S[k]))):=by
 have hb:=bI
 have gs:=hs S[k] (eF hk)
 have e1:=rW hk
 have w8:S[k].who.length<=8:=bV (gI gs.nd (U:=aD cs.length) λx hx=>bO.mpr (gs.lt x hx)) (by rw[bQ];exact h8)
 refine bW (k:=true) rfl rfl rfl ?_
 have c1:∀a0 a3,aR (aG T (aB T dfs n) 1 [2,1] (.one 0) qW qV [a0,.v (.lst (aA cs)),.v A,a3]) (aA S[k].who)=.ok (aA (bZ cs aw S[k])):=λa0 a3=>by
  unfold bZ aA
  rw[cC (λ(i:Nat)=>D.int (i:Int)) (λi=>if cA cs i∈aw then some (D.int (i:Int))else none) (λi hi=>by
   have e1:=cast_at (gs.lt i hi)
   have e2:=(hA (cA cs i)).1
   unfold aA at e1
   generalize cA cs i=j at *
   by_cases h:j∈aw
   ·rw[decide_eq_true h]at e2
    rw[if_pos h]
    simp[aG,Tr.aQ,qW,qV,e1,e2]
   ·rw[decide_eq_false h]at e2
    rw[if_neg h]
    simp[aG,Tr.aQ,qW,qV,e1,e2])]
  refine congrArg Res.ok ?_
  generalize S[k].who=l
  induction l with
  |nil=>rfl
  |cons x r ih=>
   rw[gK,gN]
   by_cases h:cA cs x∈aw
   ·rw[if_pos h,if_pos (by simpa using h),aK,ih]
   ·rw[if_neg h,if_neg (by simpa using h),ih]
 have lw:(aA S[k].who).length<=big:=by rw[cE];lia
 have e3:D.ix S[k].enc (.int 3)=.ok (.tup (aA S[k].who)):=by unfold Scene.enc;rfl
 generalize S[k].enc=se at *
 generalize aA S[k].who=ww at *
 simp[wH,e1,e3,c1,lw]
noncomputable def cH(l:List Nat):List Nat:=(dR (l.map λ(n:Nat)=>(n:Int))).map lU
theorem yI(n:Int):∀(l:List Int)(x:Int),x∈fC n l↔x=n\/x∈l
 |[],x=>by simp[fC]
 |m::r,x=>by
  rw[fC]
  split
  ·simp
  ·rw[aO,yI n r x,aO]
   constructor
   ·rintro(h|h|h)
    ·exact .inr (.inl h)
    ·exact .inl h
    ·exact .inr (.inr h)
   ·rintro(h|h|h)
    ·exact .inr (.inl h)
    ·exact .inl h
    ·exact .inr (.inr h)
theorem kJ:∀(l:List Int)(x:Int),x∈dR l↔x∈l
 |[],x=>by simp[dR]
 |n::r,x=>by rw[dR,yI,kJ r,aO]
theorem Dt(n:Int):∀l:List Int,(fC n l).length=l.length+1
 |[]=>rfl
 |m::r=>by
  rw[fC]
  split
  ·rfl
  ·rw[aP,Dt n r,aP]
theorem Du:∀l:List Int,(dR l).length=l.length
 |[]=>rfl
 |n::r=>by rw[dR,Dt,Du r,aP]
theorem sortN_mem{l:List Nat}{x:Nat}:x∈cH l↔x∈l:=by
 unfold cH
 rw[bJ]
 constructor
 ·rintro⟨y,hy,rfl⟩
  obtain⟨z,hz,rfl⟩:=bJ.mp ((kJ _ _).mp hy)
  simpa using hz
 ·intro h
  exact⟨(x:Int),(kJ _ _).mpr (bJ.mpr ⟨x,h,rfl⟩),by simp⟩
theorem yJ(l:List Nat):(cH l).length=l.length:=by unfold cH;rw[aF,Du,aF]
theorem rX:∀l:List Nat,cN (aA l)=.ok (l.map λ(n:Nat)=>(n:Int))
 |[]=>rfl
 |n::r=>by
  show(do let q<-cN (aA r);Res.ok ((n:Int)::q))=_
  rw[rX r];rfl
theorem Dv(l:List Nat):(dR (l.map λ(n:Nat)=>(n:Int))).map D.int=aA (cH l):=by
 unfold cH aA
 rw[cG]
 refine fU λx hx=>?_
 obtain⟨z,_,rfl⟩:=bJ.mp ((kJ _ _).mp hx)
 rfl
theorem Dw{l:List Nat}(h:l.length<64):mO (.lst (aA l))=.ok (.lst (aA (cH l))):=by
 show(do let ns<-cN (aA l);aE (decide (ns.length<64)) (.ok (D.lst ((dR ns).map D.int))))=_
 rw[rX,Res.ok_bind,aZ (by rw[aF];exact decide_eq_true h),Dv]
noncomputable def cL(cs:List Nat)(s:Scene):List Nat:=s.who.map (cA cs)
noncomputable def dW(cv:List (Nat×Nat))(cs aw:List Nat)(s:Scene)(part:Nat):List Nat:=(cH ((cv.filter λx=>x.1==part).map (·.2))).filter λj=>!decide (j∈aw)&&!decide (j∈cL cs s)
theorem KW(n:Nat)(B0 B1 L:D)(S:List Scene)(cv:List (Nat×Nat))(hcv:cv.length<=48)(cs aw:List Nat)(A:D)(hA:jE A aw)(hs:∀s∈S,GoodScene cs.length s)(h8:cs.length<=8)(k:Nat)(hk:k<S.length)(part:Nat) :
 aB T dfs (n+1) 11 [.tup [B0,B1,.tup (S.map Scene.enc),L,.tup (cv.map prD)],.lst (aA cs),A,.int (k:Int),.int (part:Int)]=.ok (.lst (aA (dW cv cs aw S[k] part))):=by
 have hb:=bI
 have gs:=hs S[k] (eF hk)
 have e1:=rW hk
 have w8:S[k].who.length<=8:=bV (gI gs.nd (U:=aD cs.length) λx hx=>bO.mpr (gs.lt x hx)) (by rw[bQ];exact h8)
 refine bW (k:=true) rfl rfl rfl ?_
 have c1:∀a0 a2 a3 a4 a5 a6,aR (aG T (aB T dfs n) 1 [1] (.one 0) wI (.con (.bl true)) [a0,.v (.lst (aA cs)),a2,a3,a4,a5,a6]) (aA S[k].who)=.ok (aA (cL cs S[k])):=λa0 a2 a3 a4 a5 a6=>by
  unfold cL aA
  rw[cC (λ(i:Nat)=>D.int (i:Int)) (λi=>some (D.int (cA cs i:Int))) (λi hi=>by
   have e1:=cast_at (gs.lt i hi)
   unfold aA at e1
   generalize cA cs i=j at *
   simp[aG,Tr.aQ,wI,e1]),eZ,cG];rfl
 have c2:∀a0 a1 a2 a3 a5 a6,aR (aG T (aB T dfs n) 2 [4] (.many [0,1]) qY qX [a0,a1,a2,a3,.v (.int (part:Int)),a5,a6]) (cv.map prD)=.ok (aA ((cv.filter λx=>x.1==part).map (·.2))):=λa0 a1 a2 a3 a5 a6=>by
  rw[cC prD (λx=>if x.1=part then some (D.int (x.2:Int))else none) (λx hx=>by
   by_cases h:x.1=part
   ·rw[if_pos h]
    have:((x.1:Nat):Int)=(part:Int):=by rw[h]
    simp[aG,Tr.aQ,qY,qX,prD,this]
   ·rw[if_neg h]
    have:¬((x.1:Nat):Int)=(part:Int):=by lia
    simp[aG,Tr.aQ,qY,qX,prD,this])]
  refine congrArg Res.ok ?_
  unfold aA
  generalize cv=l
  induction l with
  |nil=>rfl
  |cons x r ih=>
   rw[gK,gN]
   by_cases h:x.1=part
   ·rw[if_pos h,if_pos (by simpa using h),aK,aK,ih]
   ·rw[if_neg h,if_neg (by simpa using h),ih]
 have hl:((cv.filter λx=>x.1==part).map (·.2)).length<=48:=by rw[aF];exact bV (fJ ..) hcv
 have so:=Dw (l:=(cv.filter λx=>x.1==part).map (·.2)) (by lia)
 have c3:∀a0 a1 a3 a4 a6,aR (aG T (aB T dfs n) 1 [2,5] (.one 0) lM lL [a0,a1,.v A,a3,a4,.v (.lst (aA (cL cs S[k]))),a6]) (aA (cH ((cv.filter λx=>x.1==part).map (·.2))))=.ok (aA (dW cv cs aw S[k] part)):=λa0 a1 a3 a4 a6=>by
  unfold dW
  generalize cH ((cv.filter λx=>x.1==part).map (·.2))=l
  have:aR (aG T (aB T dfs n) 1 [2,5] (.one 0) lM lL [a0,a1,.v A,a3,a4,.v (.lst (aA (cL cs S[k]))),a6]) (l.map λ(i:Nat)=>D.int (i:Int))=_:=cC (λ(i:Nat)=>D.int (i:Int)) (λj=>if(!decide (j∈aw)&&!decide (j∈cL cs S[k]))=true then some (D.int (j:Int))else none) (λj hj=>by
   have e2:=(hA j).2
   have e3:=yE (i:=j) (ws:=cL cs S[k])
   cases q1:decide (j∈aw)with
   |true=>rw[q1]at e2;simp[aG,Tr.aQ,lM,lL,e2]
   |false=>
    rw[q1]at e2
    cases q2:decide (j∈cL cs S[k])with
    |true=>rw[q2]at e3;simp[aG,Tr.aQ,lM,lL,e2,e3]
    |false=>rw[q2]at e3;simp[aG,Tr.aQ,lM,lL,e2,e3])
  refine this.trans (congrArg Res.ok ?_)
  unfold aA
  clear this
  induction l with
  |nil=>rfl
  |cons x r ih=>
   rw[gK,gN]
   by_cases h:(!decide (x∈aw)&&!decide (x∈cL cs S[k]))=true
   ·rw[if_pos h,if_pos h,aK,ih]
   ·rw[if_neg h,if_neg h,ih]
 have lw:(aA S[k].who).length<=big:=by rw[cE];lia
 have lc:(cv.map prD).length<=big:=by rw[aF];lia
 have ls:(aA (cH ((cv.filter λx=>x.1==part).map (·.2)))).length<=big:=by rw[cE,yJ];lia
 have e3:D.ix S[k].enc (.int 3)=.ok (.tup (aA S[k].who)):=by unfold Scene.enc;rfl
 generalize S[k].enc=se at *
 generalize aA S[k].who=ww at *
 generalize aA (cL cs S[k])=bw at *
 generalize aA (cH ((cv.filter λx=>x.1==part).map (·.2)))=sn at *
 generalize aA ((cv.filter λx=>x.1==part).map (·.2))=sm at *
 generalize cv.map prD=cw at *
 simp[wJ,e1,e3,c1,c2,c3,lw,lc,ls,so]
theorem Dx{f:Nat->D}:∀(G:List Nat)(kvs:List (Sum Int Str×D))(g:Nat),bG (eR (G.map λ(g:Nat)=>(.inl (g:Int),f g)) kvs) (.inl (g:Int))=if g∈G then some (f g)else bG kvs (.inl (g:Int))
 |[],kvs,g=>by rw[if_neg (by simp)];rfl
 |x::r,kvs,g=>by
  show bG (eR (r.map λ(g:Nat)=>(.inl (g:Int),f g)) (dQ kvs (.inl (x:Int)) (f x))) (.inl (g:Int))=_
  rw[Dx r _ g,qJ]
  by_cases h:g∈r
  ·rw[if_pos h,if_pos (bB _ h)]
  ·rw[if_neg h]
   by_cases e:g=x
   ·subst e;rw[if_pos rfl,if_pos bF]
   ·rw[if_neg (λz=>e (by injection z with z;lia)),if_neg (λz=>by rcases aO.mp z with z|z;exact e z;exact h z)]
theorem Dy:∀(qs kvs:List (Sum Int Str×D))(k:Sum Int Str),(k∈qs.map (·.1)\/(bG kvs k).isSome=true)->(bG (eR qs kvs) k).isSome=true
 |[],kvs,k,h=>by
  rcases h with h|h
  ·cases h
  ·exact h
 |q::r,kvs,k,h=>by
  show(bG (eR r (dQ kvs q.1 q.2)) k).isSome=true
  refine Dy r _ k ?_
  rcases h with h|h
  ·rw[aK]at h
   rcases aO.mp h with h|h
   ·exact .inr (by rw[qJ,if_pos h];rfl)
   ·exact .inl h
  ·refine .inr ?_
   rw[qJ]
   split
   ·rfl
   ·exact h
theorem Dz:∀a:List Nat,jM (bN a)=.ok (a.map λ(n:Nat)=>(n:Int))
 |[]=>rfl
 |n::r=>by
  show(do let q<-jM (bN r);Res.ok ((n:Int)::q))=_
  rw[Dz r];rfl
theorem KY{a:List Nat}(h:a.length<64):mO (.dct (bN a))=.ok (.lst (aA (cH a))):=by
 show(do let ns<-jM (bN a);aE (decide (ns.length<64)) (.ok (D.lst ((dR ns).map D.int))))=_
 rw[Dz,Res.ok_bind,aZ (by rw[aF];exact decide_eq_true h),Dv]
theorem KZ(a:List Nat):mL (.dct (bN a))=.ok (aA a):=by
 show Res.ok _=_
 unfold bN aA
 rw[cG];rfl
theorem K0(c:List (Nat×Nat)):mL (.dct (bM c))=.ok (aA (c.map (·.1))):=by
 show Res.ok _=_
 unfold bM aA
 rw[cG,cG];rfl
theorem EA{c:List (Nat×Nat)}{p g:Nat}(h:aM c p=some g):D.ix (.dct (bM c)) (.int (p:Int))=.ok (.int (g:Int)):=by rw[qE,qD,Res.ok_bind,yD,h];rfl
theorem K1 (n:Nat) (c:List (Nat×Nat)) (a:List Nat) (g:Nat) (ha:a.length<=20) (hc:∀p∈a,∃g,aM c p=some g):aB T dfs (n+1) 12 [.dct (bM c),.dct (bN a),.int (g:Int)]=.ok (.tup [.str "lacks", .lst (aA (cH (g::a.map λp=>(aM c p).getD 0))),.lst (aA (cH a))]):=by
 have hb:=bI
 refine bW (k:=false) rfl rfl rfl ?_
 have c1:∀a1 a2 a3,aR (aG T (aB T dfs n) 1 [0] (.one 0) wK (.con (.bl true)) [.v (.dct (bM c)),a1,a2,a3]) (aA a)=.ok (aA (a.map λp=>(aM c p).getD 0)):=λa1 a2 a3=>by
  unfold aA
  rw[cC (λ(i:Nat)=>D.int (i:Int)) (λp=>some (D.int (((aM c p).getD 0:Nat):Int))) (λp hp=>by
   obtain⟨g,hg⟩:=hc p hp
   have e:=EA hg
   rw[hg]
   simp[aG,Tr.aQ,wK,e]),eZ,cG];rfl
 have ks:=KZ a
 have s1:=Dw (l:=g::a.map λp=>(aM c p).getD 0) (by rw[aP,aF];lia)
 have s2:=KY (a:=a) (by lia)
 have la:(aA a).length<=big:=by rw[cE];lia
 have ad:D.bin .Add (.lst [.int (g:Int)]) (.lst (aA (a.map λp=>(aM c p).getD 0)))=.ok (.lst (aA (g::a.map λp=>(aM c p).getD 0))):=by
  show aE _ _=_
  rw[aZ (decide_eq_true (by rw[cE,aF,fG];lia))];rfl
 generalize aA (g::a.map λp=>(aM c p).getD 0)=z1 at *
 generalize aA (a.map λp=>(aM c p).getD 0)=z2 at *
 generalize aA a=z3 at *
 simp[wL,ks,c1,la,ad,s1,s2]
theorem rY:∀{c:List (Nat×Nat)} {p g:Nat},(c.map (·.1)).Nodup->(p,g)∈c->aM c p=some g
 |x::r,p,g,nd,h=>by
  rw[aK,eK]at nd
  rw[jO]
  rcases aO.mp h with h|h
  ·rw[<-h,if_pos rfl]
  ·rw[if_neg (λz=>nd.1 (by rw[z];exact bJ.mpr ⟨_,h,rfl⟩))]
   exact rY nd.2 h
theorem K2{c:List (Nat×Nat)}(nd:(c.map (·.1)).Nodup)(h1:∀g,cW c g<=1){p q g:Nat}(hp:aM c p=some g)(hq:aM c q=some g):p=q:=by
 have a:=h1 g
 unfold cW at a
 have mp:(p,g)∈c.filter λx=>x.2==g:=cP.mpr ⟨nN hp,by simp⟩
 have mq:(q,g)∈c.filter λx=>x.2==g:=cP.mpr ⟨nN hq,by simp⟩
 match hl:c.filter (λx=>x.2==g),a with
 |[],_=>rw[hl]at mp;cases mp
 |[y],_=>
  rw[hl]at mp mq
  have e1:=bX.mp mp
  have e2:=bX.mp mq
  rw[<-e2]at e1
  cases e1;rfl
 |_::_::_,h=>rw[hl]at a;simp at a
theorem rZ{f:Nat->Nat}:∀{l:List Nat},l.Nodup->(∀x∈l,∀y∈l,f x=f y->x=y)->(l.map f).Nodup
 |[],_,_=>iN
 |x::t,n1,n2=>by
  rw[eK]at n1
  rw[aK,eK]
  refine⟨λz=>?_,rZ n1.2 λa ha b hb=>n2 a (bB _ ha) b (bB _ hb)⟩
  obtain⟨q,hq,e⟩:=bJ.mp z
  exact n1.1 (n2 q (bB _ hq) x bF e▸hq)
structure LackP(G:List Nat)(ch:Nat->List Nat)(gl al:List Nat):Prop where
 sub:∀x∈gl,x∈G
 ndg:gl.Nodup
 nda:al.Nodup
 all:∀p,p∈al↔∃h∈gl,p∈ch h
 len:gl.length=al.length+1
theorem lackP{G:List Nat}{ch:Nat->List Nat}{c:List (Nat×Nat)}{g:Nat}{a':List Nat}(hg:g∈G)(cv:∀x∈c,x.2∈G)(ok:OkA ch c)(h1:∀g,cW c g<=1)(h0:cW c g=0)(na:a'.Nodup)(hg2:∀p∈ch g,p∈a')(hall:∀p∈a',∃g,aM c p=some g/\∀q∈ch g,q∈a'):LackP G ch (g::a'.map λp=>(aM c p).getD 0) a':=by
 refine⟨λx hx=>?_,?_,na,λp=>⟨λhp=>?_,λ⟨h,hh,hp⟩=>?_⟩,by rw[aP,aF]⟩
 ·rcases aO.mp hx with z|z
  ·subst z;exact hg
  ·obtain⟨p,hp,rfl⟩:=bJ.mp z
   obtain⟨g0,e0,h⟩:=hall p hp
   rw[e0]
   exact cv _ (nN e0)
 ·rw[eK]
  constructor
  ·intro z
   obtain⟨p,hp,e⟩:=bJ.mp z
   obtain⟨g0,e0,_⟩:=hall p hp
   rw[e0]at e
   have e:g0=g:=e
   subst e
   unfold cW at h0
   have:(p,g0)∈c.filter λx=>x.2==g0:=cP.mpr ⟨nN e0,by simp⟩
   rw[Li.mp h0]at this
   cases this
  ·refine rZ na λx hx y hy e=>?_
   obtain⟨g1,e1,_⟩:=hall x hx
   obtain⟨g2,e2,_⟩:=hall y hy
   rw[e1,e2]at e
   have e:g1=g2:=e
   subst e
   exact K2 ok.1 h1 e1 e2
 ·obtain⟨g0,e0,_⟩:=hall p hp
  exact⟨g0,bB _ (bJ.mpr ⟨p,hp,by rw[e0];rfl⟩),ok.2 _ _ e0⟩
 ·rcases aO.mp hh with z|z
  ·subst z;exact hg2 p hp
  ·obtain⟨q,hq,rfl⟩:=bJ.mp z
   obtain⟨g0,e0,h⟩:=hall q hq
   rw[e0]at hp
   exact h p hp
section
variable{C BK CS A K4:D}{x3:Sl}{U G:List Nat}{ch:Nat->List Nat}
noncomputable abbrev stE(BK CS A:D)(x3:Sl)(K4 C:D)(c:List (Nat×Nat))(x7 x8 x9:Sl):Nv:=[.v BK,.v CS,.v A,x3,.v K4,.v C,.o (.dct (bM c)),x7,x8,x9]
theorem EB(m:Nat)(hU:U.length<=6)(hch:∀g∈G,D.ix C (.int (g:Int))=.ok (.lst ((ch g).map aC))/\∀p∈ch g,p∈U)(hall:∀g,∀p∈ch g,p∈U) :
 ∀(r:List Nat)(c:List (Nat×Nat))(x7 x8 x9:Sl),(∀g∈r,g∈G)->OkA ch c->Sm U G c []->r.Nodup->(∀g,cW c g<=1)->(∀g∈r,cW c g=0) ->
  (∃gl al,bC (aS T (aB T dfs (m+7)) (.one 7) kG) (aA r) (stE BK CS A x3 K4 C c x7 x8 x9)=.ok (.rt (.tup [.str "lacks", .lst (aA (cH gl)),.lst (aA (cH al))]) false)/\LackP G ch gl al) \/
  ∃c' y7 y8,bC (aS T (aB T dfs (m+7)) (.one 7) kG) (aA r) (stE BK CS A x3 K4 C c x7 x8 x9)=.ok (.nx (stE BK CS A x3 K4 C c' y7 y8 x9))/\OkA ch c'/\Sm U G c' []/\(∀g,cW c g<=cW c' g)/\∀g∈r,0<cW c' g
 |[],c,x7,x8,x9,_,ok,sm,_,_,_=>.inr ⟨c,x7,x8,rfl,ok,sm,λg=>aN _,λg hg=>by cases hg⟩
 |g::r,c,x7,x8,x9,hr,ok,sm,rn,h1',h0'=>by
  have hg:=hr g bF
  obtain⟨⟨b,c',a'⟩,e⟩:=Dc (U:=U) hall 7 g c [] ok iN (λp hp=>by cases hp) (by rw[gX];lia)
  have ok2:=vW ch 7 g c [] b c' a' ok e
  obtain⟨sm2,run⟩:=Di (U:=U) (G:=G) (by lia) hch m 7 g c [] b c' a' hg sm e
  have rf:fX (aB T dfs (m+7)) 29 C (bM c) (bN []) (.int (g:Int))=.ok (.bl b,bM c',bN a'):=Ag λt1 t2 _=>run t1 t2
  have st:=DM (T:=T) (cf:=aB T dfs (m+7)) (e:=stE BK CS A x3 K4 C c (.v (.int (g:Int))) (.o (.dct [])) x9) (neg:=true) (c:=.omit) (z:=.non) (x:=.var 5) (i:=6) (j:=8) (y:=.var 7) (a:=.cons (.sealed 8) (.cons (.sealed 6) (.cons (.ret (.call 12 (.acons (.var 6) (.acons (.var 8) (.acons (.var 7) .anil))))) .nil))) (b:=.nil) (f:=29) (k:=b) rfl (by decide) (.inl rfl) (d1:=C) (by simp[stE]) (g:=bM c) (by simp[stE]) (h:=bN []) (by simp[stE];rfl) (d2:=.int (g:Int)) (by simp[stE]) rf rfl
  generalize hw:(S.ifR true .omit 29 (.var 5) 6 8 (.var 7) (.cons (.sealed 8) (.cons (.sealed 6) (.cons (.ret (.call 12 (.acons (.var 6) (.acons (.var 8) (.acons (.var 7) .anil))))) .nil))) .nil)=W at st
  cases b with
  |true=>
   rw[if_pos rfl]at ok2
   rw[if_neg (by decide)]at st
   simp[stE]at st
   have sm3:Sm U G c' []:=⟨sm2.cn,sm2.cu,iN,(λp hp=>by cases hp),sm2.cv⟩
   have body:aS T (aB T dfs (m+7)) (.one 7) kG (.int (g:Int)) (stE BK CS A x3 K4 C c x7 x8 x9)=.ok (.nx (stE BK CS A x3 K4 C c' (.v (.int (g:Int))) (.o (.dct (bN a'))) x9)):=by
    simp[aS,kG,stE,hw,st]
   rcases EB m hU hch hall r c' (.v (.int (g:Int))) (.o (.dct (bN a'))) x9 (λq hq=>hr q (bB _ hq)) ok2.ok sm3 (eK.mp rn).2 (λq=>by
    have:=ok2.cnt q;have:=h1' q
    by_cases z:g=q
    ·rw[if_pos z]at *;have:=h0' g bF;subst z;lia
    ·rw[if_neg z]at *;lia) (λq hq=>by
    have:=ok2.cnt q;have:=h0' q (bB _ hq)
    rw[if_neg (λz:g=q=>(eK.mp rn).1 (z▸hq))]at *;lia)with⟨gl,al,h,hz⟩|⟨c2,y7,y8,h,h1,h2,h3,h4⟩
   ·exact .inl ⟨gl,al,by show bC _ (.int (g:Int)::aA r) _=_;rw[dC body,h],hz⟩
   ·refine .inr ⟨c2,y7,y8,by show bC _ (.int (g:Int)::aA r) _=_;rw[dC body,h],h1,h2,λq=>?_,λq hq=>?_⟩
    ·have:=ok2.cnt q;have:=h3 q;lia
    ·rcases aO.mp hq with z|z
     ·subst z
      have:=ok2.cnt q
      rw[if_pos rfl]at this
      have:=h3 q
      lia
     ·exact h4 q z
  |false=>
   rw[if_neg aU]at ok2
   rw[if_pos (by decide)]at st
   have la:a'.length<=20:=bV (gI sm2.an sm2.au) (by lia)
   have ex:=K1 (m+6) c' a' g la (λp hp=>by
    obtain⟨⟨g0,e0,_⟩,_⟩:=ok2.new p hp (by simp)
    exact⟨g0,by rw[ok2.same];exact e0⟩)
   have nf:LackP G ch (g::a'.map λp=>(aM c' p).getD 0) a':=by
    rw[ok2.same]
    refine lackP (c:=c) (g:=g) (a':=a') hg sm.cv ok h1' (h0' g bF) sm2.an ok2.all λp hp=>?_
    exact(ok2.new p hp (by simp)).1
   refine .inl ⟨_,_,?_,nf⟩
   simp[stE,ex]at st
   have body:aS T (aB T dfs (m+7)) (.one 7) kG (.int (g:Int)) (stE BK CS A x3 K4 C c x7 x8 x9)=.ok (.rt (.tup [.str "lacks", .lst (aA (cH (g::a'.map λp=>(aM c' p).getD 0))),.lst (aA (cH a'))]) false):=by
    simp[aS,kG,stE,hw,st]
   show bC _ (.int (g:Int)::aA r) _=_
   rw[vG body]
end
theorem EC:∀(qs kvs:List (Sum Int Str×D))(k:Sum Int Str)(v:D),bG (eR qs kvs) k=some v->(k,v)∈qs\/bG kvs k=some v
 |[],_,_,_,h=>.inr h
 |q::r,kvs,k,v,h=>by
  rcases EC r (dQ kvs q.1 q.2) k v h with z|z
  ·exact .inl (bB _ z)
  ·rw[qJ]at z
   by_cases c:k=q.1
   ·rw[if_pos c]at z
    cases z
    rw[c]
    exact .inl bF
   ·rw[if_neg c]at z
    exact .inr z
theorem yK{α:Type}(k v:α->D)(key:α->Sum Int Str)(h:∀a,dP (k a)=some (key a)):∀l:List α,iC (l.map λa=>.tup [k a,v a])=.ok (l.map λa=>(key a,v a))
 |[]=>rfl
 |a::r=>by
  show(do let q0<-Res.of (dP (k a));let q<-iC (r.map λa=>.tup [k a,v a]);Res.ok ((q0,v a)::q))=_
  rw[h a,yK k v key h r];rfl
noncomputable def sA(G:List Nat)(ch:Nat->List Nat)(f:Nat->Nat):Prop:=(∀g∈G,f g∈ch g)/\∀g∈G,∀g'∈G,f g=f g'->g=g'
noncomputable def dX(f:Nat->Nat)(g:Nat):D:=.tup [.int (g:Int),.int (f g:Int)]
inductive Told(G:List Nat)(ch:Nat->List Nat):D->Prop
 |cov (f:Nat->Nat):sA G ch f->Told G ch (.tup [.str "covered", .lst (G.map (dX f))])
 |lack (gl al:List Nat):LackP G ch gl al->Told G ch (.tup [.str "lacks", .lst (aA (cH gl)),.lst (aA (cH al))])
theorem K3(m:Nat)(B0 B1 L:D)(S:List Scene)(cv:List (Nat×Nat))(hcv:cv.length<=48)(q:Nat)(hq:q<=6)(hcq:∀x∈cv,x.2<q)(cs aw:List Nat)(A:D)(hA:jE A aw)(hs:∀s∈S,GoodScene cs.length s)(h8:cs.length<=8)(k:Nat)(hk:k<S.length) :
 ∃d,Told (bZ cs aw S[k]) (dW cv cs aw S[k]) d/\aB T dfs (m+8) 13 [.tup [B0,B1,.tup (S.map Scene.enc),L,.tup (cv.map prD)],.lst (aA cs),A,.int (k:Int)]=.ok d:=by
 have hb:=bI
 have gs:=hs S[k] (eF hk)
 have e1:=KU (m+6) B0 B1 L (.tup (cv.map prD)) S cs aw A hA hs h8 k hk
 have e2:=λg=>KW (m+6) B0 B1 L S cv hcv cs aw A hA hs h8 k hk g
 have hall:∀g,∀p∈dW cv cs aw S[k] g,p∈aD q:=λg p hp=>by
  have h1:=sortN_mem.mp (cP.mp hp).1
  obtain⟨x,hx,rfl⟩:=bJ.mp h1
  exact bO.mpr (hcq x (cP.mp hx).1)
 have gl:(bZ cs aw S[k]).length<=8:=by
  refine bV (fJ ..) (bV (gI gs.nd (U:=aD cs.length) λx hx=>bO.mpr (gs.lt x hx)) ?_)
  rw[bQ];exact h8
 have gn:(bZ cs aw S[k]).Nodup:=iL.filter _ gs.nd
 generalize hG:bZ cs aw S[k]=G at *
 generalize hC:dW cv cs aw S[k]=ch at *
 generalize hB:D.tup [B0,B1,.tup (S.map Scene.enc),L,.tup (cv.map prD)]=BK at *
 have c1:∀x4 x5 x6 x7 x8 x9,aR (aG T (aB T dfs (m+7)) 1 [0,1,2,3] (.one 0) wM (.con (.bl true)) [.v BK,.v (.lst (aA cs)),.v A,.v (.int (k:Int)),x4,x5,x6,x7,x8,x9]) (aA G)=.ok (G.map λ(g:Nat)=>D.tup [.int (g:Int),.lst (aA (ch g))]):=λx4 x5 x6 x7 x8 x9=>by
  show aR _ (G.map λ(i:Nat)=>D.int (i:Int))=_
  rw[cC (λ(i:Nat)=>D.int (i:Int)) (λ(g:Nat)=>some (D.tup [.int (g:Int),.lst (aA (ch g))])) (λg _=>by
   have e:=e2 g
   generalize D.lst (aA (ch g))=z at *
   generalize D.lst (aA cs)=z2 at *
   simp[aG,Tr.aQ,wM,e]),eZ]
 have p1:mN (.lst (G.map λ(g:Nat)=>D.tup [.int (g:Int),.lst (aA (ch g))]))=.ok (.dct (eR (G.map λ(g:Nat)=>(.inl (g:Int),.lst (aA (ch g)))) [])):=by
  show(do let qs<-iC _;Res.ok (D.dct (eR qs [])))=_
  rw[yK (λ(g:Nat)=>D.int (g:Int)) (λg=>.lst (aA (ch g))) (λ(g:Nat)=>.inl (g:Int)) (λ_=>rfl)]<;>rfl
 have hix:∀g∈G,D.ix (.dct (eR (G.map λ(g:Nat)=>(.inl (g:Int),.lst (aA (ch g)))) [])) (.int (g:Int))=.ok (.lst ((ch g).map aC)):=λg hg=>by
  rw[qE,qD,Res.ok_bind,Dx (f:=λg=>.lst (aA (ch g))) G [] g,if_pos hg];rfl
 generalize hCH:D.dct (eR (G.map λ(g:Nat)=>(.inl (g:Int),.lst (aA (ch g)))) [])=CH at *
 have lg:(aA G).length<=big:=by rw[cE];lia
 have lo:=EB (BK:=BK) (CS:=.lst (aA cs)) (A:=A) (x3:=.v (.int (k:Int))) (K4:=.lst (aA G)) (C:=CH) (U:=aD q) (G:=G) (ch:=ch) m (by rw[bQ];exact hq) (λg hg=>⟨hix g hg,hall g⟩) hall G [] .no .no .no (λg hg=>hg) ⟨iN,λp g h=>by cases h⟩ ⟨iN,(λp hp=>by cases hp),iN,(λp hp=>by cases hp),λx hx=>by cases hx⟩ gn (λg=>eM _) (λg _=>rfl)
 rw[show stE BK (.lst (aA cs)) A (.v (.int (k:Int))) (.lst (aA G)) CH [] .no .no .no=[.v BK,.v (.lst (aA cs)),.v A,.v (.int (k:Int)),.v (.lst (aA G)),.v CH,.o (.dct []),.no,.no,.no]from rfl]at lo
 rcases lo with⟨gl,al,lo,nf⟩|⟨c,y7,y8,lo,ok,sm,_,cnt⟩
 ·refine⟨_,.lack gl al nf,bW (k:=false) rfl rfl rfl ?_⟩
  generalize D.lst (aA cs)=z2 at *
  generalize aA G=g2 at *
  generalize (G.map λ(g:Nat)=>D.tup [.int (g:Int),.lst (aA (ch g))])=g3 at *
  simp[qZ,e1,lg,c1,p1,lo]
 ·have c2:∀x0 x1 x2 x3 x4 x5 x7 x8 x9,aR (aG T (aB T dfs (m+7)) 1 [6] (.one 0) wN (.con (.bl true)) [x0,x1,x2,x3,x4,x5,.v (.dct (bM c)),x7,x8,x9]) (aA (c.map (·.1)))=.ok ((c.map (·.1)).map λ(p:Nat)=>D.tup [.int (((aM c p).getD 0:Nat):Int),.int (p:Int)]):=λx0 x1 x2 x3 x4 x5 x7 x8 x9=>by
   show aR _ ((c.map (·.1)).map λ(i:Nat)=>D.int (i:Int))=_
   rw[cC (λ(i:Nat)=>D.int (i:Int)) (λ(p:Nat)=>some (D.tup [.int (((aM c p).getD 0:Nat):Int),.int (p:Int)])) (λp hp=>by
    obtain⟨y,hy,rfl⟩:=bJ.mp hp
    have e0:=rY ok.1 (show(y.1,y.2)∈c from hy)
    have e:=EA e0
    rw[e0]
    simp[aG,Tr.aQ,wN,e]),eZ]
  have p2:mN (.lst ((c.map (·.1)).map λ(p:Nat)=>D.tup [.int (((aM c p).getD 0:Nat):Int),.int (p:Int)]))=.ok (.dct (eR ((c.map (·.1)).map λ(p:Nat)=>(.inl (((aM c p).getD 0:Nat):Int),.int (p:Int))) [])):=by
   show(do let qs<-iC _;Res.ok (D.dct (eR qs [])))=_
   rw[yK (λ(p:Nat)=>D.int (((aM c p).getD 0:Nat):Int)) (λ(p:Nat)=>.int (p:Int)) (λ(p:Nat)=>.inl (((aM c p).getD 0:Nat):Int)) (λ_=>rfl)]<;>rfl
  have has:∀g,∃p:Nat,g∈G->aM c p=some g/\D.ix (.dct (eR ((c.map (·.1)).map λ(p:Nat)=>(.inl (((aM c p).getD 0:Nat):Int),.int (p:Int))) [])) (.int (g:Int))=.ok (.int (p:Int)):=λg=>by
   by_cases hg:g∈G
   ·have h0:=cnt g hg
    unfold cW at h0
    obtain⟨x,hx⟩:=List.exists_mem_of_length_pos h0
    obtain⟨hx1,hx2⟩:=cP.mp hx
    have e0:=rY ok.1 (show(x.1,x.2)∈c from hx1)
    have hx2:x.2=g:=by simpa using hx2
    have:=Dy ((c.map (·.1)).map λ(p:Nat)=>(.inl (((aM c p).getD 0:Nat):Int),.int (p:Int))) [] (.inl (g:Int)) (.inl (bJ.mpr ⟨(.inl (g:Int),.int (x.1:Int)),bJ.mpr ⟨x.1,bJ.mpr ⟨x,hx1,rfl⟩,by rw[e0,hx2];rfl⟩,rfl⟩))
    obtain⟨v,hv⟩:=La.mp this
    rcases EC _ _ _ _ hv with z|z
    ·obtain⟨p,hp,e⟩:=bJ.mp z
     obtain⟨y,hy,rfl⟩:=bJ.mp hp
     have e2:=rY ok.1 (show(y.1,y.2)∈c from hy)
     rw[e2]at e
     cases e
     exact⟨y.1,λ_=>⟨e2,by rw[qE,qD,Res.ok_bind,hv];rfl⟩⟩
    ·cases z
   ·exact⟨0,λz=>absurd z hg⟩
  generalize D.dct (eR ((c.map (·.1)).map λ(p:Nat)=>(.inl (((aM c p).getD 0:Nat):Int),.int (p:Int))) [])=PL at *
  have full:sA G ch (λg=>(has g).choose):=by
   refine⟨λg hg=>ok.2 _ _ ((has g).choose_spec hg).1,λg hg g' hg' e=>?_⟩
   have h1:=((has g).choose_spec hg).1
   have h2:=((has g').choose_spec hg').1
   have e:(has g).choose=(has g').choose:=e
   rw[e,h2]at h1
   cases h1;rfl
  have hf:∀g∈G,D.ix PL (.int (g:Int))=.ok (.int ((has g).choose:Int)):=λg hg=>((has g).choose_spec hg).2
  refine⟨_,.cov _ full,?_⟩
  generalize hff:(λg=>(has g).choose)=f at *
  have hf:∀g∈G,D.ix PL (.int (g:Int))=.ok (.int (f g:Int)):=λg hg=>by rw[hf g hg,<-hff]
  have c3:∀x0 x1 x2 x3 x4 x5 x6 x7 x8,aR (aG T (aB T dfs (m+7)) 1 [9] (.one 0) wO (.con (.bl true)) [x0,x1,x2,x3,x4,x5,x6,x7,x8,.v PL]) (aA G)=.ok (G.map (dX f)):=λx0 x1 x2 x3 x4 x5 x6 x7 x8=>by
   show aR _ (G.map λ(i:Nat)=>D.int (i:Int))=_
   rw[cC (λ(i:Nat)=>D.int (i:Int)) (λ(g:Nat)=>some (dX f g)) (λg hg=>by
    have e:=hf g hg
    unfold dX
    simp[aG,Tr.aQ,wO,e]),eZ]
  have ks:=K0 c
  have lc:(aA (c.map (·.1))).length<=big:=by
   have:=gI sm.cn sm.cu
   rw[bQ]at this
   rw[cE];lia
  refine bW (k:=false) rfl rfl rfl ?_
  simp only[stE]at lo
  generalize D.lst (aA cs)=z2 at *
  generalize aA G=g2 at *
  generalize (G.map λ(g:Nat)=>D.tup [.int (g:Int),.lst (aA (ch g))])=g3 at *
  generalize aA (c.map (·.1))=g4 at *
  generalize ((c.map (·.1)).map λ(p:Nat)=>D.tup [.int (((aM c p).getD 0:Nat):Int),.int (p:Int)])=g5 at *
  generalize G.map (dX f)=g6 at *
  simp[qZ,e1,lg,c1,p1,lo,ks,lc,c2,p2,c3]
noncomputable abbrev psV(P:List Part)(S:List Scene):List (Nat×Nat):=(pairsOf P.length).filter λp=>(eJ P S p.1 p.2).isSome
theorem ED(n:Nat)(P:List Part)(Q:List Player)(S:List Scene)(Y Z:D)(hp:P.length<=8)(hs:S.length<=24)(hv:∀p∈P,(gG p.voice).length=1)(cs:List (Option Nat))(hl:cs.length=P.length)(hc:∀j,some j∈cs->j<Q.length) :
 aB T dfs (n+6) 8 [.tup [.tup (P.map Part.enc),.tup (Q.map Player.enc),.tup (S.map Scene.enc),Y,Z],.lst (cs.map bH)]=.ok (.lst ((fQ P Q (psV P S) cs).map Flt.enc)):=by
 refine KE n P Q S Y Z hp hs hv cs hl hc (psV P S) (λp hx=>?_) ?_ (KB n _ _ _ P S hs hp)
 ·have:=vS (cP.mp hx).1
  exact⟨by lia,this.2⟩
 ·have h1:=vT P.length P.length
  have h2:=Lz hp hp
  exact bV (fJ ..) (bV h1 (by lia))
theorem EE(cs:List Nat):aA cs=(cs.map some).map bH:=by unfold aA;rw[cG];rfl
theorem yL{cs:List Nat}{i:Nat}(h:i<cs.length):(cs.map some).getD i none=some (cA cs i):=by
 unfold cA
 rw[eU,bK,eU,aX h];rfl
theorem EF{f:Nat->Nat}:∀{l:List Nat},(l.map f).Nodup->∀{x y:Nat},x∈l->y∈l->f x=f y->x=y
 |a::r,nd,x,y,hx,hy,e=>by
  rw[aK,eK]at nd
  rcases aO.mp hx with h1|h1<;>rcases aO.mp hy with h2|h2
  ·rw[h1,h2]
  ·exact absurd (bJ.mpr ⟨y,h2,by rw[<-e,h1]⟩) nd.1
  ·exact absurd (bJ.mpr ⟨x,h1,by rw[e,h2]⟩) nd.1
  ·exact EF nd.2 h1 h2 e
theorem K5{ss:List Scene}(g:∀s∈ss,0<=s.len/\0<=s.pause){s t:Nat}(hs:s<ss.length):ss[s].pause<=jA ss s t:=by
 unfold jA
 rw[aX hs]
 have:∀l:List Scene,(∀x∈l,x∈ss)->0<=(l.map Scene.both).sum:=λl=>by
  induction l with
  |nil=>intro _;exact Int.le_refl _
  |cons a r ih=>
   intro h
   have h1:=g a (h a bF)
   have h2:=ih λx hx=>h x (bB _ hx)
   rw[aK,List.sum_cons]
   unfold Scene.both
   unfold Scene.both at h2
   lia
 have:=this ((ss.drop (s+1)).take (t-(s+1))) λx hx=>zC (zB hx)
 show ss[s].pause<=ss[s].pause+_
 lia
theorem K6{ps:List Part}{ss:List Scene}(g:∀s∈ss,0<=s.len/\0<=s.pause)(hl:∀s∈ss,60<=s.pause)(hp:∀p∈ps,p.off<=30/\p.on<=30){i j:Nat}(h:(eJ ps ss i j).isSome=true):∃s∈ss,i∈s.who/\j∈s.who:=by
 have need:∀i j,gE ps i j<=60:=by
  intro i j
  unfold gE
  have a:((ps[i]?).map Part.off).getD 0<=30:=by
   cases e:ps[i]? with
   |none=>exact(by decide:(0:Int)<=30)
   |some p=>exact(hp p (gW e)).1
  have b:((ps[j]?).map Part.on).getD 0<=30:=by
   cases e:ps[j]? with
   |none=>exact(by decide:(0:Int)<=30)
   |some p=>exact(hp p (gW e)).2
  lia
 have noshort:∀s i j,(jB ps ss s i j).isSome=true->False:=by
  intro s i j h
  obtain⟨t,h1,h2,h3,h4⟩:=short_some.mp h
  have hs:s<ss.length:=by lia
  have:=K5 g (t:=t) hs
  have:=hl ss[s] (eF hs)
  have:=need i j
  lia
 obtain⟨s,h1,h2⟩:=reason_some.mp h
 rcases from_some.mp h2 with h|⟨_,h',_⟩|⟨_,h',_⟩
 ·refine⟨ss[s],eF h1,?_⟩
  rw[vQ h1]at h
  exact h
 all_goals exact(noshort _ _ _ (by assumption)).elim
structure Stage(P:List Part)(Q:List Player)(S:List Scene)(cs:List Nat)(cv:List (Nat×Nat)):Prop where
 hp:P.length<=6
 hq:Q.length<=5
 hs:S.length<=6
 one:∀p∈P,(gG p.voice).length=1
 good:∀s∈S,GoodScene P.length s
 len:cs.length=P.length
 lt:∀j∈cs,j<Q.length
 none:fQ P Q (psV P S) (cs.map some)=[]
 cov:yH cv Q
theorem K7{P:List Part}{Q:List Player}{S:List Scene}{cs:List Nat}{cv:List (Nat×Nat)}(h:Made P Q S cs cv):fQ P Q (psV P S) (cs.map some)=[]:=by
 unfold fQ
 rw[List.append_eq_nil_iff]
 constructor
 ·rw[List.filterMap_eq_nil_iff]
  intro k hk
  rw[aF]at hk
  have hk:=bO.mp hk
  unfold eX
  rw[yL hk]
  have:=h.may k (by rw[<-h.len];exact hk)
  simp[this]
 ·rw[List.map_eq_nil_iff,List.filter_eq_nil_iff]
  intro p hp
  obtain⟨h1,h2⟩:=cP.mp hp
  have hlt:=vS h1
  obtain⟨s,hs,hw⟩:=K6 (λs hs=>⟨(h.good s hs).len,(h.good s hs).pause⟩) h.long (λq hq=>⟨(h.dress q hq).2.1,(h.dress q hq).2.2.2⟩) h2
  unfold gH
  rw[yL (by rw[h.len];lia),yL (by rw[h.len];lia)]
  intro hz
  simp at hz
  have:=EF (h.own s hs) hw.1 hw.2 hz
  lia
theorem Made.stage{P:List Part}{Q:List Player}{S:List Scene}{cs:List Nat}{cv:List (Nat×Nat)}(h:Made P Q S cs cv):Stage P Q S cs cv:=⟨h.hp,h.hq,h.hs,h.one,h.good,h.len,h.lt,K7 h,h.cov⟩
theorem sl_to{S:List Scene}{a:Nat}(ha:a<=S.length):D.sl (.tup (S.map Scene.enc)) none (some (a:Int))=.ok (.tup ((S.take a).map Scene.enc)):=by
 show Res.ok (D.tup (cut (S.map Scene.enc) none (some (a:Int))))=_
 rw[D5 (by rw[aF];exact ha),sM]
theorem K8{S:List Scene}{a:Nat}(ha:a<=S.length):D.sl (.tup (S.map Scene.enc)) (some (a:Int)) none=.ok (.tup ((S.drop a).map Scene.enc)):=by
 show Res.ok (D.tup (cut (S.map Scene.enc) (some (a:Int)) none))=_
 rw[D4 (by rw[aF];exact ha),sN]
theorem EG{a b:List D}(h:a.length+b.length<=1000):D.bin .Add (.tup a) (.tup b)=.ok (.tup (a++b)):=by
 have hb:=bI
 show aE (decide (a.length+b.length<=big)) _=_
 rw[aZ (decide_eq_true (by lia))]
noncomputable def dY(S:List Scene)(a:Nat)(h:a<S.length):List Scene:=S.take a++(⟨S[a].name,S[a].len,0,S[a].who⟩::S.drop (a+1))
theorem K9(n:Nat)(b0:List D)(B1 L C:D)(S:List Scene)(hs:S.length<=6){a:Nat}(ha:a<S.length):aB T dfs (n+1) 23 [.tup [.tup b0,B1,.tup (S.map Scene.enc),L,C],.int (a:Int)]=.ok (.tup [.tup b0,B1,.tup ((dY S a ha).map Scene.enc),L,C]):=by
 have e1:D.ix (.tup (S.map Scene.enc)) (.int (a:Int))=.ok (.tup [.str S[a].name,.int S[a].len,.int S[a].pause,.tup (aA S[a].who)]):=rW ha
 have s1:=sl_to (S:=S) (a:=a) (by lia)
 have s2:=K8 (S:=S) (a:=a+1) (by lia)
 rw[show((a+1:Nat):Int)=(a:Int)+1 by lia]at s2
 have p1:D.part (.int (a:Int))=.ok (some (a:Int)):=rfl
 have p2:D.part (.int ((a:Int)+1))=.ok (some ((a:Int)+1)):=rfl
 have p3:D.part (.int 2)=.ok (some 2):=rfl
 have p4:D.part (.int 3)=.ok (some 3):=rfl
 have p5:D.part .non=.ok none:=rfl
 have a1:=EG (a:=(S.take a).map Scene.enc) (b:=[.tup [.str S[a].name,.int S[a].len,.int 0,.tup (aA S[a].who)]]) (by rw[aF,kN,fG];lia)
 have a2:=EG (a:=(S.take a).map Scene.enc++[.tup [.str S[a].name,.int S[a].len,.int 0,.tup (aA S[a].who)]]) (b:=(S.drop (a+1)).map Scene.enc) (by rw[bR,aF,kN,fG,aF,sH];lia)
 rw[show(S.take a).map Scene.enc++[.tup [.str S[a].name,.int S[a].len,.int 0,.tup (aA S[a].who)]]++(S.drop (a+1)).map Scene.enc=(dY S a ha).map Scene.enc by unfold dY;rw[dF,kQ];rfl]at a2
 have t1:∀z,D.sl (.tup [.tup b0,B1,z,L,C]) none (some 2)=.ok (.tup [.tup b0,B1]):=λ_=>rfl
 have t2:∀z,D.sl (.tup [.tup b0,B1,z,L,C]) (some 3) none=.ok (.tup [L,C]):=λ_=>rfl
 have t3:∀z,D.bin .Add (.tup [.tup b0,B1]) (.tup [z])=.ok (.tup [.tup b0,B1,z]):=λ_=>rfl
 have t4:∀z,D.bin .Add (.tup [.tup b0,B1,z]) (.tup [L,C])=.ok (.tup [.tup b0,B1,z,L,C]):=λ_=>rfl
 have ad:D.bin .Add (.int (a:Int)) (.int 1)=.ok (.int ((a:Int)+1)):=rfl
 refine bW (k:=true) rfl rfl rfl ?_
 generalize (dY S a ha).map Scene.enc=out at *
 generalize (S.take a).map Scene.enc++[.tup [.str S[a].name,.int S[a].len,.int 0,.tup (aA S[a].who)]]=mid at *
 generalize (S.take a).map Scene.enc=st at *
 generalize (S.drop (a+1)).map Scene.enc=sd at *
 generalize S.map Scene.enc=ss at *
 generalize aA S[a].who=ww at *
 simp[-sl_t,xG,e1,s1,s2,p1,p2,p3,p4,p5,a1,a2,t1,t2,t3,t4,ad]
theorem EH{S:List Scene}{a:Nat}(h:a<S.length):(dY S a h).length=S.length:=by
 unfold dY
 rw[bR,aP,kN,sH];lia
theorem K_{S:List Scene}{a m:Nat}(h:a<S.length)(hg:∀s∈S,GoodScene m s):∀s∈dY S a h,GoodScene m s:=λs hs=>by
 rcases eY.mp hs with z|z
 ·exact hg s (zB z)
 ·rcases aO.mp z with z|z
  ·have:=hg S[a] (eF h)
   rw[z]
   exact⟨this.len,Int.le_refl _,this.nd,this.lt⟩
  ·exact hg s (zC z)
theorem ask_ok(n:Nat)(b c:D)(h:aB T dfs (n+6) 8 [b,c]=.ok (.lst [])):aB T dfs (n+7) 9 [b,c]=.ok .non:=by
 refine Jf (e:=[.v b,.v c]) rfl rfl rfl ?_
 have q:D.cmp .NotEq (.lst []) (.lst [])=.ok (.bl false):=rfl
 simp[wG,h,q]
theorem nX{S:List Scene}:Bt.run .len [.tup (S.map Scene.enc)]=.ok (.int (S.length:Nat)):=by
 show Res.ok (D.int ((S.map Scene.enc).length:Nat))=_
 rw[aF]
theorem EI{Q:List Player}:Bt.run .len [.tup (Q.map Player.enc)]=.ok (.int (Q.length:Nat)):=by
 show Res.ok (D.int ((Q.map Player.enc).length:Nat))=_
 rw[aF]
theorem mem_cover{cv:List (Nat×Nat)}{cs aw:List Nat}{s:Scene}{g p:Nat}:p∈dW cv cs aw s g↔(g,p)∈cv/\p∉aw/\p∉cL cs s:=by
 unfold dW
 rw[cP,sortN_mem,bJ]
 constructor
 ·rintro⟨⟨x,hx,rfl⟩,h2⟩
  obtain⟨h3,h4⟩:=cP.mp hx
  have h4:x.1=g:=by simpa using h4
  rw[<-h4]
  simp at h2
  exact⟨h3,h2⟩
 ·rintro⟨h1,h2⟩
  exact⟨⟨(g,p),cP.mpr ⟨h1,by simp⟩,rfl⟩,by simpa using h2⟩
noncomputable abbrev bkS(P:List Part)(Q:List Player)(S:List Scene)(cv:List (Nat×Nat)):D:=.tup [.tup (P.map Part.enc),.tup (Q.map Player.enc),.tup (S.map Scene.enc),.tup [],.tup (cv.map prD)]
theorem in_prD(p:Nat×Nat)(cv:List (Nat×Nat)):D.cmp .In (.tup [.int (p.1:Int),.int (p.2:Int)]) (.tup (cv.map prD))=.ok (.bl (decide (p∈cv))):=by
 show(do let k<-aE (D.pls 30 (cv.map prD)&&D.pl 29 (prD p)) (.ok (D.mem (prD p) (cv.map prD)));.ok (D.bl k))=_
 rw[aZ (by rw[nI prD 29 (λ_=>by rfl) cv];rfl)]
 refine congrArg (λb=>Res.ok (D.bl b)) ?_
 induction cv with
 |nil=>rfl
 |cons x r ih=>
  show(D.eqb (prD x) (prD p)||D.mem (prD p) (r.map prD))=_
  rw[ih]
  have e:D.eqb (prD x) (prD p)=decide (p=x):=by
   show(((x.1:Int)==(p.1:Int))&&(((x.2:Int)==(p.2:Int))&&true))=_
   by_cases z:p=x
   ·rw[decide_eq_true z,z];simp
   ·rw[decide_eq_false z]
    by_cases z1:x.1=p.1
    ·have z2:x.2≠p.2:=λq=>z (Prod.ext z1.symm q.symm)
     rw[show((x.2:Int)==(p.2:Int))=false by rw[beq_eq_false_iff_ne];lia];simp
    ·rw[show((x.1:Int)==(p.1:Int))=false by rw[beq_eq_false_iff_ne];lia];simp
  rw[e]
  by_cases h1:p=x
  ·rw[decide_eq_true h1,Bool.true_or,decide_eq_true (p:=p∈x::r) (by rw[h1];exact bF)]
  ·rw[decide_eq_false h1,sI]
   by_cases h2:p∈r
   ·rw[decide_eq_true h2,decide_eq_true (bB _ h2)]
   ·rw[decide_eq_false h2,decide_eq_false (λz=>by rcases aO.mp z with q|q;exact h1 q;exact h2 q)]
theorem EJ:∀{a b:List Nat},a.Pairwise (· < ·)->b.Pairwise (· < ·)->(∀x,x∈a↔x∈b)->a=b
 |[],[],_,_,_=>rfl
 |[],y::s,_,_,h=>by have:=(h y).mpr bF;cases this
 |x::r,[],_,_,h=>by have:=(h x).mp bF;cases this
 |x::r,y::s,h1,h2,h=>by
  rw[jT]at h1 h2
  have e:x=y:=by
   rcases aO.mp ((h x).mp bF)with z|z
   ·exact z
   ·rcases aO.mp ((h y).mpr bF)with w|w
    ·exact w.symm
    ·have:=h2.1 x z;have:=h1.1 y w;lia
  subst e
  rw[EJ h1.2 h2.2 λz=>⟨λhz=>?_,λhz=>?_⟩]
  ·rcases aO.mp ((h z).mp (bB _ hz))with w|w
   ·have:=h1.1 z hz;lia
   ·exact w
  ·rcases aO.mp ((h z).mpr (bB _ hz))with w|w
   ·have:=h2.1 z hz;lia
   ·exact w
theorem EK:∀{l:List Int} {n:Int},l.Pairwise (· < ·)->n∉l->(fC n l).Pairwise (· < ·)
 |[],n,_,_=>by rw[fC];exact Lv _ _
 |m::r,n,h,hn=>by
  have h':=jT.mp h
  rw[fC]
  have ne:n≠m:=λz=>hn (z▸bF)
  by_cases c:n<=m
  ·rw[if_pos c]
   refine jT.mpr ⟨λx hx=>?_,h⟩
   rcases aO.mp hx with z|z
   ·lia
   ·have:=h'.1 x z;lia
  ·rw[if_neg c]
   refine jT.mpr ⟨λx hx=>?_,EK h'.2 λz=>hn (bB _ z)⟩
   rcases(yI _ _ _).mp hx with z|z
   ·lia
   ·exact h'.1 x z
theorem EM:∀{l:List Int},l.Nodup->(dR l).Pairwise (· < ·)
 |[],_=>iL.nil
 |n::r,h=>by
  rw[eK]at h
  rw[dR]
  exact EK (EM h.2) λz=>h.1 ((kJ _ _).mp z)
theorem Ka{l:List Nat}(h:l.Nodup):(cH l).Pairwise (· < ·):=by
 unfold cH
 rw[zF]
 refine iL.imp_of_mem (λ{a b} ha hb hab=>?_) (EM (l:=l.map λ(n:Nat)=>(n:Int)) ?_)
 ·obtain⟨x,_,rfl⟩:=bJ.mp ((kJ _ _).mp ha)
  obtain⟨y,_,rfl⟩:=bJ.mp ((kJ _ _).mp hb)
  lia
 ·rw[Eu,zF]
  exact iL.imp (λ{a b} z=>by lia) h
noncomputable def setV(l:List Nat):List Nat:=(aD 8).filter λi=>decide (i∈l)
theorem lP{l:List Nat}(h:∀x∈l,x<8){x:Nat}:x∈setV l↔x∈l:=by
 unfold setV
 rw[cP,bO,decide_eq_true_eq]
 exact⟨λz=>z.2,λz=>⟨h x z,z⟩⟩
theorem Kb(l:List Nat):(setV l).Pairwise (· < ·):=iL.filter _ Lk
theorem sC{l:List Nat}(nd:l.Nodup)(h:∀x∈l,x<8):cH l=setV l:=EJ (Ka nd) (Kb l) λx=>by rw[sortN_mem,lP h]
theorem EN{a b:List Nat}(h:∀x,x∈a↔x∈b):setV a=setV b:=by
 unfold setV
 refine En λx _=>?_
 by_cases z:x∈a
 ·rw[decide_eq_true z,decide_eq_true ((h x).mp z)]
 ·rw[decide_eq_false z,decide_eq_false λw=>z ((h x).mpr w)]
theorem EO{l:List Nat}(h:∀x∈l,x<8):oN (.lst (aA l))=.ok (.lst (aA (setV l))):=by
 show(do let ns<-cN (aA l);aE (ns.all λn=>decide (0<=n)&&decide (n<8)) (.ok (D.lst (oM ns))))=_
 rw[rX,Res.ok_bind,aZ (by
  rw[Eo,dN]
  intro x hx
  have:=h x hx
  show(decide ((0:Int)<=(x:Int))&&decide ((x:Int)<8))=true
  rw[decide_eq_true (by lia),decide_eq_true (by lia)];rfl)]
 refine congrArg (λz=>Res.ok (D.lst z)) ?_
 unfold oM aA setV
 refine congrArg (zH λi:Nat=>D.int (i:Int)) (En λx _=>?_)
 by_cases z:x∈l
 ·rw[decide_eq_true z]
  exact jQ.mpr (bJ.mpr ⟨x,z,rfl⟩)
 ·rw[decide_eq_false z]
  rw[Ls]
  intro w
  obtain⟨y,hy,e⟩:=bJ.mp (jQ.mp w)
  exact z (by rw[<-Int.ofNat.inj e];exact hy)
theorem ER(l:List Nat):D.cmp .NotEq (.lst (aA l)) (.lst (aA l))=.ok (.bl false):=qI (by rw[qH];exact iZ 29 l)
theorem ES(l:List Nat):D.cmp .Eq (.lst (aA l)) (.lst (aA l))=.ok (.bl true):=by
 have pl:D.pl 30 (.lst (aA l))=true:=by rw[qH];exact iZ 29 l
 show aE (D.eqOk _ _) (.ok (D.bl (D.eqb _ _)))=_
 rw[aZ (by unfold D.eqOk;rw[pl];rfl),D.eqb_refl 30 _ pl]
theorem ET:∀g:List Nat,iR (aA g)=.ok (g.map λi:Nat=>(Sum.inl (i:Int):Sum Int Str))
 |[]=>rfl
 |a::r=>by
  show iR (.int (a:Int)::aA r)=_
  rw[iR,ET r];rfl
theorem Kc{l:List Nat}(h:l.Nodup)(hl:l.length<=100):D.setN (.lst (aA l))=.ok (.int (l.length:Nat)):=by
 rw[J1 (x:=.lst (aA l)) (ks:=l.map λi:Nat=>(Sum.inl (i:Int):Sum Int Str)) (ET l),aZ (by rw[aF];exact decide_eq_true (by lia)),Jm,aF]
 rw[Eu,zF]
 exact iL.imp (λ{a b} z e=>z (by injection e with e;lia)) h
theorem yM(l:List Nat):Bt.run .len [.lst (aA l)]=.ok (.int (l.length:Nat)):=by
 show Res.ok (D.int ((aA l).length:Nat))=_
 rw[cE]
section
variable{P:List Part}{Q:List Player}{S:List Scene}{cs aw:List Nat}{cv:List (Nat×Nat)}
theorem EU(st:Stage P Q S cs cv)(n:Nat):aB T dfs (n+7) 9 [bkS P Q S cv,.lst (aA cs)]=.ok .non:=by
 have hs6:=st.hs
 have hp6:=st.hp
 refine ask_ok n _ _ ?_
 have f:=ED n P Q S (.tup []) (.tup (cv.map prD)) (by lia) (by lia) st.one (cs.map some) (by rw[aF];exact st.len) (λj hj=>by
  obtain⟨y,hy,e⟩:=bJ.mp hj
  cases e
  exact st.lt _ hy)
 rw[st.none,<-EE]at f
 exact f
theorem EV(st:Stage P Q S cs cv){A:D}(hA:jE A aw)(m:Nat){k:Nat}(hk:k<S.length):∃d,Told (bZ cs aw S[k]) (dW cv cs aw S[k]) d/\aB T dfs (m+8) 13 [bkS P Q S cv,.lst (aA cs),A,.int (k:Int)]=.ok d:=by
 have:=st.hq
 have:=st.hp
 exact K3 m (.tup (P.map Part.enc)) (.tup (Q.map Player.enc)) (.tup []) S cv st.cov.1 Q.length (by lia) st.cov.2 cs aw A hA (λs hs=>by rw[st.len];exact st.good s hs) (by rw[st.len];lia) k hk
noncomputable def dJ(Q:List Player)(cv:List (Nat×Nat))(cs aw:List Nat)(s:Scene)(p:Nat):List Nat:=(aD Q.length).filter λj=>decide ((p,j)∈cv)&&!decide (j∈aw++cL cs s)
theorem yN(hc:yH cv Q){s:Scene}{p j:Nat}:j∈dJ Q cv cs aw s p↔j∈dW cv cs aw s p:=by
 rw[mem_cover]
 unfold dJ
 rw[cP,bO]
 simp
 intro h _ _
 exact hc.2 _ h
theorem yO(st:Stage P Q S cs cv){k:Nat}(hk:k<S.length):S[k].who.length<=6:=
 bV (gI (st.good S[k] (eF hk)).nd (U:=aD P.length) λx hx=>bO.mpr ((st.good S[k] (eF hk)).lt x hx)) (by rw[bQ];exact st.hp)
theorem EW(st:Stage P Q S cs cv)(hw:aw.length<=5)(n:Nat){k:Nat}(hk:k<S.length)(p:Nat):aB T dfs (n+1) 24 [bkS P Q S cv,.lst (aA cs),.lst (aA aw),S[k].enc,.int (p:Int)]=.ok (.lst (aA (dJ Q cv cs aw S[k] p))):=by
 have hb:=bI
 have gs:=st.good S[k] (eF hk)
 have hq:=st.hq
 have w8:=yO st hk
 have c1:∀a0 a2 a3 a4 a5,aR (aG T (aB T dfs n) 1 [1] (.one 0) xH (.con (.bl true)) [a0,.v (.lst (aA cs)),a2,a3,a4,a5]) (aA S[k].who)=.ok (aA (cL cs S[k])):=λa0 a2 a3 a4 a5=>by
  unfold cL
  show aR _ (S[k].who.map λ(i:Nat)=>D.int (i:Int))=_
  rw[cC (λ(i:Nat)=>D.int (i:Int)) (λ(i:Nat)=>some (D.int (cA cs i:Int))) (λi hi=>by
   have e1:=cast_at (cs:=cs) (by rw[st.len];exact gs.lt i hi)
   generalize aA cs=nc at *
   simp[aG,Tr.aQ,xH,e1]),eZ]
  unfold aA
  rw[cG];rfl
 have ad:D.bin .Add (.lst (aA aw)) (.lst (aA (cL cs S[k])))=.ok (.lst (aA (aw++cL cs S[k]))):=by
  show aE (decide ((aA aw).length+(aA (cL cs S[k])).length<=big)) (.ok (D.lst (aA aw++aA (cL cs S[k]))))=_
  rw[aZ (decide_eq_true (by rw[cE,cE];unfold cL;rw[aF];lia))]
  unfold aA
  rw[dF]
 have c2:aR (aG T (aB T dfs n) 1 [4,0,2,5] (.one 0) xJ xI [.v (bkS P Q S cv),.v (.lst (aA cs)),.v (.lst (aA aw)),.v S[k].enc,.v (.int (p:Int)),.v (.lst (aA (cL cs S[k])))]) ((aD Q.length).map aC)=.ok (aA (dJ Q cv cs aw S[k] p)):=by
  refine nJ aC _ λj _=>?_
  have q1:=in_prD (p,j) cv
  have q2:=(nW (aw++cL cs S[k]) j).2
  dsimp only at q1
  simp only[bkS]
  generalize decide ((p,j)∈cv)=b1 at *
  generalize decide (j∈aw++cL cs S[k])=b2 at *
  generalize D.lst (aA (aw++cL cs S[k]))=ab at *
  generalize D.lst (aA aw)=na at *
  generalize D.lst (aA (cL cs S[k]))=nb at *
  generalize cv.map prD=cc at *
  generalize S[k].enc=sk at *
  cases b1<;>cases b2<;>simp[aG,Tr.aQ,xJ,xI,aC,q1,ad,q2]
 have rg:=eE (n:=Q.length) (by lia)
 have ln:=EI (Q:=Q)
 have l1:((aD Q.length).map aC).length<=big:=by rw[aF,bQ];lia
 have l2:(aA S[k].who).length<=big:=by rw[cE];lia
 have e1:D.ix S[k].enc (.int 3)=.ok (.tup (aA S[k].who)):=rfl
 refine bW (k:=true) rfl rfl rfl ?_
 simp only[bkS]at c2⊢
 generalize aA (dJ Q cv cs aw S[k] p)=out at *
 generalize aA (cL cs S[k])=bz at *
 generalize aA S[k].who=ww at *
 generalize S[k].enc=sk at *
 generalize (aD Q.length).map aC=rr at *
 generalize Q.map Player.enc=qe at *
 simp[xK,e1,ln,rg,l1,l2,c1,c2]
end
section
variable{P:List Part}{Q:List Player}{S:List Scene}{cs aw:List Nat}{cv:List (Nat×Nat)}
theorem EX{cf:Nat->List D->Res D}{e c:E}{env:Nv}(st:Stage P Q S cs cv){k:Nat}(hk:k<S.length)(h:∀(i:Nat)(b:Bool),D.ix (.lst (aA cs)) (.int (i:Int))=.ok (.int (cA cs i:Int))->D.cmp .In (.int (cA cs i:Int)) (.lst (aA aw))=.ok (.bl b)->aG T cf 1 [2,1] (.one 0) e c env (.int (i:Int))=.ok (if b=true then some (.int (i:Int))else none)) :
 aR (aG T cf 1 [2,1] (.one 0) e c env) (aA S[k].who)=.ok (aA (bZ cs aw S[k])):=by
 refine nJ (λ(i:Nat)=>D.int (i:Int)) _ λi hi=>?_
 have gs:=st.good S[k] (eF hk)
 exact h i _ (cast_at (by rw[st.len];exact gs.lt i hi)) (nW aw (cA cs i)).1
theorem Kd(st:Stage P Q S cs cv)(hw:aw.length<=5)(n:Nat){k:Nat}(hk:k<S.length){f:Nat->Nat}(hf:sA (bZ cs aw S[k]) (dW cv cs aw S[k]) f) :
 aB T dfs (n+2) 25 [bkS P Q S cv,.lst (aA cs),.lst (aA aw),S[k].enc,.tup [.str "covered", .lst ((bZ cs aw S[k]).map (dX f))]]=.ok (.bl true):=by
 have hb:=bI
 have e1:D.ix S[k].enc (.int 3)=.ok (.tup (aA S[k].who)):=rfl
 have w8:=yO st hk
 have gn:(bZ cs aw S[k]).Nodup:=iL.filter _ (st.good S[k] (eF hk)).nd
 have gl:(bZ cs aw S[k]).length<=8:=bV (fJ ..) (by lia)
 have c1:∀a0 a3 a4 a5 a6 a7 a8,aR (aG T (aB T dfs (n+1)) 1 [2,1] (.one 0) nU nT [a0,.v (.lst (aA cs)),.v (.lst (aA aw)),a3,a4,a5,a6,a7,a8]) (aA S[k].who)=.ok (aA (bZ cs aw S[k])):=λa0 a3 a4 a5 a6 a7 a8=>
  EX st hk λi b h1 h2=>by
   generalize D.lst (aA cs)=nc at *
   generalize D.lst (aA aw)=na at *
   cases b<;>simp[aG,Tr.aQ,nU,nT,h1,h2]
 have my:=λg=>EW (aw:=aw) st hw n hk g
 have mm:=λg p=>yN (cs:=cs) (aw:=aw) st.cov (s:=S[k]) (p:=g) (j:=p)
 generalize bZ cs aw S[k]=G at *
 have c2:∀env,aR (aG T (aB T dfs (n+1)) 1 [] (.one 0) xN (.con (.bl true)) env) (G.map (dX f))=.ok (aA G):=λenv=>by
  rw[cC (dX f) (λ(g:Nat)=>some (.int (g:Int))) (λg _=>by unfold dX;simp[aG,Tr.aQ,xN]),eZ];rfl
 have c3:∀env,aR (aG T (aB T dfs (n+1)) 1 [] (.one 0) xM (.con (.bl true)) env) (G.map (dX f))=.ok (aA (G.map f)):=λenv=>by
  rw[cC (dX f) (λ(g:Nat)=>some (.int (f g:Int))) (λg _=>by unfold dX;simp[aG,Tr.aQ,xM]),eZ]
  unfold aA
  rw[cG];rfl
 have c5:∀a4 a5 a6 a7 a8,aR (aG T (aB T dfs (n+1)) 1 [0,1,2,3] (.one 0) xP xO [.v (bkS P Q S cv),.v (.lst (aA cs)),.v (.lst (aA aw)),.v S[k].enc,a4,a5,a6,a7,a8]) (G.map (dX f))=.ok []:=λa4 a5 a6 a7 a8=>by
  rw[cC (dX f) (λ_=>none) (λg hg=>by
   have e:=my g
   have q:=(nW (dJ Q cv cs aw S[k] g) (f g)).2
   rw[decide_eq_true ((mm g (f g)).mpr (hf.1 g hg))]at q
   unfold dX
   generalize D.lst (aA (dJ Q cv cs aw S[k] g))=ml at *
   generalize D.lst (aA cs)=nc at *
   generalize D.lst (aA aw)=na at *
   generalize bkS P Q S cv=BK at *
   generalize S[k].enc=sk at *
   simp[aG,Tr.aQ,xP,xO,e,q])]
  simp
 have n1:=ER G
 have n2:=Kc (rZ gn hf.2) (by rw[aF];lia)
 have n3:=yM (G.map f)
 have n4:D.cmp .NotEq (.lst []) (.lst [])=.ok (.bl false):=rfl
 have n5:D.cmp .Eq (.lst []) (.lst [])=.ok (.bl true):=rfl
 have n6:D.cmp .Lt (.int ((G.map f).length:Nat)) (.int ((G.map f).length:Nat))=.ok (.bl false):=by
  show Res.ok (D.bl (decide (((G.map f).length:Int)<((G.map f).length:Int))))=_
  rw[decide_eq_false (by lia)]
 have l1:(G.map (dX f)).length<=big:=by rw[aF];lia
 have l2:(aA S[k].who).length<=big:=by rw[cE];lia
 have t1:D.isTy (.lst (G.map (dX f))) .list=true:=rfl
 have t2:D.isDct (.lst (G.map (dX f)))=false:=rfl
 have t3:∀l,D.isTy (.tup l) .tuple=true:=λ_=>rfl
 have t4:∀l,D.isDct (.tup l)=false:=λ_=>rfl
 have n7:D.cmp .Eq (.str "covered") (.str "covered")=.ok (.bl true):=rfl
 refine bW (k:=false) rfl rfl rfl ?_
 clear hf my mm
 simp only[bkS]at c5⊢
 generalize G.map (dX f)=rw0 at *
 generalize ((G.map f).length:Nat)=ln at *
 generalize aA (G.map f)=pl at *
 generalize aA G=ng at *
 generalize aA S[k].who=ww at *
 generalize aA cs=nc at *
 generalize aA aw=na at *
 generalize S[k].enc=sk at *
 generalize S.map Scene.enc=ss at *
 simp[rO,e1,l2,c1,t1,t2,t3,t4,n7,l1,c2,n1,c3,n2,n3,n6,c5,n5]
theorem EY(st:Stage P Q S cs cv)(hw:aw.length<=5)(n:Nat){k:Nat}(hk:k<S.length)(x4 x5 x6:Sl):∀(r acc:List Nat)(x7:Sl),acc.length+r.length*6<=900 ->
 ∃y7,bC (aS T (aB T dfs (n+1)) (.one 8) xQ) (aA r) [.v (bkS P Q S cv),.v (.lst (aA cs)),.v (.lst (aA aw)),.v S[k].enc,x4,x5,x6,.v (.lst (aA acc)),x7]=.ok (.nx [.v (bkS P Q S cv),.v (.lst (aA cs)),.v (.lst (aA aw)),.v S[k].enc,x4,x5,x6,.v (.lst (aA (acc++r.flatMap (dJ Q cv cs aw S[k])))),y7])
 |[],acc,x7,_=>⟨x7,by rw[MD,lR];rfl⟩
 |g::r,acc,x7,h=>by
  have hb:=bI
  rw[aP]at h
  have e:=EW (aw:=aw) st hw n hk g
  have lm:(dJ Q cv cs aw S[k] g).length<=6:=bV (fJ ..) (by rw[bQ];have:=st.hq;lia)
  have ad:D.bin .Add (.lst (aA acc)) (.lst (aA (dJ Q cv cs aw S[k] g)))=.ok (.lst (aA (acc++dJ Q cv cs aw S[k] g))):=by
   show aE (decide ((aA acc).length+(aA (dJ Q cv cs aw S[k] g)).length<=big)) (.ok (D.lst (aA acc++aA (dJ Q cv cs aw S[k] g))))=_
   rw[aZ (decide_eq_true (by rw[cE,cE];lia))]
   unfold aA
   rw[dF]
  obtain⟨y7,ih⟩:=EY st hw n hk x4 x5 x6 r (acc++dJ Q cv cs aw S[k] g) (.v (.int (g:Int))) (by rw[bR];lia)
  refine⟨y7,?_⟩
  rw[ME,<-kQ,<-ih]
  show bC _ (.int (g:Int)::aA r) _=_
  refine dC ?_
  generalize aA (acc++dJ Q cv cs aw S[k] g)=a2 at *
  generalize aA (dJ Q cv cs aw S[k] g)=ml at *
  generalize aA acc=a1 at *
  generalize aA cs=nc at *
  generalize aA aw=na at *
  generalize bkS P Q S cv=BK at *
  generalize S[k].enc=sk at *
  simp[aS,xQ,e,ad]
theorem Ke(st:Stage P Q S cs cv)(hw:aw.length<=5)(n:Nat){k:Nat}(hk:k<S.length){gl al:List Nat}(hp:LackP (bZ cs aw S[k]) (dW cv cs aw S[k]) gl al) :
 aB T dfs (n+2) 25 [bkS P Q S cv,.lst (aA cs),.lst (aA aw),S[k].enc,.tup [.str "lacks", .lst (aA (cH gl)),.lst (aA (cH al))]]=.ok (.bl true):=by
 have hb:=bI
 have e1:D.ix S[k].enc (.int 3)=.ok (.tup (aA S[k].who)):=rfl
 have w8:=yO st hk
 have gs:=st.good S[k] (eF hk)
 have g8:∀x∈gl,x<8:=λx hx=>by
  have:=gs.lt x (cP.mp (hp.sub x hx)).1
  have:=st.hp
  lia
 have a8:∀x∈al,x<8:=λx hx=>by
  obtain⟨h,_,hh⟩:=(hp.all x).mp hx
  have:=st.cov.2 _ (mem_cover.mp hh).1
  have:=st.hq
  show x<8
  have:x<Q.length:=by assumption
  lia
 have f8:∀x∈setV gl,x<8:=λx hx=>g8 x ((lP g8).mp hx)
 have ss1:setV (setV gl)=setV gl:=EN λx=>lP g8
 have hm:∀x,x∈(setV gl).flatMap (dJ Q cv cs aw S[k])↔x∈al:=λx=>by
  rw[List.mem_flatMap,hp.all x]
  constructor
  ·rintro⟨h,h1,h2⟩
   exact⟨h,(lP g8).mp h1,(yN st.cov).mp h2⟩
  ·rintro⟨h,h1,h2⟩
   exact⟨h,(lP g8).mpr h1,(yN st.cov).mpr h2⟩
 have ss2:setV ((setV gl).flatMap (dJ Q cv cs aw S[k]))=setV al:=EN hm
 have s1:=EO f8
 rw[ss1]at s1
 have s2:=EO (l:=(setV gl).flatMap (dJ Q cv cs aw S[k])) λx hx=>a8 x ((hm x).mp hx)
 rw[ss2]at s2
 have l8:(setV gl).length<=8:=bV (fJ ..) (by rw[bQ];exact aN 8)
 have len:(setV al).length<(setV gl).length:=by
  have h1:=yJ gl
  have h2:=yJ al
  have h3:=hp.len
  rw[sC hp.ndg g8]at h1
  rw[sC hp.nda a8]at h2
  lia
 rw[sC hp.ndg g8,sC hp.nda a8]
 have sub:∀x∈setV gl,x∈bZ cs aw S[k]:=λx hx=>hp.sub x ((lP g8).mp hx)
 have c1:∀a0 a3 a4 a5 a6 a7 a8,aR (aG T (aB T dfs (n+1)) 1 [2,1] (.one 0) nU nT [a0,.v (.lst (aA cs)),.v (.lst (aA aw)),a3,a4,a5,a6,a7,a8]) (aA S[k].who)=.ok (aA (bZ cs aw S[k])):=λa0 a3 a4 a5 a6 a7 a8=>
  EX st hk λi b h1 h2=>by
   generalize D.lst (aA cs)=nc at *
   generalize D.lst (aA aw)=na at *
   cases b<;>simp[aG,Tr.aQ,nU,nT,h1,h2]
 have c2:∀a0 a1 a2 a3 a4 a6 a7 a8,aR (aG T (aB T dfs (n+1)) 1 [5] (.one 0) xS xR [a0,a1,a2,a3,a4,.v (.lst (aA (bZ cs aw S[k]))),a6,a7,a8]) (aA (setV gl))=.ok []:=λa0 a1 a2 a3 a4 a6 a7 a8=>by
  show aR _ ((setV gl).map λ(i:Nat)=>D.int (i:Int))=_
  rw[cC (λ(i:Nat)=>D.int (i:Int)) (λ_=>none) (λg hg=>by
   have q:=(nW (bZ cs aw S[k]) g).2
   rw[decide_eq_true (sub g hg)]at q
   generalize D.lst (aA (bZ cs aw S[k]))=na at *
   simp[aG,Tr.aQ,xS,xR,q])]
  simp
 obtain⟨y8,lo⟩:=EY (aw:=aw) st hw n hk (.v (.tup [.str "lacks", .lst (aA (setV gl)),.lst (aA (setV al))])) (.v (.lst (aA (bZ cs aw S[k])))) .no (setV gl) [] .no (by rw[gX];lia)
 rw[sS,show aA []=[]from rfl]at lo
 have n1:=ER (setV gl)
 have n2:=ES (setV al)
 have n3:=yM (setV gl)
 have n4:=yM (setV al)
 have n5:D.cmp .NotEq (.lst []) (.lst [])=.ok (.bl false):=rfl
 have n6:D.cmp .Lt (.int ((setV al).length:Nat)) (.int ((setV gl).length:Nat))=.ok (.bl true):=by
  show Res.ok (D.bl (decide (((setV al).length:Int)<((setV gl).length:Int))))=_
  rw[decide_eq_true (by lia)]
 have l1:(aA (setV gl)).length<=big:=by rw[cE];lia
 have l2:(aA S[k].who).length<=big:=by rw[cE];lia
 have t1:∀l:List D,D.isTy (.lst l) .list=true:=λ_=>rfl
 have t2:∀l:List D,D.isDct (.lst l)=false:=λ_=>rfl
 have t3:∀l,D.isTy (.tup l) .tuple=true:=λ_=>rfl
 have t4:∀l,D.isDct (.tup l)=false:=λ_=>rfl
 have n7:D.cmp .Eq (.str "lacks") (.str "covered")=.ok (.bl false):=rfl
 have n8:D.cmp .NotEq (.str "lacks") (.str "lacks")=.ok (.bl false):=rfl
 have n9:=ES (setV gl)
 refine bW (k:=false) rfl rfl rfl ?_
 simp only[bkS]at lo⊢
 generalize aA ((setV gl).flatMap (dJ Q cv cs aw S[k]))=sm at *
 generalize ((setV gl).length:Nat)=ln1 at *
 generalize ((setV al).length:Nat)=ln2 at *
 generalize aA (setV gl)=ng at *
 generalize aA (setV al)=na2 at *
 generalize aA (bZ cs aw S[k])=gp at *
 generalize aA S[k].who=ww at *
 generalize aA cs=nc at *
 generalize aA aw=na at *
 generalize S[k].enc=sk at *
 generalize S.map Scene.enc=ss at *
 simp[rO,e1,l2,c1,t1,t2,t3,t4,n7,n8,n9,l1,c2,n2,n3,n4,n5,n6,s1,s2,lo]
end
noncomputable def Full(G:List Nat)(ch:Nat->List Nat):Prop:=∃f:Nat->Nat,sA G ch f
theorem Full.of{G G':List Nat}{ch ch':Nat->List Nat}(h:Full G ch)(hG:∀g∈G',g∈G)(hc:∀g∈G',∀p∈ch g,p∈ch' g):Full G' ch':=by
 obtain⟨f,h1,h2⟩:=h
 exact⟨f,λg hg=>hc g hg _ (h1 g (hG g hg)),λg hg g' hg' e=>h2 g (hG g hg) g' (hG g' hg') e⟩
theorem Kf{G:List Nat}{ch:Nat->List Nat}{gl al:List Nat}(h:LackP G ch gl al):¬Full G ch:=by
 rintro⟨f,f1,f2⟩
 have:=gI (rZ h.ndg λx hx y hy e=>f2 x (h.sub x hx) y (h.sub y hy) e) (U:=al) λy hy=>by
  obtain⟨x,hx,rfl⟩:=bJ.mp hy
  exact(h.all _).mpr ⟨x,hx,f1 x (h.sub x hx)⟩
 rw[aF,h.len]at this
 lia
open Classical in
noncomputable def gT (G:List Nat) (ch:Nat->List Nat):Str:=if Full G ch then "covered" else "lacks"
theorem yP {G:List Nat} {ch:Nat->List Nat} (h:Full G ch):gT G ch = "covered" := by unfold gT;rw[if_pos h]
theorem yQ {G:List Nat} {ch:Nat->List Nat} (h:¬Full G ch):gT G ch = "lacks" := by unfold gT;rw[if_neg h]
theorem Told.kind{G:List Nat}{ch:Nat->List Nat}{d:D}(h:Told G ch d):∃x,d=.tup (.str (gT G ch)::x):=by
 cases h with
 |cov f hf=>exact⟨_,by rw[yP ⟨f,hf⟩]⟩
 |lack gl al hp=>exact⟨_,by rw[yQ (Kf hp)]⟩
noncomputable def cI (S:List Scene) (cv:List (Nat×Nat)) (cs aw:List Nat) (k:Nat):Str:=((S[k]?).map λs=>gT (bZ cs aw s) (dW cv cs aw s)).getD ""
theorem Kg (G:List Nat) (ch:Nat->List Nat):gT G ch = "covered" \/ gT G ch = "lacks" := by
 by_cases h:Full G ch
 ·exact .inl (yP h)
 ·exact .inr (yQ h)
theorem Kh {G:List Nat} {ch:Nat->List Nat} (h:gT G ch = "covered"):Full G ch:=by
 by_cases z:Full G ch
 ·exact z
 ·rw[yQ z]at h
  exact absurd h (by decide)
theorem yR {S:List Scene} {cv:List (Nat×Nat)} {cs aw:List Nat} {k:Nat} (hk:k<S.length):cI S cv cs aw k = "covered" \/ cI S cv cs aw k = "lacks" := by
 unfold cI
 rw[aX hk]
 exact Kg _ _
theorem Ki {S:List Scene} {cv:List (Nat×Nat)} {cs aw aw':List Nat} (ha:∀j∈aw',j∈aw) {k:Nat} (hk:k<S.length) (h:cI S cv cs aw k = "covered"):cI S cv cs aw' k = "covered" := by
 unfold cI at h⊢
 rw[aX hk]at h⊢
 refine yP ((Kh h).of (λg hg=>?_) (λg _ p hp=>?_))
 ·obtain⟨h1,h2⟩:=cP.mp hg
  exact cP.mpr ⟨h1,decide_eq_true (ha _ (of_decide_eq_true h2))⟩
 ·obtain⟨h1,h2,h3⟩:=mem_cover.mp hp
  exact mem_cover.mpr ⟨h1,λz=>h2 (ha _ z),h3⟩
noncomputable def jF(S:List Scene)(cv:List (Nat×Nat))(cs aw:List Nat):List D:=(aD S.length).map λk=>D.str (cI S cv cs aw k)
section
variable{P:List Part}{Q:List Player}{S:List Scene}{cs aw:List Nat}{cv:List (Nat×Nat)}
theorem Kj(st:Stage P Q S cs cv){A:D}(hA:jE A aw)(m:Nat):∃X:Nat->D,(∀k (hk:k<S.length),Told (bZ cs aw S[k]) (dW cv cs aw S[k]) (X k))/\aB T dfs (m+9) 14 [bkS P Q S cv,.lst (aA cs),A]=.ok (.lst ((aD S.length).map X)):=by
 have hb:=bI
 have hs5:=st.hs
 have ha:=EU st (m+1)
 have ex:∀k,∃d,∀(hk:k<S.length),Told (bZ cs aw S[k]) (dW cv cs aw S[k]) d/\aB T dfs (m+8) 13 [bkS P Q S cv,.lst (aA cs),A,.int (k:Int)]=.ok d:=λk=>by
  by_cases hk:k<S.length
  ·obtain⟨d,h1,h2⟩:=EV st hA m hk
   exact⟨d,λ_=>⟨h1,h2⟩⟩
  ·exact⟨.non,λz=>absurd z hk⟩
 refine⟨λk=>(ex k).choose,λk hk=>((ex k).choose_spec hk).1,bW (k:=true) rfl rfl rfl ?_⟩
 have hX:∀k,k<S.length->aB T dfs (m+8) 13 [bkS P Q S cv,.lst (aA cs),A,.int (k:Int)]=.ok (ex k).choose:=λk hk=>((ex k).choose_spec hk).2
 have c1:aR (aG T (aB T dfs (m+8)) 1 [0,1,2] (.one 0) wQ (.con (.bl true)) [.v (bkS P Q S cv),.v (.lst (aA cs)),.v A]) ((aD S.length).map aC)=.ok ((aD S.length).map λk=>(ex k).choose):=by
  rw[cC aC (λ(k:Nat)=>some (ex k).choose) (λk hk=>by
   have e:=hX k (bO.mp hk)
   generalize (ex k).choose=out at e⊢
   generalize bkS P Q S cv=BK at e⊢
   generalize D.lst (aA cs)=nc at e⊢
   simp[aG,Tr.aQ,wQ,aC,e]),eZ]
 have rg:=eE (n:=S.length) (by lia)
 have ln:=nX (S:=S)
 have l1:((aD S.length).map aC).length<=big:=by rw[aF,bQ];lia
 clear hX
 generalize (aD S.length).map (λk=>(ex k).choose)=out at *
 simp only[bkS]at c1 ha⊢
 generalize S.map Scene.enc=se at *
 generalize (aD S.length).map aC=rr at *
 generalize aA cs=nc at *
 simp[wR,ha,ln,rg,l1,c1]
theorem Kk(st:Stage P Q S cs cv)(hw:aw.length<=5)(n:Nat){k:Nat}(hk:k<S.length){d:D}(hd:Told (bZ cs aw S[k]) (dW cv cs aw S[k]) d):aB T dfs (n+2) 25 [bkS P Q S cv,.lst (aA cs),.lst (aA aw),S[k].enc,d]=.ok (.bl true):=by
 cases hd with
 |cov f hf=>exact Kd st hw n hk hf
 |lack gl al hp=>exact Ke st hw n hk hp
theorem EZ(st:Stage P Q S cs cv)(hw:aw.length<=5)(n:Nat){X:Nat->D}(hX:∀k (hk:k<S.length),Told (bZ cs aw S[k]) (dW cv cs aw S[k]) (X k)):∀(ks:List Nat)(x4:Sl),(∀k∈ks,k<S.length) ->
 ∃y4,bC (aS T (aB T dfs (n+2)) (.one 4) xT) (ks.map aC) [.v (bkS P Q S cv),.v (.lst (aA cs)),.v (.lst (aA aw)),.v (.lst ((aD S.length).map X)),x4]=.ok (.nx [.v (bkS P Q S cv),.v (.lst (aA cs)),.v (.lst (aA aw)),.v (.lst ((aD S.length).map X)),y4])
 |[],x4,_=>⟨x4,rfl⟩
 |k::r,x4,h=>by
  have hk:=h k bF
  have e:=Kk st hw n hk (hX k hk)
  have e1:D.ix (.lst ((aD S.length).map X)) (.int (k:Int))=.ok (X k):=lI (by rw[bK,Ew hk];rfl)
  have e2:=rW hk
  obtain⟨y4,ih⟩:=EZ st hw n hX r (.v (.int (k:Int))) λq hq=>h q (bB _ hq)
  refine⟨y4,?_⟩
  rw[aK,<-ih]
  refine dC ?_
  simp only[bkS]at e⊢
  generalize S[k].enc=sk at *
  generalize S.map Scene.enc=se at *
  generalize X k=xk at *
  generalize (aD S.length).map X=xs at *
  generalize aA cs=nc at *
  generalize aA aw=na at *
  simp[aS,xT,aC,e1,e2,e]
theorem Kl(st:Stage P Q S cs cv)(hw:aw.length<=5)(m:Nat):aB T dfs (m+10) 26 [bkS P Q S cv,.lst (aA cs),.lst (aA aw)]=.ok (.lst (jF S cv cs aw)):=by
 have hb:=bI
 have hs5:=st.hs
 obtain⟨X,hX,e⟩:=Kj st (nW aw) m
 obtain⟨y4,lo⟩:=EZ st hw (m+7) hX (aD S.length) .no λk hk=>bO.mp hk
 refine bW (k:=true) rfl rfl rfl ?_
 have c1:∀env,aR (aG T (aB T dfs (m+9)) 1 [] (.one 0) xU (.con (.bl true)) env) ((aD S.length).map X)=.ok (jF S cv cs aw):=λenv=>by
  rw[cC X (λk=>some (D.str (cI S cv cs aw k))) (λk hk=>by
   have hk:=bO.mp hk
   obtain⟨x,ex⟩:=(hX k hk).kind
   have:cI S cv cs aw k=gT (bZ cs aw S[k]) (dW cv cs aw S[k]):=by unfold cI;rw[aX hk];rfl
   rw[ex,this]
   simp[aG,Tr.aQ,xU]),eZ]
  rfl
 have rg:=eE (n:=S.length) (by lia)
 have ln:=nX (S:=S)
 have ln2:Bt.run .len [.lst ((aD S.length).map X)]=.ok (.int (S.length:Nat)):=by
  show Res.ok (D.int (((aD S.length).map X).length:Nat))=_
  rw[aF,bQ]
 have ne:D.cmp .NotEq (.int (S.length:Nat)) (.int (S.length:Nat))=.ok (.bl false):=qI rfl
 have t1:∀l:List D,D.isTy (.lst l) .list=true:=λ_=>rfl
 have t2:∀l:List D,D.isDct (.lst l)=false:=λ_=>rfl
 have l1:((aD S.length).map aC).length<=big:=by rw[aF,bQ];lia
 have l2:((aD S.length).map X).length<=big:=by rw[aF,bQ];lia
 rw[show m+7+2=m+9 from rfl]at lo
 clear hX
 generalize jF S cv cs aw=kk at *
 generalize (aD S.length).map X=xs at *
 generalize (aD S.length).map aC=rr at *
 simp only[bkS]at e lo⊢
 generalize S.map Scene.enc=se at *
 generalize aA cs=nc at *
 generalize aA aw=na at *
 simp[xV,e,t1,t2,ln,ln2,ne,rg,l1,lo,l2,c1]
end
open Classical in
noncomputable def dE (S:List Scene) (cv:List (Nat×Nat)) (cs aw:List Nat):Option Nat:=(aD S.length).find? λk=>decide (cI S cv cs aw k = "lacks")
section
variable{P:List Part}{Q:List Player}{S:List Scene}{cs aw:List Nat}{cv:List (Nat×Nat)}
open Classical in
theorem E1(st:Stage P Q S cs cv){A:D}(hA:jE A aw)(m:Nat):∀(ks:List Nat)(x:Sl),(∀k∈ks,k<S.length) ->
 ∃y,bC (aS T (aB T dfs (m+8)) (.one 3) lN) (ks.map aC) [.v (bkS P Q S cv),.v (.lst (aA cs)),.v A,x]=.ok (match ks.find? λk=>decide (cI S cv cs aw k = "lacks")with
  |some k=>.rt (.int (k:Int)) false
  |none=>.nx [.v (bkS P Q S cv),.v (.lst (aA cs)),.v A,y])
 |[],x,_=>⟨x,rfl⟩
 |k::r,x,h=>by
  have hk:=h k bF
  obtain⟨d,hd,e⟩:=EV st hA m hk
  obtain⟨z,rfl⟩:=hd.kind
  have kk:cI S cv cs aw k=gT (bZ cs aw S[k]) (dW cv cs aw S[k]):=by unfold cI;rw[aX hk];rfl
  rw[<-kk]at e
  obtain⟨y,ih⟩:=E1 st hA m r (.v (.int (k:Int))) λq hq=>h q (bB _ hq)
  refine⟨y,?_⟩
  rw[cJ]
  rcases yR (cv:=cv) (cs:=cs) (aw:=aw) hk with w|w
  ·rw[w]at e
   have body:aS T (aB T dfs (m+8)) (.one 3) lN (aC k) [.v (bkS P Q S cv),.v (.lst (aA cs)),.v A,x]=.ok (.nx [.v (bkS P Q S cv),.v (.lst (aA cs)),.v A,.v (.int (k:Int))]):=by
    generalize bkS P Q S cv=BK at e⊢
    generalize D.lst (aA cs)=nc at e⊢
    have q1:D.cmp .Eq (.str "covered") (.str "lacks")=.ok (.bl false):=rfl
    simp[aS,lN,aC,e,q1]
   rw[aK,dC body,ih,decide_eq_false (by rw[w];decide)]
  ·rw[w]at e
   have body:aS T (aB T dfs (m+8)) (.one 3) lN (aC k) [.v (bkS P Q S cv),.v (.lst (aA cs)),.v A,x]=.ok (.rt (.int (k:Int)) false):=by
    generalize bkS P Q S cv=BK at e⊢
    generalize D.lst (aA cs)=nc at e⊢
    have q1:D.cmp .Eq (.str "lacks") (.str "lacks")=.ok (.bl true):=rfl
    simp[aS,lN,aC,e,q1]
   rw[aK,vG body,decide_eq_true w]
theorem Km(st:Stage P Q S cs cv){A:D}(hA:jE A aw)(m:Nat):aB T dfs (m+9) 15 [bkS P Q S cv,.lst (aA cs),A]=.ok (bH (dE S cv cs aw)):=by
 have hs5:=st.hs
 obtain⟨y,h1⟩:=E1 st hA m (aD S.length) .no λk hk=>bO.mp hk
 have rg:=eE (n:=S.length) (by lia)
 have ln:=nX (S:=S)
 unfold dE
 refine bW (k:=false) rfl rfl rfl ?_
 generalize List.find? _ (aD S.length)=fo at *
 simp only[bkS]at h1⊢
 generalize S.map Scene.enc=se at *
 generalize (aD S.length).map aC=rr at *
 generalize aA cs=nc at *
 cases fo<;>simp[wU,ln,rg,h1,bH]
end
noncomputable def stV(a:List Nat):Nat:=match a.getLast? with
 |none=>0
 |some p=>p+1
noncomputable def fR(many:Nat)(a:List Nat):List (List Nat):=(dG (stV a) (many-stV a)).map λq=>a++[q]
noncomputable def tN(t:List Nat):D:=.tup (aA t)
noncomputable def lev(many:Nat):Nat->List (List Nat)
 |0=>[[]]
 |n+1=>(lev many n).flatMap (fR many)
noncomputable def fnd(many:Nat):Nat->List (List Nat)
 |0=>[[]]
 |n+1=>fnd many n++lev many (n+1)
theorem sD:∀many,many<6->∀t,t<6->(lev many t).length<=10/\(fnd many t).length<=32/\((lev many t).all λa=>decide (a.length<=5)&&a.all λp=>decide (p<5))=true:=by decide +kernel
theorem add_tN{a:List Nat}(q:Nat)(h:a.length<=5):D.bin .Add (tN a) (.tup [.int (q:Int)])=.ok (tN (a++[q])):=by
 have hb:=bI
 show aE (decide ((aA a).length+1<=big)) (.ok (D.tup (aA a++[.int (q:Int)])))=_
 rw[aZ (decide_eq_true (by rw[cE];lia))]
 unfold tN aA
 rw[dF];rfl
theorem Kn(b:List Nat)(p:Nat):D.ix (tN (b++[p])) (.int (-1))=.ok (.int (p:Int)):=by
 show Res.of (atI (aA (b++[p])) (-1))=_
 have hl:(aA (b++[p])).length=b.length+1:=by rw[cE,bR];rfl
 unfold atI Tr.ixN
 rw[hl,if_neg (by lia),if_pos (by lia)]
 show Res.of ((aA (b++[p]))[((-1:Int)+((b.length+1:Nat):Int)).toNat]?)=_
 rw[show((-1:Int)+((b.length+1:Nat):Int)).toNat=b.length by lia]
 unfold aA
 rw[bK,gM (aN _),Nat.sub_self];rfl
theorem E2(many:Nat)(a:List Nat):(fR many a).length<=many:=by
 unfold fR
 rw[aF,zK];lia
theorem Ko(n many:Nat)(hm:many<=6){a:List Nat}(h1:a.length<=5)(hs:∀p∈a,p<5)(L:D)(acc:List D)(ha:acc.length<=900)(x y:Sl) :
 aS T (aB T dfs n) (.one 3) nR (tN a) [.v L,.v (.int (many:Int)),.o (.lst acc),x,y]=.ok (.nx [.v L,.v (.int (many:Int)),.o (.lst (acc++(fR many a).map tN)),.v (tN a),.v (.int (stV a:Int))]):=by
 have hb:=bI
 have two:a=[]\/∃b p,a=b++[p]:=by
  rcases List.eq_nil_or_concat a with z|⟨b,p,z⟩
  ·exact .inl z
  ·exact .inr ⟨b,p,by rw[z];simp⟩
 have hst:stV a<1000:=by
  rcases two with rfl|⟨b,p,rfl⟩
  ·exact(by decide:0<1000)
  ·unfold stV
   rw[MF]
   have:=hs p (fT _ bF)
   show p+1<1000
   lia
 have rg:nG (.int (stV a:Int)) (.int (many:Int))=.ok ((dG (stV a) (many-stV a)).map aC):=by
  rw[DL (by lia) (by lia),DT]
 have c1:∀a0 a1 a2 a4,aR (aG T (aB T dfs n) 1 [3] (.one 0) wV (.con (.bl true)) [a0,a1,a2,.v (tN a),a4]) ((dG (stV a) (many-stV a)).map aC)=.ok ((fR many a).map tN):=λa0 a1 a2 a4=>by
  unfold fR
  rw[cC aC (λ(p:Nat)=>some (tN (a++[p]))) (λp _=>by
   have ad:=add_tN p h1
   generalize tN a=t at *
   simp[aG,Tr.aQ,wV,aC,ad]),eZ,cG]
  rfl
 have l1:((dG (stV a) (many-stV a)).map aC).length<=big:=by rw[aF,zK];lia
 have l2:acc.length+((fR many a).map tN).length<=big:=by have:=E2 many a;rw[aF];lia
 generalize (fR many a).map tN=z at c1 l2⊢
 generalize (dG (stV a) (many-stV a)).map aC=rr at rg c1 l1
 rcases two with rfl|⟨b,p,rfl⟩
 ·have tr:(tN []).truth=.ok false:=rfl
  rw[show((stV []:Nat):Int)=0 from rfl]at rg⊢
  generalize tN []=t at *
  simp[aS,nR,tr,rg,c1,l1,l2]
 ·have tr:(tN (b++[p])).truth=.ok true:=by
   show Res.ok (!(aA (b++[p])).isEmpty)=_
   cases b<;>rfl
  have ix:=Kn b p
  have sv:stV (b++[p])=p+1:=by unfold stV;rw[MF];rfl
  rw[sv,show((p+1:Nat):Int)=(p:Int)+1 by lia]at rg⊢
  have ad:D.bin .Add (.int (p:Int)) (.int 1)=.ok (.int ((p:Int)+1)):=rfl
  generalize tN (b++[p])=t at *
  simp[aS,nR,tr,ix,ad,rg,c1,l1,l2]
theorem E3(n many:Nat)(hm:many<=6)(L:D):∀(zs:List (List Nat))(acc:List D)(x y:Sl),(∀a∈zs,a.length<=5/\∀p∈a,p<5)->acc.length+zs.length*6<=900 ->
 ∃x' y',bC (aS T (aB T dfs n) (.one 3) nR) (zs.map tN) [.v L,.v (.int (many:Int)),.o (.lst acc),x,y]=.ok (.nx [.v L,.v (.int (many:Int)),.o (.lst (acc++(zs.flatMap (fR many)).map tN)),x',y'])
 |[],acc,x,y,_,_=>⟨x,y,by rw[MD,kP,lR];rfl⟩
 |a::r,acc,x,y,h,hl=>by
  have h0:=h a bF
  have ll:=E2 many a
  rw[aP]at hl
  obtain⟨x',y',ih⟩:=E3 n many hm L r (acc++(fR many a).map tN) (.v (tN a)) (.v (.int (stV a:Int))) (λb hb=>h b (bB _ hb)) (by rw[bR,aF];lia)
  refine⟨x',y',?_⟩
  rw[aK,dC (Ko n many hm h0.1 h0.2 L acc (by lia) x y),ih,ME,dF,kQ]
theorem Kp(n many:Nat)(hm:many<=6)(zs:List (List Nat))(h:∀a∈zs,a.length<=5/\∀p∈a,p<5)(hl:zs.length<=100):aB T dfs (n+1) 16 [.lst (zs.map tN),.int (many:Int)]=.ok (.lst ((zs.flatMap (fR many)).map tN)):=by
 have hb:=bI
 obtain⟨x',y',lo⟩:=E3 n many hm (.lst (zs.map tN)) zs [] .no .no h (by rw[gX];lia)
 rw[sS]at lo
 have l1:(zs.map tN).length<=big:=by rw[aF];lia
 refine bW (k:=true) rfl rfl rfl ?_
 generalize (zs.flatMap (fR many)).map tN=z at *
 generalize zs.map tN=z2 at *
 simp[wW,lo,l1]
theorem Kq:∀zs:List (List Nat),D.flatL (.lst (zs.map tN))=true:=λzs=>by
 show D.flats _=true
 induction zs with
 |nil=>rfl
 |cons a r ih=>
  rw[aK,D.flats,ih,Bool.and_true]
  show D.flats (aA a)=true
  induction a with
  |nil=>rfl
  |cons x s ih2=>
   show D.flats (.int (x:Int)::aA s)=true
   rw[D.flats,ih2];rfl
theorem E4{cf:Nat->List D->Res D}{e:Nv}{i:Nat}{x:E}:exS T cf (.asgN i x) e=(do let d<-evE T cf x e;aE (mQ T x e&&(d.isNon||d.flatL)) (.ok (.nx (e.set i (.n d))))):=id rfl
theorem E5(n many:Nat)(hm:many<6)(M:D):∀(r t:Nat)(x:Sl),t+r<6 ->
 ∃y,bC (aS T (aB T dfs (n+1)) (.one 4) wX) ((dG t r).map aC) [.v (.int (many:Int)),.v M,.n (.lst ((lev many t).map tN)),.o (.lst ((fnd many t).map tN)),x]=.ok (.nx [.v (.int (many:Int)),.v M,.n (.lst ((lev many (t+r)).map tN)),.o (.lst ((fnd many (t+r)).map tN)),y])
 |0,t,x,_=>⟨x,rfl⟩
 |r+1,t,x,h=>by
  have hb:=bI
  obtain⟨l1,l2,l3⟩:=sD many hm t (by lia)
  obtain⟨m1,m2,m3⟩:=sD many hm (t+1) (by lia)
  have e:=Kp n many (by lia) (lev many t) (λa ha=>by
   have:=dN.mp l3 a ha
   rw[aH,decide_eq_true_eq]at this
   exact⟨this.1,λp hp=>of_decide_eq_true (dN.mp this.2 p hp)⟩) (by lia)
  rw[show(lev many t).flatMap (fR many)=lev many (t+1)from rfl]at e
  have fl:=Kq (lev many (t+1))
  obtain⟨y,ih⟩:=E5 n many hm M r (t+1) (.v (.int (t:Int))) (by lia)
  refine⟨y,?_⟩
  rw[Es,aK]
  rw[show t+(r+1)=t+1+r by lia,<-ih]
  refine dC ?_
  have fe:(fnd many (t+1)).map tN=(fnd many t).map tN++(lev many (t+1)).map tN:=by rw[fnd,dF]
  rw[fe]
  have lf:((fnd many t).map tN).length+((lev many (t+1)).map tN).length<=big:=by rw[aF,aF];lia
  generalize (fnd many t).map tN=f at *
  generalize (lev many (t+1)).map tN=b at *
  generalize (lev many t).map tN=a at *
  have s2:∀i:Sl,exS T (aB T dfs (n+1)) (.asgN 2 (.call 16 (.acons (.var 2) (.acons (.var 0) .anil)))) [.v (.int (many:Int)),.v M,.n (.lst a),.o (.lst f),i]=.ok (.nx [.v (.int (many:Int)),.v M,.n (.lst b),.o (.lst f),i]):=λi=>by
   rw[E4]
   have nv:(Sl.n (.lst a)).val=.ok (.lst a):=rfl
   simp[nv,e]
   rw[aZ (by rw[fl,Bool.or_true,Bool.and_true];rfl)]
  have s3:∀i:Sl,exS T (aB T dfs (n+1)) (.extN 3 2) [.v (.int (many:Int)),.v M,.n (.lst b),.o (.lst f),i]=.ok (.nx [.v (.int (many:Int)),.v M,.n (.lst b),.o (.lst (f++b)),i]):=λi=>by
   rw[Ah]
   show(do let a<-Sl.own (.o (.lst f));aE (decide (a.length+b.length<=big)) (Res.ok (Out.nx _)))=_
   show aE (decide (f.length+b.length<=big)) _=_
   rw[aZ (decide_eq_true lf)];rfl
  simp[aS,wX,aC,s2,s3]
theorem Kr(n many most:Nat)(hm:many<6)(ho:most<6):aB T dfs (n+2) 17 [.int (many:Int),.int (most:Int)]=.ok (.lst ((fnd many most).map tN)):=by
 have hb:=bI
 obtain⟨y,lo⟩:=E5 n many hm (.int (most:Int)) most 0 .no (by lia)
 rw[lW,show(lev many 0).map tN=[.tup []]from rfl,show(fnd many 0).map tN=[.tup []]from rfl,show dG 0 most=aD most from(Er ..).symm]at lo
 have s1:exS T (aB T dfs (n+1)) (.asgN 2 (.lst (.acons (.tup .anil) .anil))) [.v (.int (many:Int)),.v (.int (most:Int)),.no,.no,.no]=.ok (.nx [.v (.int (many:Int)),.v (.int (most:Int)),.n (.lst [.tup []]),.no,.no]):=by
  rw[E4]
  simp
  rfl
 have rg:=eE (n:=most) (by lia)
 have l1:((aD most).map aC).length<=big:=by rw[aF,bQ];lia
 refine bW (k:=true) rfl rfl rfl ?_
 generalize (fnd many most).map tN=f at *
 generalize (aD most).map aC=rr at *
 simp[wY,s1,rg,l1,lo]
section
variable{P:List Part}{Q:List Player}{S:List Scene}{cs:List Nat}{cv:List (Nat×Nat)}
theorem Ks(st:Stage P Q S cs cv)(m:Nat){most:Nat}(ho:most<6):aB T dfs (m+10) 18 [bkS P Q S cv,.lst (aA cs),.int (most:Int)]=.ok (.lst ((fnd Q.length most).map λa=>.tup [tN a,bH (dE S cv cs a)])):=by
 have hb:=bI
 have hq:=st.hq
 have ha:=EU st (m+2)
 have e1:=Kr (m+7) Q.length most (by lia) ho
 have ll:=(sD Q.length (by lia) most ho).2.1
 have c1:aR (aG T (aB T dfs (m+9)) 1 [0,1] (.one 0) wZ (.con (.bl true)) [.v (bkS P Q S cv),.v (.lst (aA cs)),.v (.int (most:Int))]) ((fnd Q.length most).map tN)=.ok ((fnd Q.length most).map λa=>.tup [tN a,bH (dE S cv cs a)]):=by
  rw[cC tN (λa=>some (D.tup [tN a,bH (dE S cv cs a)])) (λa _=>by
   have e:aB T dfs (m+9) 15 [bkS P Q S cv,.lst (aA cs),tN a]=.ok (bH (dE S cv cs a)):=Km st (KS a) m
   generalize bH (dE S cv cs a)=o at *
   generalize bkS P Q S cv=BK at e⊢
   generalize D.lst (aA cs)=nc at e⊢
   generalize tN a=t at *
   simp[aG,Tr.aQ,wZ,e]),eZ]
 have lq:=EI (Q:=Q)
 have l1:((fnd Q.length most).map tN).length<=big:=by rw[aF];lia
 refine bW (k:=true) rfl rfl rfl ?_
 generalize (fnd Q.length most).map (λa=>D.tup [tN a,bH (dE S cv cs a)])=out at *
 generalize (fnd Q.length most).map tN=zs at *
 simp only[bkS]at c1 ha⊢
 generalize Q.map Player.enc=qe at *
 generalize aA cs=nc at *
 simp[xA,ha,lq,e1,l1,c1]
end
noncomputable def gU(k:List Nat):List (Sum Int Str):=k.map λ(i:Nat)=>Sum.inl (i:Int)
theorem yS:∀{a b:List Nat},gU a=gU b->a=b
 |[],[],_=>rfl
 |[],b::s,h=>nomatch h
 |a::r,[],h=>nomatch h
 |a::r,b::s,h=>by
  injection h with h1 h2
  injection h1 with h1
  rw[Int.ofNat.inj h1,yS h2]
theorem yT:∀k:List Nat,fK (aA k)=some (gU k)
 |[]=>rfl
 |i::k=>by
  show(fK (aA k)).map _=_
  rw[yT k];rfl
theorem Kt(k:List Nat):oO (tN k)=.ok (gU k):=by
 show Res.of (fK (aA k))=_
 rw[yT];rfl
noncomputable def bT(f:List Nat->D)(l:List (List Nat)):List (List (Sum Int Str)×D):=l.map λa=>(gU a,f a)
theorem E6{f:List Nat->D}{k:List Nat}:∀{l:List (List Nat)},k∈l->fL (bT f l) (gU k)=some (f k)
 |a::r,h=>by
  unfold fL bT
  rw[aK,cJ]
  by_cases z:a=k
  ·subst z
   rw[decide_eq_true rfl];rfl
  ·rw[decide_eq_false (λq=>z (yS q))]
   exact E6 ((aO.mp h).resolve_left λq=>z q.symm)
theorem Ku{f:List Nat->D}{k:List Nat}(l:List (List Nat))(h:k∉l):jZ (bT f l) (gU k) (f k)=bT f (l++[k]):=by
 unfold jZ
 rw[if_neg]
 ·unfold bT;rw[dF];rfl
 ·intro z
  obtain⟨x,hx,e⟩:=sQ.mp z
  obtain⟨b,hb,rfl⟩:=bJ.mp hx
  exact h (by rw[<-yS (of_decide_eq_true e)];exact hb)
theorem sE{f:List Nat->D}{k:List Nat}{l:List (List Nat)}(h:k∈l):D.ix (.tdc (bT f l)) (tN k)=.ok (f k):=by
 show(Res.of (fK (aA k))>>=λq=>Res.of (fL (bT f l) q))=_
 rw[yT]
 show Res.of (fL (bT f l) (gU k))=_
 rw[E6 h];rfl
theorem Kv(f:List Nat->D)(l:List (List Nat))(h:l.length<64):dklR (.tdc (bT f l))=.ok (.lst (l.map tN)):=by
 show aE (decide ((bT f l).length<64)) (Res.ok (D.lst ((bT f l).map λkv=>.tup (kv.1.map eV))))=_
 rw[aZ (decide_eq_true (by unfold bT;rw[aF];exact h))]
 unfold bT
 rw[cG]
 refine congrArg (λz=>Res.ok (D.lst z)) (fU λe _=>?_)
 show D.tup ((gU e).map eV)=_
 unfold gU tN aA
 rw[cG];rfl
noncomputable def cM(j:Nat):Nat:=[1,2,4,8,16,32].getD j 0
noncomputable def awB(q b:Nat):List Nat:=(aD q).filter λj=>decide (b/cM j%2=1)
noncomputable def dZ(q:Nat):List (List Nat):=(aD (cM q)).map (awB q)
noncomputable def lQ(l:List Nat):List Int:=l.map λ(n:Nat)=>(n:Int)
noncomputable def kK(zs:List (List Nat)):List (List Nat):=(eQ (zs.map lQ)).map λi=>zs.getD i []
theorem Kw:∀q,q<6->(dZ q).length=cM q/\(dZ q).length<=32/\(dZ q).Nodup/\((dZ q).all λa=>(aD a.length).all λk=>(dZ q).contains (a.take k++a.drop (k+1)))=true/\((fnd q q).all λa=>(dZ q).contains a&&decide (a.length<=5))=true:=by decide +kernel
theorem srt_ok:∀q,q<6->kK (fnd q q)=kK (dZ q):=by decide +kernel
theorem srt_lt:∀q,q<6->((eQ ((fnd q q).map lQ)).all λi=>decide (i<(fnd q q).length))=true/\((eQ ((dZ q).map lQ)).all λi=>decide (i<(dZ q).length))=true:=by decide +kernel
theorem E7:∀zs:List (List Nat),jL (zs.map tN)=.ok (zs.map lQ)
 |[]=>rfl
 |a::r=>by
  show(do let x<-cN (aA a);let q<-jL (r.map tN);Res.ok (x::q))=_
  rw[rX,E7 r];rfl
theorem E8{zs:List (List Nat)}(h0:zs.head?=some [])(h2:2<=zs.length)(h3:zs.length<64)(hi:((eQ (zs.map lQ)).all λi=>decide (i<zs.length))=true):tK (.lst (zs.map tN))=.ok (.lst ((kK zs).map tN)):=by
 cases zs with
 |nil=>cases h0
 |cons a r=>
  cases h0
  show(do match<-jL (([]::r).map tN)with
   |[]::kss=>aE (decide (2<=(([]::r).map tN).length)&&decide ((([]::r).map tN).length<64)) (.ok (.lst ((eQ ([]::kss)).map λi=>(([]::r).map tN).getD i .non)))
   |_=>.no:Res D)=_
  rw[E7]
  show aE (decide (2<=(([]::r).map tN).length)&&decide ((([]::r).map tN).length<64)) (Res.ok (D.lst ((eQ (([]::r).map lQ)).map λi=>(([]::r).map tN).getD i .non)))=_
  rw[aZ (by rw[aF,decide_eq_true h2,decide_eq_true h3];rfl)]
  unfold kK
  rw[cG]
  refine congrArg (λz=>Res.ok (D.lst z)) (fU λi hi'=>?_)
  have:=of_decide_eq_true (dN.mp hi i hi')
  generalize ([]::r)=zs at *
  show _=tN (zs.getD i [])
  rw[eU,eU,bK,aX this];rfl
theorem Kx:∀q,q<6->(fnd q q).head?=some []/\(dZ q).head?=some []/\(0<q->2<=(fnd q q).length/\2<=(dZ q).length):=by decide +kernel
theorem aw_len{q b:Nat}:(awB q b).length<=q:=bV (fJ ..) (by rw[bQ];exact aN _)
theorem yU{S:List Scene}{cv:List (Nat×Nat)}{cs a:List Nat}{k:Nat}(h:k<S.length):D.ix (.lst (jF S cv cs a)) (.int (k:Int))=.ok (.str (cI S cv cs a k)):=by
 refine lI ?_
 unfold jF
 rw[bK,Ew h];rfl
theorem Ky{S:List Scene}{cv:List (Nat×Nat)}{cs a:List Nat}:Bt.run .len [.lst (jF S cv cs a)]=.ok (.int (S.length:Nat)):=by
 show Res.ok (D.int ((jF S cv cs a).length:Nat))=_
 unfold jF
 rw[aF,bQ]
noncomputable def kD(S:List Scene)(cv:List (Nat×Nat))(cs a:List Nat):D:=.lst (jF S cv cs a)
section
variable{S:List Scene}{cs:List Nat}{cv:List (Nat×Nat)}{l:List (List Nat)}
theorem E9(hs:S.length<=6)(n:Nat){a:List Nat}(ha:a∈l)(hl:∀k,k<a.length->a.take k++a.drop (k+1)∈l):∀(ks:List Nat)(x2 x3:Sl),(∀k∈ks,k<a.length)->a.length<=5 ->
 ∃y2 y3,bC (aS T (aB T dfs n) (.one 2) xW) (ks.map aC) [.v (.tdc (bT (kD S cv cs) l)),.v (tN a),x2,x3]=.ok (.nx [.v (.tdc (bT (kD S cv cs) l)),.v (tN a),y2,y3])
 |[],x2,x3,_,_=>⟨x2,x3,rfl⟩
 |k::r,x2,x3,h,h5=>by
  have hb:=bI
  have hk:=h k bF
  obtain⟨y2,y3,ih⟩:=E9 hs n ha hl r (.v (.int (k:Int))) (.v (kD S cv cs (a.take k++a.drop (k+1)))) (λq hq=>h q (bB _ hq)) h5
  refine⟨y2,y3,?_⟩
  have i1:=sE (f:=kD S cv cs) ha
  have i2:=sE (f:=kD S cv cs) (hl k hk)
  have s1:D.sl (tN a) none (some (k:Int))=.ok (tN (a.take k)):=by
   show Res.ok (D.tup (cut (aA a) none (some (k:Int))))=_
   rw[D5 (by rw[cE];lia)];unfold tN aA;rw[sM]
  have s2:D.sl (tN a) (some ((k:Int)+1)) none=.ok (tN (a.drop (k+1))):=by
   show Res.ok (D.tup (cut (aA a) (some ((k:Int)+1)) none))=_
   rw[show((k:Int)+1)=((k+1:Nat):Int) by lia,D4 (by rw[cE];lia)];unfold tN aA;rw[sN]
  have s3:D.bin .Add (tN (a.take k)) (tN (a.drop (k+1)))=.ok (tN (a.take k++a.drop (k+1))):=by
   show aE (decide ((aA (a.take k)).length+(aA (a.drop (k+1))).length<=big)) (.ok (D.tup (aA (a.take k)++aA (a.drop (k+1)))))=_
   rw[aZ (decide_eq_true (by rw[cE,cE,kN,sH];lia))]
   unfold tN aA;rw[dF]
  have ad:D.bin .Add (.int (k:Int)) (.int 1)=.ok (.int ((k:Int)+1)):=rfl
  have p1:D.part (.int (k:Int))=.ok (some (k:Int)):=rfl
  have p2:D.part (.int ((k:Int)+1))=.ok (some ((k:Int)+1)):=rfl
  have p3:D.part .non=.ok none:=rfl
  have mono:=λj (hj:j<S.length)=>Ki (cv:=cv) (cs:=cs) (aw:=a) (aw':=a.take k++a.drop (k+1)) (λx hx=>by
   rcases eY.mp hx with z|z
   ·exact zB z
   ·exact zC z) hj
  generalize a.take k++a.drop (k+1)=b at *
  have c1:∀a2,aR (aG T (aB T dfs n) 1 [3,0,1] (.one 0) rQ rP [.v (.tdc (bT (kD S cv cs) l)),.v (tN a),a2,.v (kD S cv cs b)]) ((aD S.length).map aC)=.ok []:=λa2=>by
   rw[cC aC (λ_=>none) (λj hj=>by
    have hj:=bO.mp hj
    have k1:D.ix (kD S cv cs a) (.int (j:Int))=.ok (.str (cI S cv cs a j)):=yU hj
    have k2:D.ix (kD S cv cs b) (.int (j:Int))=.ok (.str (cI S cv cs b j)):=yU hj
    have q1:D.cmp .Eq (.str "covered") (.str "covered")=.ok (.bl true):=rfl
    have q2:D.cmp .Eq (.str "lacks") (.str "covered")=.ok (.bl false):=rfl
    have q3:D.cmp .NotEq (.str "covered") (.str "covered")=.ok (.bl false):=rfl
    rcases yR (cv:=cv) (cs:=cs) (aw:=a) hj with w|w
    ·rw[mono j hj w]at k2
     rw[w]at k1
     generalize kD S cv cs a=ka at *
     generalize kD S cv cs b=kb at *
     generalize D.tdc (bT (kD S cv cs) l)=DD at *
     generalize tN a=ta at *
     simp[aG,Tr.aQ,rQ,rP,aC,i1,k1,k2,q1,q3]
    ·rw[w]at k1
     generalize kD S cv cs a=ka at *
     generalize kD S cv cs b=kb at *
     generalize D.tdc (bT (kD S cv cs) l)=DD at *
     generalize tN a=ta at *
     simp[aG,Tr.aQ,rQ,rP,aC,i1,k1,q2])]
   simp
  have ln:Bt.run .len [kD S cv cs b]=.ok (.int (S.length:Nat)):=Ky
  have rg:=eE (n:=S.length) (by lia)
  have l1:((aD S.length).map aC).length<=big:=by rw[aF,bQ];lia
  have n5:D.cmp .NotEq (.lst []) (.lst [])=.ok (.bl false):=rfl
  rw[aK,<-ih]
  refine dC ?_
  generalize kD S cv cs b=kb at *
  generalize D.tdc (bT (kD S cv cs) l)=DD at *
  generalize (aD S.length).map aC=rr at *
  generalize tN (a.take k)=t1 at *
  generalize tN (a.drop (k+1))=t2 at *
  generalize tN a=ta at *
  generalize tN b=tb at *
  simp[aS,xW,aC,s1,s2,s3,ad,p1,p2,p3,i2,ln,rg,l1,c1,n5]
theorem Kz(hs:S.length<=6)(n:Nat){a:List Nat}(ha:a∈l)(hl:∀k,k<a.length->a.take k++a.drop (k+1)∈l)(h5:a.length<=5):aB T dfs (n+1) 27 [.tdc (bT (kD S cv cs) l),tN a]=.ok (.bl true):=by
 have hb:=bI
 obtain⟨y2,y3,lo⟩:=E9 (cs:=cs) (cv:=cv) hs n ha hl (aD a.length) .no .no (λk hk=>bO.mp hk) h5
 have ln:Bt.run .len [tN a]=.ok (.int (a.length:Nat)):=by
  show Res.ok (D.int ((aA a).length:Nat))=_
  rw[cE]
 have rg:=eE (n:=a.length) (by lia)
 have l1:((aD a.length).map aC).length<=big:=by rw[aF,bQ];lia
 refine bW (k:=false) rfl rfl rfl ?_
 generalize D.tdc (bT (kD S cv cs) l)=DD at *
 generalize (aD a.length).map aC=rr at *
 generalize tN a=ta at *
 simp[xX,ln,rg,l1,lo]
end
section
variable{P:List Part}{Q:List Player}{S:List Scene}{cs:List Nat}{cv:List (Nat×Nat)}{x0 x1 x8 x9 x10:Sl}
theorem pow_at{j:Nat}(h:j<5):D.ix (.lst [.int 1,.int 2,.int 4,.int 8,.int 16]) (.int (j:Int))=.ok (.int (cM j:Int))/\0<cM j/\cM j<1000:=by
 have:j=0\/j=1\/j=2\/j=3\/j=4:=by lia
 rcases this with rfl|rfl|rfl|rfl|rfl<;>exact⟨rfl,by decide,by decide⟩
theorem LA(cf:Nat->List D->Res D){q b:Nat}(hq:q<=5)(a0 a1 a2 a3 a4 a5 a7 a8 a9 a10:Sl):aR (aG T cf 1 [6] (.one 0) xZ xY [a0,a1,a2,a3,a4,a5,.v (.int (b:Int)),a7,a8,a9,a10]) ((aD q).map aC)=.ok (aA (awB q b)):=by
 refine nJ aC (λj=>decide (b/cM j%2=1)) λj hj=>?_
 obtain⟨e1,h1,h2⟩:=pow_at (j:=j) (by have:=bO.mp hj;lia)
 have e2:D.bin .FloorDiv (.int (b:Int)) (.int (cM j:Int))=.ok (.int ((b/cM j:Nat):Int)):=by
  rw[qG (by lia)];rfl
 have e3:D.bin .Mod (.int ((b/cM j:Nat):Int)) (.int 2)=.ok (.int ((b/cM j%2:Nat):Int)):=by
  rw[qF (by lia)];rfl
 have e4:D.cmp .Eq (.int ((b/cM j%2:Nat):Int)) (.int 1)=.ok (.bl (decide (b/cM j%2=1))):=by
  show aE (D.eqOk _ _) (.ok (D.bl (((b/cM j%2:Nat):Int)==1)))=_
  rw[aZ (by rfl)]
  refine congrArg (λz=>Res.ok (D.bl z)) ?_
  by_cases z:b/cM j%2=1
  ·rw[z];rfl
  ·rw[decide_eq_false z,beq_eq_false_iff_ne];lia
 generalize decide (b/cM j%2=1)=k at *
 generalize ((b/cM j%2:Nat):Int)=z2 at *
 generalize ((b/cM j:Nat):Int)=z1 at *
 generalize ((cM j:Nat):Int)=z0 at *
 cases k<;>simp[aG,Tr.aQ,xZ,xY,aC,e1,e2,e3,e4]
theorem E_(st:Stage P Q S cs cv)(m:Nat):∀(r done:List Nat)(x6 x7:Sl),done.length+r.length<=100->((done++r).map (awB Q.length)).Nodup ->
 ∃y6 y7,bC (aS T (aB T dfs (m+10)) (.one 6) yA) (r.map aC) [x0,x1,.v (.int (Q.length:Int)),.v (bkS P Q S cv),.v (.lst (aA cs)),.o (.tdc (bT (kD S cv cs) (done.map (awB Q.length)))),x6,x7,x8,x9,x10]=.ok (.nx [x0,x1,.v (.int (Q.length:Int)),.v (bkS P Q S cv),.v (.lst (aA cs)),.o (.tdc (bT (kD S cv cs) ((done++r).map (awB Q.length)))),y6,y7,x8,x9,x10])
 |[],done,x6,x7,_,_=>⟨x6,x7,by rw[lR];rfl⟩
 |b::r,done,x6,x7,hl,nd=>by
  have hb:=bI
  have hq:=st.hq
  rw[aP]at hl
  rw[show done++b::r=(done++[b])++r by rw[kQ];rfl]at nd⊢
  obtain⟨y6,y7,ih⟩:=E_ st m r (done++[b]) (.v (.int (b:Int))) (.v (.lst (aA (awB Q.length b)))) (by rw[bR,fG];lia) nd
  refine⟨y6,y7,?_⟩
  have ni:awB Q.length b∉done.map (awB Q.length):=by
   rw[dF,kU]at nd
   have nd:=nd.1
   rw[dF,kU]at nd
   intro z
   exact nd.2.2 _ z _ (bX.mpr rfl) rfl
  have pu:=Ku (f:=kD S cv cs) (done.map (awB Q.length)) ni
  have kv:=Kt (awB Q.length b)
  have ix:=sE (f:=kD S cv cs) (l:=done.map (awB Q.length)++[awB Q.length b]) (fT _ (bX.mpr rfl))
  have kk:aB T dfs (m+10) 26 [bkS P Q S cv,.lst (aA cs),.lst (aA (awB Q.length b))]=.ok (kD S cv cs (awB Q.length b)):=Kl st (bV aw_len (by lia)) m
  have tp:Bt.run .tuple [.lst (aA (awB Q.length b))]=.ok (tN (awB Q.length b)):=rfl
  have cc:=λa5 a7=>LA (aB T dfs (m+10)) (b:=b) hq x0 x1 (.v (.int (Q.length:Int))) (.v (bkS P Q S cv)) (.v (.lst (aA cs))) a5 a7 x8 x9 x10
  have rg:=eE (n:=Q.length) (by lia)
  have l1:((aD Q.length).map aC).length<=big:=by rw[aF,bQ];lia
  have lb:(bT (kD S cv cs) (done.map (awB Q.length))).length<big:=by unfold bT;rw[aF,aF];lia
  have nn:D.isNon (kD S cv cs (awB Q.length b))=false:=rfl
  have is:D.cmp .Is (kD S cv cs (awB Q.length b)) .non=.ok (.bl false):=rfl
  rw[show(done++[b]).map (awB Q.length)=done.map (awB Q.length)++[awB Q.length b] by rw[dF];rfl]at ih
  rw[aK,<-ih]
  refine dC ?_
  rw[<-pu]at ix⊢
  generalize bT (kD S cv cs) (done.map (awB Q.length))=el at *
  generalize kD S cv cs (awB Q.length b)=kd at *
  generalize aA (awB Q.length b)=na at *
  generalize tN (awB Q.length b)=ta at *
  generalize gU (awB Q.length b)=kw at *
  generalize (aD Q.length).map aC=rr at *
  generalize bkS P Q S cv=BK at *
  generalize aA cs=nc at *
  simp[aS,yA,aC,cc,rg,l1,kk,tp,kv,lb,ix,is,nn]
theorem Ea(p:Nat->Bool):∀l:List Nat,((l.filter p).map aC++[D.non])[0]?=some (bH (l.find? p))
 |[]=>rfl
 |a::r=>by
  rw[gN,cJ]
  cases p a with
  |true=>rfl
  |false=>exact Ea p r
theorem Eb(st:Stage P Q S cs cv)(m:Nat){l:List (List Nat)}(hl:∀a∈l,∀k,k<a.length->a.take k++a.drop (k+1)∈l)(x2 x4 x6 x8:Sl):∀(r:List (List Nat))(x7 x9 x10:Sl),(∀a∈r,a∈l/\a.length<=5) ->
 ∃y7 y9 y10,bC (aS T (aB T dfs (m+10)) (.many [7,9]) yC) (r.map λa=>.tup [tN a,bH (dE S cv cs a)]) [x0,x1,x2,.v (bkS P Q S cv),x4,.v (.tdc (bT (kD S cv cs) l)),x6,x7,x8,x9,x10]=.ok (.nx [x0,x1,x2,.v (bkS P Q S cv),x4,.v (.tdc (bT (kD S cv cs) l)),x6,y7,x8,y9,y10])
 |[],x7,x9,x10,_=>⟨x7,x9,x10,rfl⟩
 |a::r,x7,x9,x10,h=>by
  have hb:=bI
  have hs:=st.hs
  obtain⟨ha,h5⟩:=h a bF
  obtain⟨y7,y9,y10,ih⟩:=Eb st m hl x2 x4 x6 x8 r (.v (tN a)) (.v (bH (dE S cv cs a))) (.v (.lst (((aD S.length).filter λk=>decide (cI S cv cs a k = "lacks")).map aC))) λb hb=>h b (bB _ hb)
  refine⟨y7,y9,y10,?_⟩
  have nw:=Kz (cs:=cs) (cv:=cv) hs (m+9) ha (hl a ha) h5
  have i1:=sE (f:=kD S cv cs) ha
  have c1:∀a9 a10,aR (aG T (aB T dfs (m+10)) 1 [5,7] (.one 0) rS rR [x0,x1,x2,.v (bkS P Q S cv),x4,.v (.tdc (bT (kD S cv cs) l)),x6,.v (tN a),x8,a9,a10]) ((aD S.length).map aC)=.ok (((aD S.length).filter λk=>decide (cI S cv cs a k = "lacks")).map aC):=λa9 a10=>by
   refine nJ aC _ λj hj=>?_
   have hj:=bO.mp hj
   have k1:D.ix (kD S cv cs a) (.int (j:Int))=.ok (.str (cI S cv cs a j)):=yU hj
   have q1:D.cmp .Eq (.str "lacks") (.str "lacks")=.ok (.bl true):=rfl
   have q2:D.cmp .Eq (.str "covered") (.str "lacks")=.ok (.bl false):=rfl
   rcases yR (cv:=cv) (cs:=cs) (aw:=a) hj with w|w
   ·have d0:decide (cI S cv cs a j = "lacks")=false:=decide_eq_false (by rw[w];decide)
    rw[w]at k1
    generalize kD S cv cs a=ka at *
    generalize D.tdc (bT (kD S cv cs) l)=DD at *
    generalize tN a=ta at *
    simp[aG,Tr.aQ,rS,rR,aC,i1,k1,q2,d0]
   ·have d0:decide (cI S cv cs a j = "lacks")=true:=decide_eq_true w
    rw[w]at k1
    generalize kD S cv cs a=ka at *
    generalize D.tdc (bT (kD S cv cs) l)=DD at *
    generalize tN a=ta at *
    simp[aG,Tr.aQ,rS,rR,aC,i1,k1,q1,d0]
  have hf:=Ea (λk=>decide (cI S cv cs a k = "lacks")) (aD S.length)
  have lf:(((aD S.length).filter λk=>decide (cI S cv cs a k = "lacks")).map aC).length<=6:=by
   rw[aF]
   exact bV (fJ ..) (by rw[bQ];exact hs)
  have lv:bH (dE S cv cs a)=bH ((aD S.length).find? λk=>decide (cI S cv cs a k = "lacks")):=rfl
  generalize hfi:((aD S.length).filter λk=>decide (cI S cv cs a k = "lacks")).map aC=fi at *
  have ad:D.bin .Add (.lst fi) (.lst [.non])=.ok (.lst (fi++[.non])):=by
   show aE (decide (fi.length+1<=big)) _=_
   rw[aZ (decide_eq_true (by lia))]
  have i2:D.ix (.lst (fi++[.non])) (.int 0)=.ok (bH (dE S cv cs a)):=by
   rw[lv]
   exact lI (i:=0) hf
  have ne:D.cmp .NotEq (bH (dE S cv cs a)) (bH (dE S cv cs a))=.ok (.bl false):=qI (by cases dE S cv cs a<;>rfl)
  have ln:=nX (S:=S)
  have rg:=eE (n:=S.length) (by lia)
  have l1:((aD S.length).map aC).length<=big:=by rw[aF,bQ];lia
  rw[aK,<-ih]
  refine dC ?_
  clear lv hf hfi
  generalize bH (dE S cv cs a)=lk at *
  generalize fi++[.non]=f2 at *
  generalize D.tdc (bT (kD S cv cs) l)=DD at *
  generalize (aD S.length).map aC=rr at *
  generalize tN a=ta at *
  simp only[bkS]at c1⊢
  generalize S.map Scene.enc=ss at *
  simp[aS,yC,ln,rg,l1,c1,ad,i2,ne,nw]
end
noncomputable def tlB:S->S
 |.cons _ r=>r
 |s=>s
noncomputable def hdB:S->S
 |.cons a _=>a
 |s=>s
noncomputable def kL:S:=tlB (tlB (tlB (tlB gJ)))
theorem Ec{P:List Part}{Q:List Player}{S:List Scene}{cs:List Nat}{cv:List (Nat×Nat)}(st:Stage P Q S cs cv)(h0:0<Q.length)(m:Nat)(x0 x1:Sl) :
 exS T (aB T dfs (m+10)) kL [x0,x1,.v (.int (Q.length:Int)),.v (bkS P Q S cv),.v (.lst (aA cs)),.no,.no,.no,.no,.no,.no]=.ok (.rt (.bl true) false):=by
 have hb:=bI
 have hq:=st.hq
 obtain⟨s1,s2,s3,s4,s5⟩:=Kw Q.length (by lia)
 obtain⟨t1,t2⟩:=srt_lt Q.length (by lia)
 obtain⟨h1,h2,h3⟩:=Kx Q.length (by lia)
 obtain⟨h3,h4⟩:=h3 h0
 have fl:=(sD Q.length (by lia) Q.length (by lia)).2.1
 obtain⟨y6,y7,lo⟩:=E_ (x0:=x0) (x1:=x1) (x8:=.no) (x9:=.no) (x10:=.no) st m (aD (cM Q.length)) [] .no .no (by have:=s1;rw[gX,bQ];lia) s3
 rw[sS,kP,show bT (kD S cv cs) []=[]from rfl,show(aD (cM Q.length)).map (awB Q.length)=dZ Q.length from rfl]at lo
 have nt:=Ks st m (most:=Q.length) (by lia)
 obtain⟨z7,z9,z10,l2⟩:=Eb (x0:=x0) (x1:=x1) st m (l:=dZ Q.length) (λa ha k hk=>by
  have:=dN.mp (dN.mp s4 a ha) k (bO.mpr hk)
  exact jQ.mp this) (.v (.int (Q.length:Int))) (.v (.lst (aA cs))) y6 (.v (.lst ((fnd Q.length Q.length).map λa=>.tup [tN a,bH (dE S cv cs a)]))) (fnd Q.length Q.length) y7 .no .no (λa ha=>by
  have:=dN.mp s5 a ha
  rw[aH,decide_eq_true_eq]at this
  exact⟨jQ.mp this.1,this.2⟩)
 have c1:∀env,aR (aG T (aB T dfs (m+10)) 1 [] (.one 0) yB (.con (.bl true)) env) ((fnd Q.length Q.length).map λa=>.tup [tN a,bH (dE S cv cs a)])=.ok ((fnd Q.length Q.length).map tN):=λenv=>by
  rw[cC (λa=>D.tup [tN a,bH (dE S cv cs a)]) (λa=>some (tN a)) (λa _=>by
   generalize tN a=t at *
   simp[aG,Tr.aQ,yB]),eZ]
 have r1:=E8 h1 h3 (by lia) t1
 have r2:=E8 h2 h4 (by lia) t2
 rw[srt_ok Q.length (by lia)]at r1
 have dk:=Kv (kD S cv cs) (dZ Q.length) (by lia)
 have ne:D.cmp .NotEq (.lst ((kK (dZ Q.length)).map tN)) (.lst ((kK (dZ Q.length)).map tN))=.ok (.bl false):=qI (by rw[qH];exact nI tN 29 (λa=>by unfold tN;rw[vI];exact iZ 28 a) _)
 have pw:D.ix (.lst [.int 1,.int 2,.int 4,.int 8,.int 16,.int 32]) (.int (Q.length:Int))=.ok (.int (cM Q.length:Int)):=by
  have:Q.length=0\/Q.length=1\/Q.length=2\/Q.length=3\/Q.length=4\/Q.length=5:=by lia
  rcases this with h|h|h|h|h|h<;>rw[h]<;>rfl
 have rg:=eE (n:=cM Q.length) (by lia)
 have l1:((aD (cM Q.length)).map aC).length<=big:=by rw[aF,bQ];lia
 have l3:((fnd Q.length Q.length).map λa=>D.tup [tN a,bH (dE S cv cs a)]).length<=big:=by rw[aF];lia
 have ty:∀l:List D,D.isTy (.lst l) .list=true:=λ_=>rfl
 have ty2:∀l:List D,D.isDct (.lst l)=false:=λ_=>rfl
 clear s1 s2 s3 s4 s5 t1 t2 h1 h2 h3 h4 fl
 generalize bT (kD S cv cs) (dZ Q.length)=DD at *
 generalize (fnd Q.length Q.length).map (λa=>D.tup [tN a,bH (dE S cv cs a)])=nn at *
 generalize (fnd Q.length Q.length).map tN=kl at *
 generalize (dZ Q.length).map tN=k2 at *
 generalize (kK (dZ Q.length)).map tN=k3 at *
 generalize (aD (cM Q.length)).map aC=rr at *
 generalize bkS P Q S cv=BK at *
 generalize aA cs=nc at *
 simp[kL,tlB,gJ,Tr.A_,Tr.Aa,pw,rg,l1,lo,nt,ty,ty2,l3,c1,r1,dk,r2,ne,l2]
theorem Stage.hur{P:List Part}{Q:List Player}{S:List Scene}{cs:List Nat}{cv:List (Nat×Nat)}(st:Stage P Q S cs cv){a:Nat}(ha:a<S.length)(h:fQ P Q (psV P (dY S a ha)) (cs.map some)=[]):Stage P Q (dY S a ha) cs cv:=
 ⟨st.hp,st.hq,by rw[EH];exact st.hs,st.one,K_ ha st.good,st.len,st.lt,h,st.cov⟩
theorem enc_pl:∀f:Flt,D.pl 29 f.enc=true:=by intro f;cases f<;>rfl
theorem LB(ns:List Int)(hn:ns.length<=63):aB T dfs 30 28 [.lst (ns.map D.int)]=.ok (.bl true):=by
 have hb:=bI
 have c0:=kH 28 ns 0
 rw[show((0:Nat):Int)=0 from rfl]at c0
 generalize fE ns 0=c at c0
 have m7:=zL (c/2) (show(7:Int)≠0 by decide)
 have m7':=zM (c/2) (show(0:Int)<7 by decide)
 have m5:=zL (c/14) (show(5:Int)≠0 by decide)
 have m5':=zM (c/14) (show(0:Int)<5 by decide)
 obtain⟨P,Q,S,cs,cv,md,hQ,e1⟩:=KR 26 ns (c/2%7).toNat (1+c/14%5).toNat (by lia) (by lia) (decide (c%2=1))
 rw[sR m7,sR (show 0<=1+c/14%5 by lia)]at e1
 have st:=md.stage
 have hq0:0<Q.length:=by lia
 have hqi:(1+c/14%5)=(Q.length:Int):=by rw[hQ,sR (show 0<=1+c/14%5 by lia)]
 have f1:D.bin .FloorDiv (.int c) (.int 14)=.ok (.int (c/14)):=rfl
 have f2:D.bin .FloorDiv (.int c) (.int 2)=.ok (.int (c/2)):=rfl
 have f3:D.bin .FloorDiv (.int c) (.int 70)=.ok (.int (c/70)):=rfl
 have f4:D.bin .FloorDiv (.int c) (.int 280)=.ok (.int (c/280)):=rfl
 have g1:D.bin .Mod (.int (c/14)) (.int 5)=.ok (.int (c/14%5)):=rfl
 have g2:D.bin .Mod (.int (c/2)) (.int 7)=.ok (.int (c/2%7)):=rfl
 have g3:D.bin .Mod (.int (c/70)) (.int 4)=.ok (.int (c/70%4)):=rfl
 have g4:D.bin .Mod (.int c) (.int 2)=.ok (.int (c%2)):=rfl
 have ad:D.bin .Add (.int 1) (.int (c/14%5))=.ok (.int (1+c/14%5)):=rfl
 have q0:D.cmp .Eq (.int (c%2)) (.int 1)=.ok (.bl (decide (c%2=1))):=rfl
 have q1:D.cmp .Eq (.int (c/70%4)) (.int 3)=.ok (.bl (decide (c/70%4=3))):=rfl
 have lt:=Ec st hq0 19 (.v (.lst (ns.map D.int))) (.v (.int c))
 rw[show(19+10:Nat)=29 from rfl]at lt
 have ne:D.cmp .NotEq (.tup (S.map Scene.enc)) (.tup [])=.ok (.bl (!(S.map Scene.enc).isEmpty)):=by
  show aE (D.eqOk _ _) (.ok (D.bl (!D.eqb _ _)))=_
  rw[aZ (by unfold D.eqOk;rw[vI,nI Scene.enc 29 (λq=>by unfold Scene.enc;rw[vI];simp[D.pls,D.pl,iZ]) S];rfl)]
  cases S<;>rfl
 rw[hqi]at e1 ad
 refine bW (k:=false) rfl rfl rfl ?_
 show exS T (aB T dfs 29) (.cons (hdB gJ) (.cons (hdB (tlB gJ)) (.cons (hdB (tlB (tlB gJ))) (.cons (hdB (tlB (tlB (tlB gJ)))) kL)))) _=_
 generalize hmx:decide (c%2=1)=mx at *
 by_cases h3:c/70%4=3/\S≠[]
 ·obtain⟨h3,hS⟩:=h3
  have hs0:0<S.length:=List.length_pos_iff.mpr hS
  rw[decide_eq_true h3]at q1
  rw[show(S.map Scene.enc).isEmpty=false by cases S with|nil=>exact absurd rfl hS|cons _ _=>rfl]at ne
  have hz:(0:Int)<(S.length:Int):=by lia
  have z1:=zL (c/280) (Int.ne_of_gt hz)
  have z2:=zM (c/280) hz
  have g5:D.bin .Mod (.int (c/280)) (.int (S.length:Int))=.ok (.int (c/280%(S.length:Int))):=qF hz
  generalize hat:c/280%(S.length:Int)=a at *
  obtain⟨k,rfl⟩:=Int.eq_ofNat_of_zero_le z1
  have hk:k<S.length:=by lia
  have e2:aB T dfs 29 23 [.tup [.tup (P.map Part.enc),.tup (Q.map Player.enc),.tup (S.map Scene.enc),.tup [],.tup (cv.map prD)],.int (k:Int)]=.ok (.tup [.tup (P.map Part.enc),.tup (Q.map Player.enc),.tup ((dY S k hk).map Scene.enc),.tup [],.tup (cv.map prD)]):=K9 28 (P.map Part.enc) (.tup (Q.map Player.enc)) (.tup []) (.tup (cv.map prD)) S st.hs hk
  have hp6:=st.hp
  have fa:aB T dfs 29 8 [.tup [.tup (P.map Part.enc),.tup (Q.map Player.enc),.tup ((dY S k hk).map Scene.enc),.tup [],.tup (cv.map prD)],.lst (aA cs)]=.ok (.lst ((fQ P Q (psV P (dY S k hk)) (cs.map some)).map Flt.enc)):=by
   rw[EE]
   exact ED 23 P Q (dY S k hk) (.tup []) (.tup (cv.map prD)) (by lia) (by rw[EH];have:=st.hs;lia) st.one (cs.map some) (by rw[aF];exact st.len) (λj hj=>by
    obtain⟨y,hy,e⟩:=bJ.mp hj
    cases e
    exact st.lt _ hy)
  have ln:=nX (S:=S)
  by_cases hf:fQ P Q (psV P (dY S k hk)) (cs.map some)=[]
  ·have lt:=Ec (st.hur hk hf) hq0 19 (.v (.lst (ns.map D.int))) (.v (.int c))
   rw[show(19+10:Nat)=29 from rfl]at lt
   rw[hf,kP]at fa
   have n0:D.cmp .NotEq (.lst []) (.lst [])=.ok (.bl false):=rfl
   simp only[bkS]at lt
   generalize (dY S k hk).map Scene.enc=hs at *
   generalize kL=LT at *
   generalize P.map Part.enc=pp at *
   generalize Q.map Player.enc=qq at *
   generalize S.map Scene.enc=ss at *
   generalize cv.map prD=cc at *
   generalize aA cs=nc at *
   simp[hdB,tlB,gJ,c0,f1,f2,f3,f4,g1,g2,g3,g4,g5,ad,q0,q1,e1,ne,ln,e2,fa,n0,lt]
  ·have n0:D.cmp .NotEq (.lst ((fQ P Q (psV P (dY S k hk)) (cs.map some)).map Flt.enc)) (.lst [])=.ok (.bl true):=by
    cases hF:fQ P Q (psV P (dY S k hk)) (cs.map some)with
    |nil=>exact absurd hF hf
    |cons x r=>
     show aE (D.eqOk _ _) (.ok (D.bl (!D.eqb _ _)))=_
     rw[aZ (by unfold D.eqOk;rw[qH,nI Flt.enc 29 enc_pl];rfl)]
     rfl
   generalize (fQ P Q (psV P (dY S k hk)) (cs.map some)).map Flt.enc=ff at *
   generalize (dY S k hk).map Scene.enc=hs at *
   generalize kL=LT at *
   generalize P.map Part.enc=pp at *
   generalize Q.map Player.enc=qq at *
   generalize S.map Scene.enc=ss at *
   generalize cv.map prD=cc at *
   generalize aA cs=nc at *
   simp[hdB,tlB,gJ,c0,f1,f2,f3,f4,g1,g2,g3,g4,g5,ad,q0,q1,e1,ne,ln,e2,fa,n0]
 ·simp only[bkS]at lt
  by_cases h3':c/70%4=3
  ·have hS:S=[]:=Classical.byContradiction λz=>h3 ⟨h3',z⟩
   rw[decide_eq_true h3']at q1
   rw[show(S.map Scene.enc).isEmpty=true by rw[hS];rfl]at ne
   generalize kL=LT at *
   generalize P.map Part.enc=pp at *
   generalize Q.map Player.enc=qq at *
   generalize S.map Scene.enc=ss at *
   generalize cv.map prD=cc at *
   generalize aA cs=nc at *
   simp[hdB,tlB,gJ,c0,f1,f2,f3,f4,g1,g2,g3,g4,ad,q0,q1,e1,ne,lt]
  ·rw[decide_eq_false h3']at q1
   generalize kL=LT at *
   generalize P.map Part.enc=pp at *
   generalize Q.map Player.enc=qq at *
   generalize S.map Scene.enc=ss at *
   generalize cv.map prD=cc at *
   generalize aA cs=nc at *
   simp[hdB,tlB,gJ,c0,f1,f2,f3,f4,g1,g2,g3,g4,ad,q0,q1,e1,lt]
end K64
namespace K64
open PySem L2 Tr
noncomputable def top(i:Nat):Stmt:=PySem.Challenge.pw_troupe_k64_whole_every_night.main.body.getD i (.Pass ⟨0,0,0,0⟩)
noncomputable abbrev LC:DefT:=⟨"time_between", top 8,["book", "s", "t", "scenes"],["book", "s", "t"],vZ,none⟩
noncomputable abbrev LD:DefT:=⟨"change_time", top 9,["book", "one", "other"],["book", "one", "other"],wA,none⟩
noncomputable abbrev LF:DefT:=⟨"short_change_from", top 10,["book", "s", "one", "other", "need", "t", "have"],["book", "s", "one", "other"],qL,none⟩
noncomputable abbrev LG:DefT:=⟨"reason_from", top 11,["book", "s", "i", "j", "numbers"],["book", "s", "i", "j"],lK,none⟩
noncomputable abbrev LH:DefT:=⟨"reason_of", top 12,["book", "i", "j", "s", "reason"],["book", "i", "j"],qN,none⟩
noncomputable abbrev LI:DefT:=⟨"clashes_of", top 13,["book", "pairs", "many", "i"],["book"],wC,none⟩
noncomputable abbrev LJ:DefT:=⟨"fault_of_part", top 15,["book", "i", "player"],["book", "i", "player"],nQ,none⟩
noncomputable abbrev LK:DefT:=⟨"have_one_player", top 16,["casting", "i", "j"],["casting", "i", "j"],qQ,none⟩
noncomputable abbrev LL:DefT:=⟨"faults_of", top 17,["book", "casting", "faults"],["book", "casting"],wF,none⟩
noncomputable abbrev LM:DefT:=⟨"ask_that_it_plays", top 18,["book", "casting"],["book", "casting"],wG,none⟩
noncomputable abbrev LN:DefT:=⟨"gaps_of", top 20,["book", "casting", "away", "scene"],["book", "casting", "away", "scene"],wH,none⟩
noncomputable abbrev LO:DefT:=⟨"covers_of", top 21,["book", "casting", "away", "scene", "part", "busy", "told"],["book", "casting", "away", "scene", "part"],wJ,none⟩
noncomputable abbrev LP:DefT:=⟨"lack_told", top 23,["covered", "asked", "gap", "gaps"],["covered", "asked", "gap"],wL,none⟩
noncomputable abbrev LQ:DefT:=⟨"scene_told", top 24,["book", "casting", "away", "scene", "gaps", "choices", "covered", "gap", "asked", "players"],["book", "casting", "away", "scene"],qZ,none⟩
noncomputable abbrev LR:DefT:=⟨"night_of", top 25,["book", "casting", "away"],["book", "casting", "away"],wR,none⟩
noncomputable abbrev LS:DefT:=⟨"first_lacking", top 26,["book", "casting", "away", "scene"],["book", "casting", "away"],wU,none⟩
noncomputable abbrev LU:DefT:=⟨"one_longer", top 27,["sets", "many", "longer", "players", "start"],["sets", "many"],wW,none⟩
noncomputable abbrev LV:DefT:=⟨"sets_up_to", top 28,["many", "most", "sets", "found", "size"],["many", "most"],wY,none⟩
noncomputable abbrev LW:DefT:=⟨"nights_of", top 29,["book", "casting", "most"],["book", "casting", "most"],xA,none⟩
noncomputable abbrev LX:DefT:=⟨"_law_cell_at", top 31,["_law_script", "_law_k"],["_law_script", "_law_k"],rA,none⟩
noncomputable abbrev LY:DefT:=⟨"_law_digits", top 32,["_law_cell", "_law_size", "_law_many", "_law_mixed", "_law_found", "_law_k", "_law_number"],["_law_cell", "_law_size", "_law_many", "_law_mixed"],xB,none⟩
noncomputable abbrev LZ:DefT:=⟨"_law_scene", top 33,["_law_cell", "_law_k", "_law_casting", "_law_mixed", "_law_row", "_law_some", "_law_part"],["_law_cell", "_law_k", "_law_casting", "_law_mixed"],rD,none⟩
noncomputable abbrev L0:DefT:=⟨"_law_staged", top 34,["_law_script", "_law_many", "_law_players", "_law_mixed", "_law_casting", "_law_voices", "_law_off", "_law_put_on", "_law_parts", "_law_more", "_law_team", "_law_j", "_law_own", "_law_told", "_law_covers", "_law_k", "_law_row", "_law_scenes"],["_law_script", "_law_many", "_law_players", "_law_mixed"],xF,none⟩
noncomputable abbrev L1:DefT:=⟨"_law_hurried", top 35,["_law_book", "_law_at", "_law_name", "_law_length", "_law_pause", "_law_parts", "_law_scenes"],["_law_book", "_law_at"],xG,none⟩
noncomputable abbrev L3:DefT:=⟨"_law_may", top 36,["_law_book", "_law_casting", "_law_away", "_law_scene_here", "_law_part", "_law_busy"],["_law_book", "_law_casting", "_law_away", "_law_scene_here", "_law_part"],xK,none⟩
noncomputable abbrev L4:DefT:=⟨"_law_right", top 37,["_law_book", "_law_casting", "_law_away", "_law_scene_here", "_law_found", "_law_gaps", "_law_players", "_law_some", "_law_part"],["_law_book", "_law_casting", "_law_away", "_law_scene_here", "_law_found"],rO,none⟩
noncomputable abbrev L5:DefT:=⟨"_law_kinds", top 38,["_law_book", "_law_casting", "_law_away", "_law_told", "_law_k"],["_law_book", "_law_casting", "_law_away"],xV,none⟩
noncomputable abbrev L6:DefT:=⟨"_law_no_worse", top 39,["_law_kinds_here", "_law_away", "_law_k", "_law_fewer"],["_law_kinds_here", "_law_away"],xX,none⟩
noncomputable abbrev d_law:DefT:=⟨"law", top 40,["_law_script", "_law_cell", "_law_players", "_law_book", "_law_casting", "_law_kinds_here", "_law_bits", "_law_away", "_law_nights", "_law_first", "_law_lacking"],["_law_script"],gJ,none⟩
noncomputable abbrev L7:DefT:=⟨"finds_cover", top 22,["choices", "covered", "asked", "gap", "player"],["choices", "covered", "asked", "gap"],nV,none⟩
noncomputable def defs:List DefT:=[LC,LD,LF,LG,LH,LI,LJ,LK,LL,LM,LN,LO,LP,LQ,LR,LS,LU,LV,LW,LX,LY,LZ,L0,L1,L3,L4,L5,L6,d_law,L7]
noncomputable def Tx:Txt:=⟨["PARTS", "PLAYERS", "SCENES", "COVERS"],[("time_between":Str),("change_time":Str),("short_change_from":Str),("reason_from":Str),("reason_of":Str),("clashes_of":Str),("fault_of_part":Str),("have_one_player":Str),("faults_of":Str),("ask_that_it_plays":Str),("gaps_of":Str),("covers_of":Str),("lack_told":Str),("scene_told":Str),("night_of":Str),("first_lacking":Str),("one_longer":Str),("sets_up_to":Str),("nights_of":Str),("_law_cell_at":Str),("_law_digits":Str),("_law_scene":Str),("_law_staged":Str),("_law_hurried":Str),("_law_may":Str),("_law_right":Str),("_law_kinds":Str),("_law_no_worse":Str),("law":Str)],[],[],[],[],[(29, "finds_cover")]⟩
theorem okB:defs.all (·.okB Tx)=true:=by decide +kernel
end K64
open PySem PySem.W PyProof.Rows
set_option maxRecDepth 100000 in
set_option maxHeartbeats 0 in
theorem PySem.Challenge.cw_troupe_k64_whole_every_night_holds : PySem.Challenge.rw_troupe_k64_whole_every_night.Holds := by
 refine K64.hd ?_
 k_fill
 refine Tr.walkT (l:=PySem.Challenge.rw_troupe_k64_whole_every_night) (T:=K64.T) (Tx:=K64.Tx) (defs:=K64.defs) (i:=28) (n:=30) rfl rfl rfl rfl rfl ⟨rfl,by decide,by decide⟩ K64.LB (λw h Y=>PySem.W.kIn_of Y) ?X (λ_ _ _ _ _ _ _=>rfl)
 case X=>
  intro w mg h KX G
  refine' Tr.JX ⟨Tr.dn_of rfl rfl,K64.okB,(Tr.all_cons (Tr.bY KX G ?a0 ?l0 ?c0 ?k0 ?b0) (Tr.all_cons (Tr.bY KX G ?a1 ?l1 ?c1 ?k1 ?b1) (Tr.all_cons (Tr.bY KX G ?a2 ?l2 ?c2 ?k2 ?b2) (Tr.all_cons (Tr.bY KX G ?a3 ?l3 ?c3 ?k3 ?b3) (Tr.all_cons (Tr.bY KX G ?a4 ?l4 ?c4 ?k4 ?b4) (Tr.all_cons (Tr.bY KX G ?a5 ?l5 ?c5 ?k5 ?b5) (Tr.all_cons (Tr.bY KX G ?a6 ?l6 ?c6 ?k6 ?b6) (Tr.all_cons (Tr.bY KX G ?a7 ?l7 ?c7 ?k7 ?b7) (Tr.all_cons (Tr.bY KX G ?a8 ?l8 ?c8 ?k8 ?b8) (Tr.all_cons (Tr.bY KX G ?a9 ?l9 ?c9 ?k9 ?b9) (Tr.all_cons (Tr.bY KX G ?a10 ?l10 ?c10 ?k10 ?b10) (Tr.all_cons (Tr.bY KX G ?a11 ?l11 ?c11 ?k11 ?b11) (Tr.all_cons (Tr.bY KX G ?a12 ?l12 ?c12 ?k12 ?b12) (Tr.all_cons (Tr.bY KX G ?a13 ?l13 ?c13 ?k13 ?b13) (Tr.all_cons (Tr.bY KX G ?a14 ?l14 ?c14 ?k14 ?b14) (Tr.all_cons (Tr.bY KX G ?a15 ?l15 ?c15 ?k15 ?b15) (Tr.all_cons (Tr.bY KX G ?a16 ?l16 ?c16 ?k16 ?b16) (Tr.all_cons (Tr.bY KX G ?a17 ?l17 ?c17 ?k17 ?b17) (Tr.all_cons (Tr.bY KX G ?a18 ?l18 ?c18 ?k18 ?b18) (Tr.all_cons (Tr.bY KX G ?a19 ?l19 ?c19 ?k19 ?b19) (Tr.all_cons (Tr.bY KX G ?a20 ?l20 ?c20 ?k20 ?b20) (Tr.all_cons (Tr.bY KX G ?a21 ?l21 ?c21 ?k21 ?b21) (Tr.all_cons (Tr.bY KX G ?a22 ?l22 ?c22 ?k22 ?b22) (Tr.all_cons (Tr.bY KX G ?a23 ?l23 ?c23 ?k23 ?b23) (Tr.all_cons (Tr.bY KX G ?a24 ?l24 ?c24 ?k24 ?b24) (Tr.all_cons (Tr.bY KX G ?a25 ?l25 ?c25 ?k25 ?b25) (Tr.all_cons (Tr.bY KX G ?a26 ?l26 ?c26 ?k26 ?b26) (Tr.all_cons (Tr.bY KX G ?a27 ?l27 ?c27 ?k27 ?b27) (Tr.all_cons (Tr.bY KX G ?a28 ?l28 ?c28 ?k28 ?b28) (Tr.all_cons (Tr.bY KX G ?a29 ?l29 ?c29 ?k29 ?b29) Tr.jN)))))))))))))))))))))))))))))),(Tr.qA (Tr.pZ KX G ?gg0) (Tr.qA (Tr.pZ KX G ?gg1) (Tr.qA (Tr.pZ KX G ?gg2) (Tr.qA (Tr.pZ KX G ?gg3) Tr.gl_nil)))),(Tr.all_cons (Tr.dU KX G ?z0) (Tr.all_cons (Tr.dU KX G ?z1) (Tr.all_cons (Tr.dU KX G ?z2) (Tr.all_cons (Tr.dU KX G ?z3) (Tr.all_cons (Tr.dU KX G ?z4) (Tr.all_cons (Tr.dU KX G ?z5) (Tr.all_cons (Tr.dU KX G ?z6) (Tr.all_cons (Tr.dU KX G ?z7) (Tr.all_cons (Tr.dU KX G ?z8) (Tr.all_cons (Tr.dU KX G ?z9) (Tr.all_cons (Tr.dU KX G ?z10) (Tr.all_cons (Tr.dU KX G ?z11) (Tr.all_cons (Tr.dU KX G ?z12) (Tr.all_cons (Tr.dU KX G ?z13) (Tr.all_cons (Tr.dU KX G ?z14) (Tr.all_cons (Tr.dU KX G ?z15) (Tr.all_cons (Tr.dU KX G ?z16) (Tr.all_cons (Tr.dU KX G ?z17) (Tr.all_cons (Tr.dU KX G ?z18) Tr.jN))))))))))))))))))),Tr.jN,Tr.jN,Tr.jN,Tr.jN,(Tr.all_cons ⟨_,rfl,rfl⟩ Tr.jN),Tr.jN⟩ rfl
  (case a0=>k_is);(case l0=>k_is);(case c0=>k_is);(case k0=>k_is)
  (case b0=>exact λ_ _ _ _ _ _=>Tr.iH (λ_ _ _=>rfl))
  (case a1=>k_is);(case l1=>k_is);(case c1=>k_is);(case k1=>k_is)
  (case b1=>exact λ_ _ _ _ _ _=>Tr.iH (λ_ _ _=>rfl))
  (case a2=>k_is);(case l2=>k_is);(case c2=>k_is);(case k2=>k_is)
  (case b2=>exact λ_ _ _ _ _ _=>Tr.len4 (λ_ _ _ _=>rfl))
  (case a3=>k_is);(case l3=>k_is);(case c3=>k_is);(case k3=>k_is)
  (case b3=>exact λ_ _ _ _ _ _=>Tr.len4 (λ_ _ _ _=>rfl))
  (case a4=>k_is);(case l4=>k_is);(case c4=>k_is);(case k4=>k_is)
  (case b4=>exact λ_ _ _ _ _ _=>Tr.iH (λ_ _ _=>rfl))
  (case a5=>k_is);(case l5=>k_is);(case c5=>k_is);(case k5=>k_is)
  (case b5=>exact λ_ _ _ _ _ _=>Tr.len1 (λ_=>rfl))
  (case a6=>k_is);(case l6=>k_is);(case c6=>k_is);(case k6=>k_is)
  (case b6=>exact λ_ _ _ _ _ _=>Tr.iH (λ_ _ _=>rfl))
  (case a7=>k_is);(case l7=>k_is);(case c7=>k_is);(case k7=>k_is)
  (case b7=>exact λ_ _ _ _ _ _=>Tr.iH (λ_ _ _=>rfl))
  (case a8=>k_is);(case l8=>k_is);(case c8=>k_is);(case k8=>k_is)
  (case b8=>exact λ_ _ _ _ _ _=>Tr.kF (λ_ _=>rfl))
  (case a9=>k_is);(case l9=>k_is);(case c9=>k_is);(case k9=>k_is)
  (case b9=>exact λ_ _ _ _ _ _=>Tr.kF (λ_ _=>rfl))
  (case a10=>k_is);(case l10=>k_is);(case c10=>k_is);(case k10=>k_is)
  (case b10=>exact λ_ _ _ _ _ _=>Tr.len4 (λ_ _ _ _=>rfl))
  (case a11=>k_is);(case l11=>k_is);(case c11=>k_is);(case k11=>k_is)
  (case b11=>exact λ_ _ _ _ _ _=>Tr.len5 (λ_ _ _ _ _=>rfl))
  (case a12=>k_is);(case l12=>k_is);(case c12=>k_is);(case k12=>k_is)
  (case b12=>exact λ_ _ _ _ _ _=>Tr.iH (λ_ _ _=>rfl))
  (case a13=>k_is);(case l13=>k_is);(case c13=>k_is);(case k13=>k_is)
  (case b13=>exact λ_ _ _ _ _ _=>Tr.len4 (λ_ _ _ _=>rfl))
  (case a14=>k_is);(case l14=>k_is);(case c14=>k_is);(case k14=>k_is)
  (case b14=>exact λ_ _ _ _ _ _=>Tr.iH (λ_ _ _=>rfl))
  (case a15=>k_is);(case l15=>k_is);(case c15=>k_is);(case k15=>k_is)
  (case b15=>exact λ_ _ _ _ _ _=>Tr.iH (λ_ _ _=>rfl))
  (case a16=>k_is);(case l16=>k_is);(case c16=>k_is);(case k16=>k_is)
  (case b16=>exact λ_ _ _ _ _ _=>Tr.kF (λ_ _=>rfl))
  (case a17=>k_is);(case l17=>k_is);(case c17=>k_is);(case k17=>k_is)
  (case b17=>exact λ_ _ _ _ _ _=>Tr.kF (λ_ _=>rfl))
  (case a18=>k_is);(case l18=>k_is);(case c18=>k_is);(case k18=>k_is)
  (case b18=>exact λ_ _ _ _ _ _=>Tr.iH (λ_ _ _=>rfl))
  (case a19=>k_is);(case l19=>k_is);(case c19=>k_is);(case k19=>k_is)
  (case b19=>exact λ_ _ _ _ _ _=>Tr.kF (λ_ _=>rfl))
  (case a20=>k_is);(case l20=>k_is);(case c20=>k_is);(case k20=>k_is)
  (case b20=>exact λ_ _ _ _ _ _=>Tr.len4 (λ_ _ _ _=>rfl))
  (case a21=>k_is);(case l21=>k_is);(case c21=>k_is);(case k21=>k_is)
  (case b21=>exact λ_ _ _ _ _ _=>Tr.len4 (λ_ _ _ _=>rfl))
  (case a22=>k_is);(case l22=>k_is);(case c22=>k_is);(case k22=>k_is)
  (case b22=>exact λ_ _ _ _ _ _=>Tr.len4 (λ_ _ _ _=>rfl))
  (case a23=>k_is);(case l23=>k_is);(case c23=>k_is);(case k23=>k_is)
  (case b23=>exact λ_ _ _ _ _ _=>Tr.kF (λ_ _=>rfl))
  (case a24=>k_is);(case l24=>k_is);(case c24=>k_is);(case k24=>k_is)
  (case b24=>exact λ_ _ _ _ _ _=>Tr.len5 (λ_ _ _ _ _=>rfl))
  (case a25=>k_is);(case l25=>k_is);(case c25=>k_is);(case k25=>k_is)
  (case b25=>exact λ_ _ _ _ _ _=>Tr.len5 (λ_ _ _ _ _=>rfl))
  (case a26=>k_is);(case l26=>k_is);(case c26=>k_is);(case k26=>k_is)
  (case b26=>exact λ_ _ _ _ _ _=>Tr.iH (λ_ _ _=>rfl))
  (case a27=>k_is);(case l27=>k_is);(case c27=>k_is);(case k27=>k_is)
  (case b27=>exact λ_ _ _ _ _ _=>Tr.kF (λ_ _=>rfl))
  (case a28=>k_is);(case l28=>k_is);(case c28=>k_is);(case k28=>k_is)
  (case b28=>exact λ_ _ _ _ _ _=>Tr.len1 (λ_=>rfl))
  (case a29=>k_is);(case l29=>k_is);(case c29=>k_is);(case k29=>k_is)
  (case b29=>exact λ_ _ _ _ _ _=>Tr.len4 (λ_ _ _ _=>rfl))
  (case gg0=>k_is)
  (case gg1=>k_is)
  (case gg2=>k_is)
  (case gg3=>k_is)
  (case z0=>k_is)
  (case z1=>k_is)
  (case z2=>k_is)
  (case z3=>k_is)
  (case z4=>k_is)
  (case z5=>k_is)
  (case z6=>k_is)
  (case z7=>k_is)
  (case z8=>k_is)
  (case z9=>k_is)
  (case z10=>k_is)
  (case z11=>k_is)
  (case z12=>k_is)
  (case z13=>k_is)
  (case z14=>k_is)
  (case z15=>k_is)
  (case z16=>k_is)
  (case z17=>k_is)
  (case z18=>k_is)
