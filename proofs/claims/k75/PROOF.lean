import PyProof.Rows.All
import KE.KSortTup
import KE.KDictOf
import KE.KIntText
import KE.KNestM
import KE.KFromBytes
import KE.KIsAll
import KE.KLam
import KE.KRevIter
import KE.KData
import OpenK.XGo
import PySem.Challenge.RW_troupe_k75_whole_changes
set_option Elab.async false
set_option genSizeOf false
set_option bootstrap.genMatcherCode false
set_option compiler.extract_closed false
set_option genSizeOfSpec false
set_option linter.all false
set_option maxRecDepth 100000
open Array renaming getD_eq_getD_getElem?->mP,length_toList->qY,toList_inj->A9,getElem?_toList->Gk,getElem?_eq_none->Oe,perm_iff_toList_perm->Ol,toList_map->Om,size_map->On,getElem_mem->Oo
open Bool renaming and_eq_true->aM,false_ne_true->bR,not_eq_true'->cL,or_eq_true->iR,true_and->A_,false_eq_true->Ae,and_eq_true_iff->O4,and_false->O9,noConfusion->Og,eq_iff_iff->PB
open Int renaming emod_nonneg->fH,emod_lt_of_pos->jI,toNat_natCast->kE,toNat_of_nonneg->rL,ofNat->Gq,ne_of_gt->Gv,natCast_nonneg->Ot,eq_ofNat_of_zero_le->Ou
open List renaming length_map->aD,map_cons->aG,range->aI,getElem?_eq_getElem->aR,length_cons->aW,mem_cons_of_mem->aY,replicate->aZ,mem_cons_self->bA,map_map->bB,mem_cons->bL,size_toArray->bQ,getElem?_map->cE,mem_map->cN,length_append->cP,map_append->cS,length_take->dF,append_assoc->dG,nodup_cons->dP,map_nil->dQ,mem_filter->dW,nil_append->eF,length_replicate->eR,length_range->eS,mem_append->fD,getElem?_eq_some_iff->fE,append_nil->fF,length_set->fG,mem_singleton->fX,map_congr_left->gH,getD_eq_getElem?_getD->gI,all_eq_true->gO,mem_append_right->hV,range'->iA,getElem?_append_right->iN,mem_of_getElem?->iO,length_drop->iP,length_singleton->iQ,not_mem_nil->iS,toArray->iT,getElem_mem->jH,mem_range->kC,take_of_length_le->kD,nodup_nil->kF,nodup_append->kG,foldl_cons->lB,all_cons->lC,length_filter_le->lF,length_pos_iff->lG,filterMap_eq_map'->lH,filterMap_cons->mL,mem_filterMap->mM,lookup_cons->mN,map_take->mO,filterMap_append->mQ,getElem?_replicate->oP,getElem?_append_left->oQ,replicate_succ->oR,mem_of_mem_take->oT,flatten_cons->rA,Pairwise->rC,find?_cons->rD,range_succ_eq_map->rE,drop_eq_getElem_cons->rF,map_drop->rJ,getElem?_set_self->uQ,getElem?_set_ne->uR,drop_zero->uS,drop_eq_nil_of_le->uU,getElem?_eq_none->uW,contains_iff_mem->uX,take_append_drop->uY,length->A7,eq_nil_of_length_eq_zero->Aa,any_cons->Ab,length_reverse->Ag,mem_of_mem_drop->Ah,nodup_range->Ak,mem_append_left->Ga,of_mem_zip->Gb,filterMap_map->Gc,foldl->Gd,forIn_cons->Gf,range'_succ->Gg,cons_append->Gh,isEmpty_iff->Gi,all_map->Gj,findSome?_cons->Gm,filter_cons->Gn,mem_range'_1->Gp,any_eq_false->Gr,filter_cons_of_pos->Gs,filter_cons_of_neg->Gu,length_nil->Gw,getElem_inj->O5,getElem?_take_of_lt->O6,take_sublist->O7,zip_cons_cons->Oa,take_zero->Ob,foldl_append->Oc,take_length->Od,getElem?_cons_succ->Of,drop_length->Oh,getElem_cons_zero->Oq,getElem_cons_succ->Os,length_range'->Ov,toList_toArray->Ow,length_eq_one_iff->Oy,length_erase_of_mem->Oz,take_append_of_le_length->PC,drop_append_of_le_length->PD,perm_middle->PF,drop_of_length_le->PH,pairwise_cons->PJ,pairwise_iff_getElem->PK,map_eq_nil_iff->PM,filter_eq_nil_iff->PN
open Nat renaming le_refl->aN,ne_of_lt->cC,lt_of_lt_of_le->dU,le_trans->eQ,zero_le->eT,lt_irrefl->iM,min_eq_left->lE,le_of_lt->mK,le_succ->oS,ne_of_gt->qZ,lt_succ_of_lt->rG,not_lt_zero->rH,mul_le_mul->rK,sub_zero->uT,lt_of_succ_lt_succ->uV,succ_mul->A8,lt_or_ge->Ac,lt_succ_self->Ad,lt_trans->Af,zero_add->Ai,min_eq_right->Aj,le_of_eq->Ge,lt_of_le_of_lt->O_,le_succ_of_le->Oi,succ_ne_self->Oj,toDigits_of_lt_base->Ox,div_add_mod->PL
open Option renaming some->fW,getD_none->O8
namespace K75
variable{a b:Bool}
theorem both1(h:(a&&b)=true):a=true:=(O4.mp h).1
theorem both2(h:(a&&b)=true):b=true:=(O4.mp h).2
noncomputable def vw:PySem.Program:=PySem.W.view PySem.Challenge.pw_troupe_k75_whole_changes [1,2,3,5,6,7,8,9,10,11,12,13,14,15,16,17,18,19,20,21,22,23,24,25,26,27,28,29,30,31,32,33,34,36,37,38,39,40,41,43,44,45,47,48,49,50,51,52,53,54,55,56,57,58,59,60,61,62,63,65,66,67,68,69,70,71,72,73,74,75,76,77,78,79,80]
section
open PySem PySem.W PyProof.Rows
set_option maxHeartbeats 0
noncomputable abbrev Xt(s:Shared):Bool:=xlAt vw [] s&&recOk (PySem.Challenge.rw_troupe_k75_whole_changes.row.toRowW).records s
noncomputable abbrev R:=PySem.Challenge.rw_troupe_k75_whole_changes.row.prog
noncomputable abbrev LO:List Str:=[("READERS" : PySem.Str)]
theorem hl0{ε:Type}{g:Shared->ε}{d:ε}{o:Option Shared}(h1:o.map (λs=>(seen ((recsOf vw).map (·.name)) (ownsOf vw) [] {s with gens:=#[] }))=some (expectedOf vw))(h2:o.map (λs=>(s.heap.bltView,s.heap.keysOk (looseW vw LO) ((recsOf vw).map (·.name)) ((litsOf vw).map (·.1)) ((clssOf vw (looseW vw LO)).map (·.name))&&s.heap.accountedOkI (importedModules R.main.body)&&s.heap.isNs mainGlobals&&s.heap.isNs builtinsNs&&tablesOk vw s.heap&&Xt s&&(s.gens.size==0)))=some (bltViewBooted,true))(h3:o.map (λs=>(tabsOk vw s))=some (true))(h4:o.map (λs=>(pinSeenD vw (drecsOf vw) s,plainSeenE vw (looseW vw LO) s,plainSeenD vw LO s,wideSeen vw s,clsSeenW vw LO s))=some (pinGoodD (drecsOf vw),plainGoodE vw (looseW vw LO),plainGoodD vw LO,wideGood vw,clsGoodW vw LO))(h5:o.map g=some d):o.map (λs=>(openSeen vw LO (importedModules R.main.body) Xt true s,g s))=some (openGood vw LO,d):=by
 cases o with
 |none=>cases h5
 |some s=>
  have e2:=fW.inj h2
  have e3:=congrArg Prod.fst e2
  have e4:=congrArg Prod.snd e2
  exact congrArg some (Prod.ext (Prod.ext (fW.inj h1) (Prod.ext e3 (Prod.ext e4 (Prod.ext (fW.inj h3) (fW.inj h4))))) (fW.inj h5))
theorem hl1(w:World):(openEnds treeTable R w 2900).map (λs=>(seen ((recsOf vw).map (·.name)) (ownsOf vw) [] {s with gens:=#[] }))=some (expectedOf vw):=by kernel_rfl
theorem hl2(w:World):(openEnds treeTable R w 2900).map (λs=>(s.heap.bltView,s.heap.keysOk (looseW vw LO) ((recsOf vw).map (·.name)) ((litsOf vw).map (·.1)) ((clssOf vw (looseW vw LO)).map (·.name))&&s.heap.accountedOkI (importedModules R.main.body)&&s.heap.isNs mainGlobals&&s.heap.isNs builtinsNs&&tablesOk vw s.heap&&Xt s&&(s.gens.size==0)))=some (bltViewBooted,true):=by kernel_rfl
theorem hl3(w:World):(openEnds treeTable R w 2900).map (λs=>(tabsOk vw s))=some (true):=by kernel_rfl
theorem hl4(w:World):(openEnds treeTable R w 2900).map (λs=>(pinSeenD vw (drecsOf vw) s,plainSeenE vw (looseW vw LO) s,plainSeenD vw LO s,wideSeen vw s,clsSeenW vw LO s))=some (pinGoodD (drecsOf vw),plainGoodE vw (looseW vw LO),plainGoodD vw LO,wideGood vw,clsGoodW vw LO):=by kernel_rfl
end
end K75
section
open PySem PySem.W PyProof.Rows
set_option maxHeartbeats 0
local macro_rules
  | `(tactic| o_head $H)=>`(tactic| (
    apply holds_open (N:=2900) (q:=K75.vw) (loose:=[("READERS" : PySem.Str)])
      (Yf:=($H).obs) (Ya:=($H).val) (YP:=($H).says)
      (XP:=XL K75.vw []) (Xt:=K75.Xt)
      (by intro w;exact K75.hl0 (K75.hl1 w) (K75.hl2 w) (K75.hl3 w) (K75.hl4 w) (by kernel_rfl)) ($H).of ($H).keeps
      (fun s e=>xl_of s (K75.both1 e)) XL.keeps
      rfl rfl rfl
      (fun s e=>recFacts_of (K75.both2 e))
      rfl (by assumption) (by decide +kernel)
      (by refine⟨rfl,rfl,rfl,rfl,rfl,?_⟩;decide +kernel)))
open_top K75.hd for PySem.Challenge.rw_troupe_k75_whole_changes
end
set_option Elab.async false
set_option linter.all false
set_option maxRecDepth 100000
namespace L2
open PySem PySem.Spec PyProof.Rows
noncomputable abbrev Key:=Sum Int Str
noncomputable def mR:Key->Value->Bool
 |.inl k,v=>Value.isInt k v
 |.inr x,v=>Value.isStrOf x v
noncomputable def keyH(w:World):Key->Int
 |.inl k=>hashInt k
 |.inr x=>hashStr w x
theorem jJ:∀{k:Key} {v:Value},mR k v=true->(∃i t,k=Sum.inl i/\v=Value.int i t)\/(∃x t,k=Sum.inr x/\v=Value.str x t)
 |.inl i,v,h=>by
  obtain⟨t,e⟩:=Value.isInt_shape (k:=i) (v:=v) h
  exact .inl ⟨i,t,rfl,e⟩
 |.inr x,v,h=>by
  obtain⟨t,e⟩:=Value.isStrOf_shape (x:=x) (v:=v) h
  exact .inr ⟨x,t,rfl,e⟩
theorem Gx(i:Int)(t:Tok):mR (.inl i) (.int i t)=true:=by simp[mR,Value.isInt]
theorem Gy(x:Str)(t:Tok):mR (.inr x) (.str x t)=true:=by simp[mR,Value.isStrOf]
theorem key_ll(a b:Int):decide ((Sum.inl a:Key)=Sum.inl b)=(a==b):=by
 by_cases e:a=b
 ·subst e;simp
 ·have h:¬(Sum.inl a:Key)=Sum.inl b:=λq=>e (Sum.inl.inj q)
  rw[decide_eq_false h]
  exact(beq_eq_false_iff_ne.mpr e).symm
theorem key_rr(a b:Str):decide ((Sum.inr a:Key)=Sum.inr b)=decide (a=b):=by
 by_cases e:a=b
 ·subst e;simp
 ·have h:¬(Sum.inr a:Key)=Sum.inr b:=λq=>e (Sum.inr.inj q)
  rw[decide_eq_false h,decide_eq_false e]
theorem key_lr(a:Int)(b:Str):decide ((Sum.inl a:Key)=Sum.inr b)=false:=decide_eq_false (λq=>nomatch q)
theorem key_rl(a:Str)(b:Int):decide ((Sum.inr a:Key)=Sum.inl b)=false:=decide_eq_false (λq=>nomatch q)
noncomputable def cG(prog:Program)(w:World):PySem.KeyKind prog w Key where
 is:=mR
 hash:=keyH w
 inj:=λv a b ha hb=>by
  rcases jJ ha with⟨i,t,rfl,rfl⟩|⟨x,t,rfl,rfl⟩
  ·rcases jJ hb with⟨j,u,rfl,e⟩|⟨y,u,rfl,e⟩
   ·injection e with e1 _;rw[e1]
   ·exact nomatch e
  ·rcases jJ hb with⟨j,u,rfl,e⟩|⟨y,u,rfl,e⟩
   ·exact nomatch e
   ·injection e with e1 _;rw[e1]
 byValue:=λk v h=>by
  rcases jJ h with⟨i,t,rfl,rfl⟩|⟨x,t,rfl,rfl⟩<;>rfl
 pyHash:=λhv h=>by
  rcases jJ hv with⟨i,t,rfl,rfl⟩|⟨x,t,rfl,rfl⟩
  ·exact wpAny_pyHash_int h
  ·exact wpAny_pyHash_str h
 eqBool:=λhu hv h=>by
  rcases jJ hu with⟨i,t,rfl,rfl⟩|⟨x,t,rfl,rfl⟩
  ·rcases jJ hv with⟨j,u,rfl,rfl⟩|⟨y,u,rfl,rfl⟩
   ·rw[key_ll]at h;exact wpAny_eqBool_int h
   ·rw[key_lr]at h;exact SeqAt.EqAt.int_str i t y u _ _ _ _ h
  ·rcases jJ hv with⟨j,u,rfl,rfl⟩|⟨y,u,rfl,rfl⟩
   ·rw[key_rl]at h;exact SeqAt.EqAt.str_int x t j u _ _ _ _ h
   ·rw[key_rr]at h;exact wpAny_eqBool_str h
 «strs»:=λk x t v h=>by
  rcases jJ h with⟨i,u,rfl,e⟩|⟨y,u,rfl,e⟩
  ·exact nomatch e
  ·injection e with e1 _
   subst e1
   cases v<;>rfl
theorem Gz(prog:Program)(w:World)(i:Int)(t:Tok):(cG prog w).is (.inl i) (.int i t)=true:=Gx i t
theorem Al(prog:Program)(w:World)(x:Str)(t:Tok):(cG prog w).is (.inr x) (.str x t)=true:=Gy x t
variable{a b:Addr}{o u:HO}{h:Heap}{H:Hp}
inductive V where
 |non|bl (b:Bool)|int (i:Int)|str (x:Str)|byt (b:Array UInt8)|flt (b:UInt64)|ref (a:Addr)|ty (n:String)
 deriving DecidableEq
noncomputable def RelV:V->Value->Prop
 |.non,u=>u=Value.none
 |.bl b,u=>u=Value.bool b
 |.int i,u=>∃t,u=Value.int i t
 |.str x,u=>∃t,u=Value.str x t
 |.byt b,u=>∃t,u=Value.bytes b t
 |.flt b,u=>∃t,u=Value.float b t
 |.ref a,u=>u=Value.ref a
 |.ty n,u=>u=Value.type n
noncomputable abbrev Vals:List V->List Value->Prop:=Paired RelV
theorem Vals.length{xs:List V}{us:List Value}(r:Vals xs us):xs.length=us.length:=Paired.length r
theorem Vals.get:∀{xs:List V} {us:List Value} {i:Nat} {x:V},Vals xs us->xs[i]?=some x->∃u,us[i]?=some u/\RelV x u
 |_,_,_,_,.nil,e=>by simp at e
 |_,_,0,_,.cons r _,e=>by simp at e;subst e;exact⟨_,rfl,r⟩
 |_,_,i+1,x,.cons _ t,e=>by
  obtain⟨u,h1,h2⟩:=Vals.get (i:=i) (x:=x) t (by simpa using e)
  exact⟨u,by simpa using h1,h2⟩
theorem Vals.append:∀{xs ys:List V} {us ws:List Value},Vals xs us->Vals ys ws->Vals (xs++ys) (us++ws)
 |_,_,_,_,.nil,s=>s
 |_,_,_,_,.cons r t,s=>.cons r (Vals.append t s)
theorem Vals.take:∀{xs:List V} {us:List Value} (n:Nat),Vals xs us->Vals (xs.take n) (us.take n)
 |_,_,0,_=>.nil
 |_,_,_+1,.nil=>.nil
 |_,_,n+1,.cons r t=>.cons r (Vals.take n t)
theorem Vals.drop:∀{xs:List V} {us:List Value} (n:Nat),Vals xs us->Vals (xs.drop n) (us.drop n)
 |_,_,0,r=>r
 |_,_,_+1,.nil=>.nil
 |_,_,n+1,.cons _ t=>Vals.drop n t
noncomputable def rM:Option V->Option Value->Prop
 |some v,some u=>RelV v u
 |none,none=>True
 |_,_=>False
noncomputable def KV{κ:Type}:List (κ×V)->List (κ×Value)->Prop:=Paired λ(p:κ×V) (q:κ×Value)=>p.1=q.1/\RelV p.2 q.2
noncomputable def kV:Key->V
 |.inl i=>.int i
 |.inr x=>.str x
inductive HO where
 |lst (xs:List V)
 |tup (xs:List V)
 |dK (kvs:List (Key×V))|dT (kvs:List (List Key×V))
 |set (S:Int->Bool) (n:Nat)
 |ins (C dx:Addr) (fs:List (Str×V))
 |own (x:Addr)
 |xd (fs:List (Str×V))
 |met (f x:Addr)
 |rng (lo hi:Int)
 |frz (o:Obj) (u:HO)
 |tbl (ps:Array Value)
 |ctab (pos:Pos) (qual:Str)
 |ext (φ:Heap->Prop)
noncomputable abbrev Hp:=Addr->Option HO
noncomputable def upd(H:Hp)(a:Addr)(o:HO):Hp:=λb=>if b=a then some o else H b
theorem cW:upd H a o a=some o:=by unfold upd;rw[if_pos rfl]
theorem bC(h:b≠a):upd H a o b=H b:=by unfold upd;rw[if_neg h]
theorem uZ(h:H a=some o)(h':H b=some u)(d:o≠u):a≠b:=by
 intro e;subst e;rw[h]at h';exact d (fW.inj h')
theorem iB(h:H a=some o)(h':H b=none):a≠b:=by
 intro e;subst e;rw[h]at h';cases h'
section
variable(P:Program)(w:World)
noncomputable def ObjOk(H:Hp)(h:Heap)(a:Addr):HO->Prop
 |.lst xs=>xs.length<=sizeLine/\∃(its:List Value) (n:Nat),Vals xs its/\h.get? a=some {cls:=.type "list", data:=.seq its.toArray n}
 |.tup xs=>xs.length<=sizeLine/\∃its:List Value,Vals xs its/\IsTup h a its.toArray
 |.dK kvs=>kvs.length<=sizeLine/\(a==sysModules)=false/\∃vs,KV kvs vs/\h.DictOf (cG P w) a vs
 |.dT kvs=>kvs.length<=sizeLine/\(a==sysModules)=false/\∃xs:List (List Key×Addr×Value),
  Paired (λ(p:List Key×V) (q:List Key×Addr×Value)=>p.1=q.1/\H q.2.1=some (.tup (p.1.map kV))/\RelV p.2 q.2.2) kvs xs /\
  ∃o es ep,h.get? a=some o/\o.ExactDict/\o.data=.dict es ep/\es.toList=xs.map (entryOfKey (tupleKind (cG P w)))/\(xs.map (·.1)).Nodup
 |.set S n=>h.SetOf (intKind P w) a S n
 |.ins C dx fs=>H dx=some (.own a)/\fs.length<=1000/\dx≠a/\h.get? a=some (PySem.W.instObj C dx) /\
  ∃mA,h.Ns1 dx mA/\(∀f,rM (fs.lookup f) (mA f))/\PySem.Within mA (fs.map (·.1))
 |.own _=>∃o,h.get? a=some o
 |.xd fs=>∃mA,h.Ns1 a mA/\∀f,rM (fs.lookup f) (mA f)
 |.rng lo hi=>∃t u v,h.get? a=some {cls:=.type "range", data:=.fields #[.int lo t,.int hi u,.int 1 v] }
 |.frz o u=>h.get? a=some o/\ObjOk H h a u
 |.tbl ps=>h.get? a=some {cls:=.none,data:=.fields ps}
 |.ctab pos qual=>∃ps:Array Value,h.get? a=some {cls:=.none,data:=.fields ps}/\TriplesOk ps.toList/\∀cv,codeAmong pos ps.toList=some cv->∃(c:Addr)(oc:Obj)(vs:Array Value)(t:Tok),cv=.ref c/\H c=some (.frz oc (.own a))/\oc.data=.fields vs/\vs[1]?=some (.str qual t)
 |.met f x=>h.get? a=some (PySem.W.methodObj (.ref f) (.ref x))
 |.ext φ=>φ h/\(∃o,h.get? a=some o)/\∀h1 h2:Heap,φ h1->(∀o,h1.get? a=some o->h2.get? a=some o)->φ h2
noncomputable def HOk(H:Hp)(h:Heap):Prop:=∀a o,H a=some o->ObjOk P w H h a o
end
section
variable{P:Program}{w:World}{H H':Hp}{h h':Heap}{a:Addr}{o:HO}
theorem ObjOk.lt(x:ObjOk P w H h a o):a<h.objs.size:=by
 cases o with
 |lst xs=>obtain⟨_,_,_,_,e⟩:=x;exact Heap.lt_size e
 |tup xs=>obtain⟨_,_,_,p⟩:=x;exact p.lt
 |dK kvs=>obtain⟨_,_,_,_,o,_,_,e,_⟩:=x;exact Heap.lt_size e
 |dT kvs=>obtain⟨_,_,_,_,o,_,_,e,_⟩:=x;exact Heap.lt_size e
 |set S n=>obtain⟨o,_,_,_,e,_⟩:=x;exact Heap.lt_size e
 |ins C dx fs=>obtain⟨_,_,_,e,_⟩:=x;exact Heap.lt_size e
 |own y=>obtain⟨_,e⟩:=x;exact Heap.lt_size e
 |xd fs=>obtain⟨_,⟨_,_,_,e,_⟩,_⟩:=x;exact Heap.lt_size e
 |rng lo hi=>obtain⟨_,_,_,e⟩:=x;exact Heap.lt_size e
 |frz ob u=>obtain⟨e,_⟩:=x;exact Heap.lt_size e
 |tbl ps=>exact Heap.lt_size (show h.get? a=some _ from x)
 |ctab ps q=>obtain⟨_,e,_⟩:=x;exact Heap.lt_size e
 |met f y=>exact Heap.lt_size (show h.get? a=some _ from x)
 |ext φ=>obtain⟨_,⟨_,e⟩,_⟩:=x;exact Heap.lt_size e
theorem Paired.mapP{α β:Type}{F G:α->β->Prop}:∀{l₁:List α} {l₂:List β},Paired F l₁ l₂->(∀a b,F a b->G a b)->Paired G l₁ l₂
 |_,_,.nil,_=>.nil
 |_,_,.cons r t,f=>.cons (f _ _ r) (Paired.mapP t f)
theorem ObjOk.stay(x:ObjOk P w H h a o)(k:∀b u,(b=a\/H b=some (.own a))->h.get? b=some u->h'.get? b=some u)
 (ho:∀b,H b=some (.own a)->H' b=some (.own a)) (ht:∀b xs,H b=some (.tup xs)->H' b=some (.tup xs)) (hz:∀b ob u,H b=some (.frz ob u)->H' b=some (.frz ob u)):ObjOk P w H' h' a o:=by
 induction o with
 |lst xs=>obtain⟨z,its,n,r,e⟩:=x;exact⟨z,its,n,r,k _ _ (.inl rfl) e⟩
 |tup xs=>obtain⟨z,its,r,ob,e,c⟩:=x;exact⟨z,its,r,ob,k _ _ (.inl rfl) e,c⟩
 |dK kvs=>obtain⟨z,y,vs,r,ob,es,ep,e,c⟩:=x;exact⟨z,y,vs,r,ob,es,ep,k _ _ (.inl rfl) e,c⟩
 |dT kvs=>
  obtain⟨z,y,xs,r,ob,es,ep,e,c⟩:=x
  exact⟨z,y,xs,Paired.mapP r λp q z=>⟨z.1,ht _ _ z.2.1,z.2.2⟩,ob,es,ep,k _ _ (.inl rfl) e,c⟩
 |set S n=>obtain⟨ob,es,ep,t,e,c⟩:=x;exact⟨ob,es,ep,t,k _ _ (.inl rfl) e,c⟩
 |ins C dx fs=>
  obtain⟨d,z,ne,e,mA,⟨od,es,ep,e2,c⟩,r⟩:=x
  exact⟨ho _ d,z,ne,k _ _ (.inl rfl) e,mA,⟨od,es,ep,k _ _ (.inr d) e2,c⟩,r⟩
 |own y=>obtain⟨ob,e⟩:=x;exact⟨ob,k _ _ (.inl rfl) e⟩
 |xd fs=>obtain⟨mA,⟨od,es,ep,e,c⟩,r⟩:=x;exact⟨mA,⟨od,es,ep,k _ _ (.inl rfl) e,c⟩,r⟩
 |rng lo hi=>obtain⟨t,u,v,e⟩:=x;exact⟨t,u,v,k _ _ (.inl rfl) e⟩
 |frz ob u ih=>obtain⟨e,q⟩:=x;exact⟨k _ _ (.inl rfl) e,ih q⟩
 |tbl ps=>
  have e:h.get? a=some {cls:=.none,data:=.fields ps}:=x
  show h'.get? a=some {cls:=.none,data:=.fields ps}
  exact k a _ (.inl rfl) e
 |ctab pos qual=>
  obtain⟨ps,e,tr,hc⟩:=x
  exact⟨ps,k a _ (.inl rfl) e,tr,λcv q=>let ⟨c,oc,vs,t,e1,e2,e3⟩:=hc cv q;⟨c,oc,vs,t,e1,hz _ _ _ e2,e3⟩⟩
 |met f y=>
  have e:h.get? a=some (PySem.W.methodObj (.ref f) (.ref y)):=x
  show h'.get? a=some (PySem.W.methodObj (.ref f) (.ref y))
  exact k a _ (.inl rfl) e
 |ext φ=>obtain⟨p,⟨o,e⟩,st⟩:=x;exact⟨st _ _ p λo q=>k _ _ (.inl rfl) q,⟨o,k _ _ (.inl rfl) e⟩,st⟩
theorem HOk.lt(x:HOk P w H h)(e:H a=some o):a<h.objs.size:=(x a o e).lt
theorem HOk.fresh(x:HOk P w H h)(e:h.objs.size<=a):H a=none:=by
 cases q:H a with
 |none=>rfl
 |some u=>exact absurd (dU (x.lt q) e) (iM _)
theorem HOk.kept(x:HOk P w H h)(k:∀b u,h.get? b=some u->h'.get? b=some u):HOk P w H h':=λa o e=>
 (x a o e).stay (λb u _ q=>k b u q) (λ_ q=>q) (λ_ _ q=>q) λ_ _ _ q=>q
theorem HOk.laid(x:HOk P w H h)(k:∀b u,h.get? b=some u->h'.get? b=some u)(hp:h.objs.size<=a)(new:ObjOk P w (upd H a o) h' a o):HOk P w (upd H a o) h':=λb u e=>by
 have hn:=x.fresh hp
 by_cases hb:b=a
 ·subst hb;rw[cW]at e;cases e;exact new
 ·rw[bC hb]at e
  exact(x b u e).stay (λc v _ q=>k c v q) (λc q=>by rw[bC (iB q hn)];exact q) (λc xs q=>by rw[bC (iB q hn)];exact q) λc o u q=>by rw[bC (iB q hn)];exact q
end
noncomputable def Rd(H:Hp)(a:Addr)(u:HO):Prop:=H a=some u\/∃o,H a=some (.frz o u)
theorem Rd.ok{P:Program}{w:World}(r:Rd H a u)(x:HOk P w H h):ObjOk P w H h a u:=by
 rcases r with r|⟨o,r⟩
 ·exact x a u r
 ·obtain⟨_,q⟩:=x a _ r
  exact q
noncomputable def Mut:Option HO->Prop
 |some (.lst _)=>True
 |some (.dK _)=>True
 |some (.dT _)=>True
 |some (.set _ _)=>True
 |some (.ins _ _ _)=>True
 |some (.ext _)=>True
 |_=>False
section
variable{P:Program}{w:World}{H:Hp}{h h':Heap}{x e:Addr}{o':HO}
theorem HOk.write(ok:HOk P w H h)(mu:Mut (H x))(he:e=x\/H e=some (.own x))(k:∀b u,b≠e->h.get? b=some u->h'.get? b=some u)(heo:∃u,h'.get? e=some u)
 (new:ObjOk P w (upd H x o') h' x o'):HOk P w (upd H x o') h':=λb u q=>by
 have nown:∀c y,H c=some (.own y)->c≠x:=λc y r z=>by subst z;rw[r]at mu;exact mu
 have ntup:∀c xs,H c=some (.tup xs)->c≠x:=λc xs r z=>by subst z;rw[r]at mu;exact mu
 by_cases hb:b=x
 ·subst hb;rw[cW]at q;cases q;exact new
 ·rw[bC hb]at q
  by_cases hbe:b=e
  ·have q':H b=some (.own x):=by
    rcases he with z|z
    ·exact absurd (hbe.trans z) hb
    ·rw[hbe];exact z
   rw[q]at q';cases q'
   obtain⟨v,hv⟩:=heo
   exact⟨v,by rw[hbe];exact hv⟩
  ·refine(ok b u q).stay (λc v hc r=>k c v ?_ r) (λc r=>by rw[bC (nown c b r)];exact r) (λc xs r=>by rw[bC (ntup c xs r)];exact r) λc ob u r=>by rw[bC (λz=>by subst z;rw[r]at mu;exact mu)];exact r
   rcases hc with rfl|hc
   ·exact hbe
   ·rintro rfl
    rcases he with z|z
    ·exact nown c b hc z
    ·rw[hc]at z;cases z;exact hb rfl
end
set_option genInjectivity false in
structure Un(fs ex:List Addr)(H H':Hp)(h h':Heap):Prop where
 keep:∀b o,h.get? b=some o->H b=none->b∉fs->b∉ex->h'.get? b=some o
 slot:∀b o,h.get? b=some o->H b=none->b∈fs->b∉ex->∃sl,h'.get? b=some {o with slots:=sl}
 free:∀b o,h.get? b=some o->H b=none->b∉ex->H' b=none
 there:∀b o,h.get? b=some o->b∉ex->∃o',h'.get? b=some o'
 tups:∀b xs,H b=some (.tup xs)->H' b=some (.tup xs)
 frzs:∀b o u,H b=some (.frz o u)->H' b=some (.frz o u)
 tbls:∀b ps,H b=some (.tbl ps)->∃more,H' b=some (.tbl (ps++more))
section
variable{fs fs' ex ex':List Addr}{H H1 H2:Hp}{h h1 h2 h':Heap}{a x e:Addr}{o:HO}
theorem Un.any(u:Un fs ex H H1 h h1){ob:Obj}(q:h.get? b=some ob)(n:H b=none)(hx:b∉ex):∃sl,h1.get? b=some {ob with slots:=sl}:=by
 by_cases hb:b∈fs
 ·exact u.slot b ob q n hb hx
 ·exact⟨ob.slots,u.keep b ob q n hb hx⟩
theorem Un.kept(k:∀b u,h.get? b=some u->h'.get? b=some u):Un fs ex H H h h':=
 ⟨λb ob q _ _ _=>k b ob q,λb ob q _ _ _=>⟨ob.slots,k b ob q⟩,λ_ _ _ n _=>n,λb ob q _=>⟨ob,k b ob q⟩,λ_ _ q=>q,λ_ _ _ q=>q,λ_ ps q=>⟨#[],by rw[q];simp⟩⟩
theorem Un.refl:Un fs ex H H h h:=Un.kept λ_ _ q=>q
theorem Un.laid(k:∀b u,h.get? b=some u->h'.get? b=some u)(hp:h.objs.size<=a)(hn:H a=none):Un fs ex H (upd H a o) h h' where
 keep:=λb u q _ _ _=>k b u q
 slot:=λb u q _ _ _=>⟨u.slots,k b u q⟩
 free:=λb u q n _=>by rw[bC (cC (dU (Heap.lt_size q) hp))];exact n
 there:=λb u q _=>⟨u,k b u q⟩
 tups:=λb xs q=>by rw[bC (iB q hn)];exact q
 frzs:=λb u xs q=>by rw[bC (iB q hn)];exact q
 tbls:=λb ps q=>⟨#[],by rw[bC (iB q hn),q];simp⟩
theorem Un.write(mu:Mut (H x))(he:e=x\/H e=some (.own x))(k:∀b u,b≠e->h.get? b=some u->h'.get? b=some u)(heo:∃u,h'.get? e=some u):Un fs ex H (upd H x o) h h':=by
 have hx:∀b,H b=none->b≠x:=λb n z=>by subst z;rw[n]at mu;exact mu
 have hb:∀b,H b=none->b≠e:=λb n z=>by
  subst z
  rcases he with r|r
  ·exact hx b n r
  ·rw[n]at r;cases r
 have hm:∀b u,H b=some u->¬Mut (some u)->b≠x:=λb u q nm z=>by subst z;rw[q]at mu;exact nm mu
 refine⟨λb u q n _ _=>k b u (hb b n) q,λb u q n _ _=>⟨u.slots,k b u (hb b n) q⟩,λb u q n _=>by rw[bC (hx b n)];exact n,λb u q _=>?_,
  λb xs q=>by rw[bC (hm b _ q λz=>z)];exact q,λb u xs q=>by rw[bC (hm b _ q λz=>z)];exact q,λb ps q=>⟨#[],by rw[bC (hm b _ q λz=>z),q];simp⟩⟩
 by_cases hbe:b=e
 ·subst hbe;exact heo
 ·exact⟨u,k b u hbe q⟩
end
noncomputable def trk(h:Heap)(H:Hp):List Addr:=(aI h.objs.size).filter λa=>(H a).isSome
noncomputable def jK(h:Heap)(H:Hp):Heap:=PySem.W.hideAll h (trk h H)
theorem HA(h:Heap)(H:Hp):(jK h H).objs.size=h.objs.size:=PySem.W.hideAll_size _ _
theorem HB{o:Obj}(e:h.get? b=some o)(n:H b=none):(jK h H).get? b=some o:=
 PySem.W.hideAll_get _ e λhm=>by
  have q:(H b).isSome=true:=(dW.mp hm).2
  rw[n]at q;simp at q
theorem HC{o:Obj}(e:(jK h H).get? b=some o):h.get? b=some o/\H b=none:=by
 have e':h.get? b=some o:=PySem.W.of_hideAll (trk h H) e
 refine⟨e',?_⟩
 cases q:H b with
 |none=>rfl
 |some x=>
  have hm:b∈trk h H:=dW.mpr ⟨kC.mpr (Heap.lt_size e'),by simp[q]⟩
  have z:(jK h H).get? b=none:=PySem.W.hideAll_none (trk h H) hm
  rw[z]at e;cases e
end L2
namespace L2
open PySem PySem.Spec PyProof.Rows
variable{a:Addr}{t':Nat}
set_option genInjectivity false in
structure Mod(K:PySem.W.Frag)(mg:Str->Option Value)(base:Heap):Prop where
 kin:K.In base
 glob:base.Ns mainGlobals mg
 blt:∃mb,base.Ns builtinsNs mb/\∀x:Str,x ≠ "__name__" -> mb x=bootBuiltins x
 nolimit:base.NoLimit
set_option genInjectivity false in
structure Cx where
 prog:Program
 w:World
 K:PySem.W.Frag
 mg:Str->Option Value
 base:Heap
 A:Around
 N:List Str
 sy:Shared
 H_h:Hp
 env:Env
 outer:List Env
 stack:List Env
 ex:List Addr
 fn:Str->Bool
 calm:Bool
 pn:List (Addr×Obj)
 xe:Value->Shared->Prop
noncomputable def frs(l:List Env):List Addr:=l.filterMap (·.frame)
noncomputable abbrev Cx.fs(X:Cx):List Addr:=frs X.outer
noncomputable def Vis(sc:Scope)(x:Str):Prop:=sc.names.lookup x=some .local\/sc.names.lookup x=some .cell\/sc.names.lookup x=some .free
noncomputable def Loc(sc:Scope)(x:Str):Prop:=sc.names.lookup x=some .local\/sc.names.lookup x=some .cell
noncomputable def Look(env:Env)(h:Heap)(m:Str->Option Value)(x:Str)(u:Value):Prop:=
 (env.kindOf x=some .local/\m x=some u)\/((env.kindOf x=some .cell\/env.kindOf x=some .free)/\∃c,env.cells.lookup x=some c/\h.IsCell c (some u))
set_option genInjectivity false in
structure Cx.Ok(X:Cx):Prop where
 mod:Mod X.K X.mg X.base
 kind:X.env.scope.kind=.function
 glob:X.env.globals=mainGlobals
 blt:X.env.builtins=builtinsNs
 above:X.sy.heap.objs.size<=X.env.locals
 inj:∀x y c,X.env.cells.lookup x=some c->X.env.cells.lookup y=some c->x=y
 has:∀x,(X.env.kindOf x=some .cell\/X.env.kindOf x=some .free)->∃c,X.env.cells.lookup x=some c
 cab:∀x c,X.fn x=true->X.env.cells.lookup x=some c->X.sy.heap.objs.size<=c
 hd:X.calm=true->X.A.handled=none
 frames:X.A.frames=some X.stack
 stk:X.stack=X.outer\/(X.stack=X.env::X.outer/\X.env.frame=some X.env.locals)
 exf:∀b∈X.ex,b≠X.env.locals/\∀x c,X.env.cells.lookup x=some c->c≠b
 bs:∀b o,X.base.get? b=some o->X.sy.heap.get? b=some o/\X.H_h b=none
 bsz:X.base.objs.size<=X.sy.heap.objs.size
 noex:∀b o,X.base.get? b=some o->b∉X.ex
 exfs:∀b∈X.ex,b∉X.fs
 funs:X.sy.heap.FunFrames X.base X.outer
 frf:∀b∈X.fs,X.H_h b=none
set_option genInjectivity false in
structure Inv(X:Cx)(pins:List (Addr×Obj))(σ:List (Option V))(H:Hp)(s:Shared):Prop where
 ok:X.Ok
 os:s.os=X.sy.os
 bare:AllBare s.gens
 base:Un X.fs X.ex X.H_h H X.sy.heap s.heap
 loc:∃m,s.heap.Ns X.env.locals m/\∀(i:Nat)(x:Str)(v:V),X.N[i]?=some x->σ[i]?=some (some v)->Vis X.env.scope x->∃u,RelV v u/\Look X.env s.heap m x u
 cell:∀x c,X.env.cells.lookup x=some c->∃v,s.heap.IsCell c v
 free:H X.env.locals=none
 freeC:∀x c,X.env.cells.lookup x=some c->H c=none
 pin:∀p∈X.pn++pins,s.heap.get? p.1=some p.2/\H p.1=none/\p.1≠X.env.locals/\p.1∉X.fs/\∀v,p.2.data≠.cell v
 hok:HOk X.prog X.w H s.heap
 len:σ.length=X.N.length
section
variable{X:Cx}{pins:List (Addr×Obj)}{σ:List (Option V)}{H H':Hp}{s:Shared}{h':Heap}
theorem Cx.Ok.nofr(ok:X.Ok){b:Addr}{o:Obj}(e:X.base.get? b=some o):b∉X.fs:=λhb=>by
 have:=(ok.funs.mem hb).1
 rw[e]at this;cases this
theorem Inv.bs(I:Inv X pins σ H s):∀b o,X.base.get? b=some o->s.heap.get? b=some o/\H b=none:=λb o e=>
 ⟨I.base.keep b o (I.ok.bs b o e).1 (I.ok.bs b o e).2 (I.ok.nofr e) (I.ok.noex b o e),I.base.free b o (I.ok.bs b o e).1 (I.ok.bs b o e).2 (I.ok.noex b o e)⟩
theorem Inv.bk(I:Inv X pins σ H s):∀b o,X.base.get? b=some o->s.heap.get? b=some o:=λb o e=>(I.bs b o e).1
theorem Inv.mod(I:Inv X pins σ H s):Mod X.K X.mg X.base:=I.ok.mod
theorem Inv.kIn(I:Inv X pins σ H s):X.K.In s.heap:=I.ok.mod.kin.keeps I.bk
theorem Inv.lt(I:Inv X pins σ H s):X.env.locals<s.heap.objs.size:=let ⟨_,hn,_⟩:=I.loc;hn.lt
theorem Inv.sz(I:Inv X pins σ H s):X.sy.heap.objs.size<=s.heap.objs.size:=eQ I.ok.above (mK I.lt)
theorem Inv.nofs(I:Inv X pins σ H s)(h:s.heap.objs.size<=a):a∉X.fs:=λhb=>by
 obtain⟨_,o,ho,_⟩:=I.ok.funs.mem hb
 exact absurd (dU (Heap.lt_size ho) (eQ I.sz h)) (iM _)
theorem Inv.cne(I:Inv X pins σ H s):∀x c,X.env.cells.lookup x=some c->c≠X.env.locals:=λx c e z=>by
 obtain⟨v,o,ho,hd⟩:=I.cell x c e
 obtain⟨m,⟨o',es,ep,ho',hd',_⟩,_⟩:=I.loc
 rw[z,ho']at ho;cases ho;rw[hd']at hd;cases hd
theorem Inv.funs(I:Inv X pins σ H s):s.heap.FunFrames X.base X.outer:=by
 have all:∀(l:List Env),(∀b∈frs l,b∈X.fs)->X.sy.heap.FunFrames X.base l->s.heap.FunFrames X.base l:=by
  intro l
  induction l with
  |nil=>intro _ _;trivial
  |cons env r ih=>
   intro hs hl
   obtain⟨hk,⟨L,o,hf,hn,ho,hd⟩,hr⟩:=hl
   have hL:L∈X.fs:=hs L (by unfold frs;rw[mL,hf];exact bA)
   obtain⟨sl,e⟩:=I.base.slot L o ho (I.ok.frf L hL) hL λz=>I.ok.exfs L z hL
   exact⟨hk,⟨L,_,hf,hn,e,hd⟩,ih (λb hb=>hs b (by unfold frs;rw[mL,hf];exact aY _ hb)) hr⟩
 exact all X.outer (λ_ hb=>hb) I.ok.funs
theorem Inv.stack(I:Inv X pins σ H s):s.heap.FunFrames X.base X.stack:=by
 rcases I.ok.stk with e|⟨e,hf⟩
 ·rw[e];exact I.funs
 ·rw[e]
  obtain⟨m,hn,_⟩:=I.loc
  refine .cons (by rw[I.ok.kind];decide) hf hn ?_ I.funs
  exact Heap.get?_none_of_le (eQ I.ok.bsz I.ok.above)
theorem Inv.stkSub(I:Inv X pins σ H s):∀b∈frs X.stack,b∈X.env.locals::X.fs:=λb hb=>by
 rcases I.ok.stk with e|⟨e,hf⟩
 ·rw[e]at hb;exact aY _ hb
 ·rw[e]at hb
  unfold frs at hb
  rw[mL,hf]at hb
  exact hb
theorem Inv.stkFree(I:Inv X pins σ H s):∀b∈frs X.stack,H b=none:=λb hb=>by
 rcases bL.mp (I.stkSub b hb)with e|hb
 ·rw[e];exact I.free
 ·obtain⟨_,o,ho,_⟩:=I.ok.funs.mem hb
  exact I.base.free b o ho (I.ok.frf b hb) λz=>I.ok.exfs b z hb
theorem Inv.step{g':Array GenState}{t':Nat}{d':Drawn}{ch:List Addr}(I:Inv X pins σ H s)
 (hch:∀b∈ch,(b∈X.ex\/X.sy.heap.objs.size<=b)/\b≠X.env.locals/\(∀x c,X.env.cells.lookup x=some c->c≠b)/\∀p∈X.pn++pins,p.1≠b)
 (keep:∀b o,b≠X.env.locals->b∉X.fs->b∉ch->s.heap.get? b=some o->H b=none->h'.get? b=some o)
 (slot:∀b o,b≠X.env.locals->b∈X.fs->b∉ch->s.heap.get? b=some o->H b=none->∃sl,h'.get? b=some {o with slots:=sl}) (free:∀b o,b∉ch->s.heap.get? b=some o->H b=none->H' b=none)
 (there:∀b o,b∉ch->s.heap.get? b=some o->∃o',h'.get? b=some o')
 (tups:∀b xs,H b=some (.tup xs)->H' b=some (.tup xs)) (frzs:∀b o u,H b=some (.frz o u)->H' b=some (.frz o u)) (tbls:∀b ps,H b=some (.tbl ps)->∃more,H' b=some (.tbl (ps++more)))
 (ns:∀m,s.heap.Ns X.env.locals m->h'.Ns X.env.locals m) (hok:HOk X.prog X.w H' h') (hg:AllBare g') :
 Inv X pins σ H' {s with heap:=h',gens:=g',drawn:=d',toks:=t' }:=by
 have neL:∀b o,X.sy.heap.get? b=some o->b≠X.env.locals:=λb o e=>cC (dU (Heap.lt_size e) I.ok.above)
 have neC:∀b o,X.sy.heap.get? b=some o->b∉X.ex->b∉ch:=λb o e hx hb=>by
  rcases(hch b hb).1 with z|z
  ·exact hx z
  ·exact absurd (dU (Heap.lt_size e) z) (iM _)
 have cellK:∀x c,X.env.cells.lookup x=some c->∀v,s.heap.IsCell c v->h'.IsCell c v:=λx c e v ⟨o,ho,hd⟩=>by
  have nch:c∉ch:=λz=>(hch c z).2.2.1 x c e rfl
  by_cases hc:c∈X.fs
  ·obtain⟨sl,q⟩:=slot c o (I.cne x c e) hc nch ho (I.freeC x c e)
   exact⟨_,q,hd⟩
  ·exact⟨o,keep c o (I.cne x c e) hc nch ho (I.freeC x c e),hd⟩
 refine⟨I.ok,I.os,hg,⟨λb o e n hb hx=>?_,λb o e n hb hx=>?_,λb o e n hx=>?_,λb o e hx=>?_,λb xs e=>tups b xs (I.base.tups b xs e),λb o xs e=>frzs b o xs (I.base.frzs b o xs e),λb ps e=>?_⟩,?_,λx c e=>?_,?_,λx c e=>?_,λp hp=>?_,hok,I.len⟩
 ·exact keep b o (neL b o e) hb (neC b o e hx) (I.base.keep b o e n hb hx) (I.base.free b o e n hx)
 ·obtain⟨sl,e1⟩:=I.base.slot b o e n hb hx
  obtain⟨sl',e2⟩:=slot b _ (neL b o e) hb (neC b o e hx) e1 (I.base.free b o e n hx)
  exact⟨sl',e2⟩
 ·obtain⟨o',e1⟩:=I.base.there b o e hx
  exact free b o' (neC b o e hx) e1 (I.base.free b o e n hx)
 ·obtain⟨o',e1⟩:=I.base.there b o e hx
  exact there b o' (neC b o e hx) e1
 ·obtain⟨m1,e1⟩:=I.base.tbls b ps e
  obtain⟨m2,e2⟩:=tbls b _ e1
  exact⟨m1++m2,by rw[e2,Array.append_assoc]⟩
 ·obtain⟨m,hn,hl⟩:=I.loc
  refine⟨m,ns m hn,λi x v e1 e2 e3=>?_⟩
  obtain⟨u,r,l⟩:=hl i x v e1 e2 e3
  refine⟨u,r,?_⟩
  rcases l with l|⟨k,c,e,z⟩
  ·exact .inl l
  ·exact .inr ⟨k,c,e,cellK x c e _ z⟩
 ·obtain⟨v,z⟩:=I.cell x c e
  exact⟨v,cellK x c e v z⟩
 ·obtain⟨m,⟨o,_,_,ho,_⟩,_⟩:=I.loc
  exact free _ o (λz=>(hch _ z).2.1 rfl) ho I.free
 ·obtain⟨v,o,ho,hd⟩:=I.cell x c e
  exact free c o (λz=>(hch c z).2.2.1 x c e rfl) ho (I.freeC x c e)
 ·obtain⟨e,n,ne,nf,d⟩:=I.pin p hp
  have nch:p.1∉ch:=λz=>(hch p.1 z).2.2.2 p hp rfl
  exact⟨keep p.1 p.2 ne nf nch e n,free p.1 p.2 nch e n,ne,nf,d⟩
theorem Inv.un(I:Inv X pins σ H s)(u:Un X.fs [] H H' s.heap h')(hok:HOk X.prog X.w H' h'):Inv X pins σ H' {s with heap:=h',toks:=t' }:=by
 obtain⟨m,⟨o,es,ep,ho,r⟩,_⟩:=id I.loc
 obtain⟨sl,hL⟩:=u.any ho I.free (by simp)
 exact I.step (g':=s.gens) (d':=s.drawn) (ch:=[]) (λ_ z=>nomatch z) (λb o _ hb _ e n=>u.keep b o e n hb (by simp)) (λb o _ hb _ e n=>u.slot b o e n hb (by simp)) (λb o _ e n=>u.free b o e n (by simp)) (λb o _ e=>u.there b o e (by simp)) u.tups u.frzs u.tbls (λm' hm=>by
  obtain⟨o',es',ep',ho',r'⟩:=hm
  rw[ho]at ho';cases ho'
  exact⟨_,es',ep',hL,r'⟩) hok I.bare
theorem Inv.call{g':Array GenState}{t':Nat}{d':Drawn}{ch:List Addr}(I:Inv X pins σ H s)(u:Un (frs X.stack) ch H H' s.heap h')(hok:HOk X.prog X.w H' h')(hg:AllBare g')
 (hch:∀b∈ch,(b∈X.ex\/X.sy.heap.objs.size<=b)/\b≠X.env.locals/\(∀x c,X.env.cells.lookup x=some c->c≠b)/\∀p∈X.pn++pins,p.1≠b) :
 Inv X pins σ H' {s with heap:=h',gens:=g',drawn:=d',toks:=t' }:=by
 obtain⟨m,⟨o,es,ep,ho,r⟩,_⟩:=id I.loc
 obtain⟨sl,hL⟩:=u.any ho I.free λz=>(hch _ z).2.1 rfl
 exact I.step (ch:=ch) hch (λb o hL hb hc e n=>u.keep b o e n (λz=>(bL.mp (I.stkSub b z)).elim hL hb) hc) (λb o _ _ hc e n=>u.any e n hc) (λb o hc e n=>u.free b o e n hc) (λb o hc e=>u.there b o e hc) u.tups u.frzs u.tbls (λm' hm=>by
  obtain⟨o',es',ep',ho',r'⟩:=hm
  rw[ho]at ho';cases ho'
  exact⟨_,es',ep',hL,r'⟩) hok hg
theorem Inv.turned{t':Nat}{it:Addr}(I:Inv X pins σ H s)(k:∀b o,b≠it->s.heap.get? b=some o->h'.get? b=some o)(hn:H it=none)(hL:it≠X.env.locals)
 (h1:it∈X.ex\/X.sy.heap.objs.size<=it) (h2:∀x c,X.env.cells.lookup x=some c->c≠it) (h3:∀p∈X.pn++pins,p.1≠it):Inv X pins σ H {s with heap:=h',toks:=t' }:=by
 have nit:∀b u,H b=some u->b≠it:=λb u e z=>by rw[z,hn]at e;cases e
 refine I.step (g':=s.gens) (d':=s.drawn) (ch:=[it]) (λb hb=>?_) (λb o _ _ hc e _=>k b o (λz=>hc (by simp[z])) e) (λb o _ _ hc e _=>⟨o.slots,k b o (λz=>hc (by simp[z])) e⟩) (λ_ _ _ _ n=>n)
  (λb o hc e=>⟨o,k b o (λz=>hc (by simp[z])) e⟩) (λ_ _ e=>e) (λ_ _ _ e=>e) (λb ps e=>⟨#[],by rw[e];simp⟩) (λm hm=>?_) (λb u e=>?_) I.bare
 ·have e:b=it:=by simpa using hb
  subst e
  exact⟨h1,hL,h2,h3⟩
 ·obtain⟨o,es,ep,ho,r⟩:=hm
  exact⟨o,es,ep,k _ o (Ne.symm hL) ho,r⟩
 ·refine(I.hok b u e).stay (λc v hc q=>k c v ?_ q) (λ_ q=>q) (λ_ _ q=>q) λ_ _ _ q=>q
  rcases hc with z|z
  ·rw[z];exact nit b u e
  ·exact nit c _ z
theorem Inv.tok(I:Inv X pins σ H s)(t:Nat):Inv X pins σ H {s with toks:=t}:=I.un (h':=s.heap) (t':=t) Un.refl I.hok
theorem Inv.kept(I:Inv X pins σ H s)(k:∀b u,s.heap.get? b=some u->h'.get? b=some u):Inv X pins σ H {s with heap:=h',toks:=t' }:=I.un (Un.kept k) (I.hok.kept k)
theorem Inv.laid{o:HO}(I:Inv X pins σ H s)(k:∀b u,s.heap.get? b=some u->h'.get? b=some u)(hp:s.heap.objs.size<=a)(new:ObjOk X.prog X.w (upd H a o) h' a o) :
 Inv X pins σ (upd H a o) {s with heap:=h',toks:=t' }:=I.un (Un.laid k hp (I.hok.fresh hp)) (I.hok.laid k hp new)
theorem Inv.write{x e:Addr}{o:HO}{t':Nat}(I:Inv X pins σ H s)(mu:Mut (H x))(he:e=x\/H e=some (.own x))(k:∀b u,b≠e->s.heap.get? b=some u->h'.get? b=some u)(heo:∃u,h'.get? e=some u)
 (new:ObjOk X.prog X.w (upd H x o) h' x o):Inv X pins σ (upd H x o) {s with heap:=h',toks:=t' }:=I.un (Un.write mu he k heo) (I.hok.write mu he k heo new)
theorem Inv.pins_of{pins':List (Addr×Obj)}(I:Inv X pins σ H s)(h:∀p∈pins',s.heap.get? p.1=some p.2/\H p.1=none/\p.1≠X.env.locals/\p.1∉X.fs/\∀v,p.2.data≠.cell v):Inv X pins' σ H s:=
 ⟨I.ok,I.os,I.bare,I.base,I.loc,I.cell,I.free,I.freeC,λp hp=>(fD.mp hp).elim (λz=>I.pin p (Ga _ z)) (h p),I.hok,I.len⟩
theorem Am{N:List Str}(hN:N.Nodup){i j:Nat}{x:Str}(a:N[i]?=some x)(b:N[j]?=some x):i=j:=by
 obtain⟨h1,e1⟩:=fE.mp a
 obtain⟨h2,e2⟩:=fE.mp b
 exact(O5 hN).mp (e1.trans e2.symm)
theorem An{M:Model}{A:Around}{E:Value->Shared->Prop}{i:Nat}{x:Str}{v:V}{u:Value}{Q:Unit->Shared->Prop}(I:Inv X pins σ H s)(hN:X.N.Nodup)(hi:X.N[i]?=some x)(hx:Loc X.env.scope x)(r:RelV v u)
 (h:∀s',Inv X pins (σ.set i (some v)) H s'->(∃a,Heap.SameBut a s.heap s'.heap/\(a=X.env.locals\/X.env.cells.lookup x=some a))->Q () s') (hf:X.fn x=true\/X.env.scope.names.lookup x=some .local:=by first|exact .inl rfl|exact .inr rfl|assumption):wpAny M A (storeName X.env x u) Q E s:=by
 obtain⟨m,hn,hl⟩:=id I.loc
 have hcls:(X.env.scope.kind==.class||(X.env.scope.kind==.module&&X.env.locals != X.env.globals))=false:=by rw[I.ok.kind];rfl
 have hiσ:i<σ.length:=by rw[I.len];exact(fE.mp hi).1
 have cne:=I.cne
 have tracked:∀{a:Addr} {h':Heap},(∃o,s.heap.get? a=some o/\H a=none)->Heap.SameBut a s.heap h'->HOk X.prog X.w H h':=λ{a h'} ha hs b ob e=>by
  obtain⟨_,_,hfree⟩:=ha
  refine(I.hok b ob e).stay (λc w' hc q=>(hs.2 c ?_).trans q) (λ_ q=>q) (λ_ _ q=>q) λ_ _ _ q=>q
  rintro rfl
  rcases hc with rfl|hc
  ·rw[hfree]at e;cases e
  ·rw[hfree]at hc;cases hc
 rcases hx with hk|hk
 ·refine wpAny_storeName_local hk hn (λh' hn' hs=>?_) hcls
  obtain⟨oL,_,_,hoL,_⟩:=id hn
  refine h _ ⟨I.ok,I.os,I.bare,⟨λb o e n hb hx=>?_,λb o e n hb hx=>?_,I.base.free,λb o e hx=>?_,I.base.tups,I.base.frzs,I.base.tbls⟩,⟨_,hn',λj y v' e1 e2 e3=>?_⟩,λy c e=>?_,I.free,I.freeC,λp hp=>?_,tracked ⟨oL,hoL,I.free⟩ hs,by simpa using I.len⟩ ⟨_,hs,.inl rfl⟩
  ·exact(hs.2 b (cC (dU (Heap.lt_size e) I.ok.above))).trans (I.base.keep b o e n hb hx)
  ·obtain⟨sl,e1⟩:=I.base.slot b o e n hb hx
   exact⟨sl,(hs.2 b (cC (dU (Heap.lt_size e) I.ok.above))).trans e1⟩
  ·obtain⟨o',e1⟩:=I.base.there b o e hx
   exact⟨o',(hs.2 b (cC (dU (Heap.lt_size e) I.ok.above))).trans e1⟩
  ·by_cases hj:j=i
   ·subst hj
    rw[hi]at e1;cases e1
    rw[uQ hiσ]at e2
    cases e2
    exact⟨u,r,.inl ⟨hk,by simp⟩⟩
   ·rw[uR (Ne.symm hj)]at e2
    obtain⟨u',r',q⟩:=hl j y v' e1 e2 e3
    refine⟨u',r',?_⟩
    rcases q with⟨k,e⟩|⟨k,c,e,z⟩
    ·refine .inl ⟨k,?_⟩
     have:y≠x:=λe=>hj (Am hN e1 (e▸hi))
     simp[this,e]
    ·exact .inr ⟨k,c,e,z.sameBut hs (cne y c e)⟩
  ·obtain⟨w',z⟩:=I.cell y c e
   exact⟨w',z.sameBut hs (cne y c e)⟩
  ·obtain⟨e,n,ne,nf,d⟩:=I.pin p hp
   exact⟨(hs.2 p.1 ne).trans e,n,ne,nf,d⟩
 ·have hfn:X.fn x=true:=by
   rcases hf with z|z
   ·exact z
   ·rw[z]at hk;cases hk
  obtain⟨c,hc⟩:=I.ok.has x (.inl hk)
  obtain⟨w',z⟩:=I.cell x c hc
  refine wpAny_storeName_cell I.ok.kind hk hc z (λh' hc' hs=>?_)
  obtain⟨oc,hoc,hocd⟩:=id z
  refine h {s with heap:=h' } ⟨I.ok,I.os,I.bare,⟨λb o e n hb hx=>?_,λb o e n hb hx=>?_,I.base.free,λb o e hx=>?_,I.base.tups,I.base.frzs,I.base.tbls⟩,⟨m,hn.sameBut hs (Ne.symm (cne x c hc)),λj y v' e1 e2 e3=>?_⟩,λy c' e=>?_,I.free,I.freeC,λp hp=>?_,tracked ⟨oc,hoc,I.freeC x c hc⟩ hs,by simpa using I.len⟩ ⟨c,hs,.inr hc⟩
  ·exact(hs.2 b (cC (dU (Heap.lt_size e) (I.ok.cab x c hfn hc)))).trans (I.base.keep b o e n hb hx)
  ·obtain⟨sl,e1⟩:=I.base.slot b o e n hb hx
   exact⟨sl,(hs.2 b (cC (dU (Heap.lt_size e) (I.ok.cab x c hfn hc)))).trans e1⟩
  ·obtain⟨o',e1⟩:=I.base.there b o e hx
   exact⟨o',(hs.2 b (cC (dU (Heap.lt_size e) (I.ok.cab x c hfn hc)))).trans e1⟩
  ·by_cases hj:j=i
   ·subst hj
    rw[hi]at e1;cases e1
    rw[uQ hiσ]at e2
    cases e2
    exact⟨u,r,.inr ⟨.inl hk,c,hc,hc'⟩⟩
   ·rw[uR (Ne.symm hj)]at e2
    obtain⟨u',r',q⟩:=hl j y v' e1 e2 e3
    refine⟨u',r',?_⟩
    rcases q with q|⟨k,c',e,z'⟩
    ·exact .inl q
    ·refine .inr ⟨k,c',e,z'.sameBut hs ?_⟩
     rintro rfl
     exact hj (Am hN e1 (I.ok.inj _ _ _ e hc▸hi))
  ·by_cases hcc:c'=c
   ·subst hcc;exact⟨_,hc'⟩
   ·obtain⟨w2,z2⟩:=I.cell y c' e
    exact⟨w2,z2.sameBut hs hcc⟩
  ·obtain⟨e,n,ne,nf,d⟩:=I.pin p hp
   refine⟨(hs.2 p.1 ?_).trans e,n,ne,nf,d⟩
   intro q
   rw[q,hoc]at e
   have q':oc=p.2:=fW.inj e
   exact d w' (by rw[<-q'];exact hocd)
theorem Ao{M:Model}{A:Around}{E:Value->Shared->Prop}{i:Nat}{x:Str}{v:V}{u:Value}{Q:Unit->Shared->Prop}(I:Inv X pins σ H s)(hN:X.N.Nodup)(hi:X.N[i]?=some x)(hx:Loc X.env.scope x)(r:RelV v u)
 (h:∀s',Inv X pins (σ.set i (some v)) H s'->Q () s') (hf:X.fn x=true\/X.env.scope.names.lookup x=some .local:=by first|exact .inl rfl|exact .inr rfl|assumption):wpAny M A (storeName X.env x u) Q E s:=
 An I hN hi hx r (λs' I' _=>h s' I') hf
theorem Inv.call'{s':Shared}{ch:List Addr}(I:Inv X pins σ H s)(ho:s'.os=s.os)(u:Un (frs X.stack) ch H H' s.heap s'.heap)(hok:HOk X.prog X.w H' s'.heap)(hg:AllBare s'.gens)
 (hch:∀b∈ch,(b∈X.ex\/X.sy.heap.objs.size<=b)/\b≠X.env.locals/\(∀x c,X.env.cells.lookup x=some c->c≠b)/\∀p∈X.pn++pins,p.1≠b):Inv X pins σ H' s':=by
 obtain⟨h',g',d',t',o'⟩:=s'
 have e:o'=s.os:=ho
 subst e
 exact I.call (g':=g') (t':=t') (d':=d') u hok hg hch
end
noncomputable abbrev XK:=Value->Option Addr->Hp->Prop
noncomputable abbrev St:=List (Option V)
noncomputable abbrev VK:=V->Hp->Prop
noncomputable abbrev TE:=St->Hp->VK->Prop
noncomputable abbrev TT:=St->Hp->(Bool->Hp->Prop)->Prop
noncomputable abbrev TA:=St->Hp->(List V->Hp->Prop)->Prop
set_option genInjectivity false in
structure Ends where
 nx:St->Hp->Prop
 rt:VK
 bk:St->Hp->Prop:=λ_ _=>False
 ct:St->Hp->Prop:=λ_ _=>False
noncomputable abbrev TS:=Ends->St->Hp->Prop
noncomputable def EP(X:Cx)(pins:List (Addr×Obj))(σ:St)(Q:VK)(u:Value)(s':Shared):Prop:=∃v H',Inv X pins σ H' s'/\RelV v u/\Q v H'
noncomputable def TP(X:Cx)(pins:List (Addr×Obj))(σ:St)(Q:Bool->Hp->Prop)(b:Bool)(s':Shared):Prop:=∃H',Inv X pins σ H' s'/\Q b H'
noncomputable def AP(X:Cx)(pins:List (Addr×Obj))(σ:St)(Q:List V->Hp->Prop)(us:List Value)(s':Shared):Prop:=∃vs H',Inv X pins σ H' s'/\Vals vs us/\Q vs H'
noncomputable def SP(X:Cx)(pins:List (Addr×Obj))(D:Ends)(f:Flow)(s':Shared):Prop:=
 match f with
 |.next=>∃σ' H',Inv X pins σ' H' s'/\D.nx σ' H'
 |.brk=>∃σ' H',Inv X pins σ' H' s'/\D.bk σ' H'
 |.cont=>∃σ' H',Inv X pins σ' H' s'/\D.ct σ' H'
 |.ret u=>∃v σ' H',Inv X pins σ' H' s'/\RelV v u/\D.rt v H'
noncomputable def PE(X:Cx)(e:Expr)(t:TE):Prop:=
 ∀(pins:List (Addr×Obj))(s:Shared)(σ:St)(H:Hp)(Q:VK),Inv X pins σ H s->t σ H Q->wpAny (model X.prog X.w) X.A (eval e X.env) (EP X pins σ Q) X.xe s
noncomputable def PT(X:Cx)(e:Expr)(t:TT):Prop:=
 ∀(pins:List (Addr×Obj))(s:Shared)(σ:St)(H:Hp)(Q:Bool->Hp->Prop),Inv X pins σ H s->t σ H Q->wpAny (model X.prog X.w) X.A (isTrue e X.env (eval e X.env)) (TP X pins σ Q) X.xe s
noncomputable def PW(X:Cx)(e:Expr)(t:TT):Prop:=
 ∀(whole:Sem Value)(pins:List (Addr×Obj))(s:Shared)(σ:St)(H:Hp)(Q:Bool->Hp->Prop),Inv X pins σ H s->t σ H Q->wpAny (model X.prog X.w) X.A (isTrue e X.env whole) (TP X pins σ Q) X.xe s
theorem PW.pt{X:Cx}{e:Expr}{t:TT}(h:PW X e t):PT X e t:=h _
noncomputable def PA(X:Cx)(es:List Expr)(t:TA):Prop:=
 ∀(pos:Pos)(pins:List (Addr×Obj))(s:Shared)(σ:St)(H:Hp)(Q:List V->Hp->Prop),Inv X pins σ H s->t σ H Q->wpAny (model X.prog X.w) X.A (spliced (backTo pos (starEach es X.env))) (AP X pins σ Q) X.xe s
noncomputable def PS(X:Cx)(st:Stmt)(t:TS):Prop:=
 ∀(pins:List (Addr×Obj))(s:Shared)(σ:St)(H:Hp)(D:Ends),Inv X pins σ H s->t D σ H->wpAny (model X.prog X.w) X.A (exec st X.env) (SP X pins D) X.xe s
noncomputable def PSs(X:Cx)(st:List Stmt)(t:TS):Prop:=
 ∀(pins:List (Addr×Obj))(s:Shared)(σ:St)(H:Hp)(D:Ends),Inv X pins σ H s->t D σ H->wpAny (model X.prog X.w) X.A (execs st X.env) (SP X pins D) X.xe s
theorem thn{α:Type}{t:Sem α}{Q Q':α->Shared->Prop}{M:Model}{A:Around}{E:Value->Shared->Prop}{s:Shared}(h:wpAny M A t Q E s)(hQ:∀a s,Q a s->Q' a s):wpAny M A t Q' E s:=wpAny_mono h hQ λ_ _ x=>x
end L2
namespace L2
open PySem PySem.Spec PyProof.Rows
variable{pos:Pos}{x:Str}
section
variable{X:Cx}
noncomputable def tVar(i:Nat):TE:=λσ H Q=>∃v,σ[i]?=some (some v)/\Q v H
noncomputable def tC(v:V):TE:=λ_ H Q=>Q v H
theorem jL {i:Nat} (hN:X.N[i]?=some x) (hv:Vis X.env.scope x) (hd:(x==("__debug__" : Str))=false:=by decide) (hcd:(x==("__classdict__" : Str))=false:=by decide):PE X (.Name x pos) (tVar i):=by
 intro pins s σ H Q I h
 obtain⟨v,e,h⟩:=h
 obtain⟨m,hn,hl⟩:=I.loc
 obtain⟨u,r,l⟩:=hl i x v hN e hv
 have fin:EP X pins σ Q u s:=⟨v,H,I,r,h⟩
 rcases l with⟨hk,hm⟩|⟨hk,c,hc,hcell⟩
 ·exact wpAny_Name (wpAny_loadName_local I.ok.kind hk hn hm fin) hd
 ·rcases hk with hk|hk
  ·exact wpAny_Name (wpAny_loadName_cell I.ok.kind hk hc hcell fin) hd
  ·exact wpAny_Name (wpAny_loadName_free I.ok.kind hk hc hcell fin hcd) hd
theorem pe_int{i j pos}:PE X (.Constant (.int i) j pos) (tC (.int i)):=λ_ _ _ H _ I h=>wpAny_Constant_int ⟨.int i,H,I.tok _,⟨_,rfl⟩,h⟩
theorem pe_bl{b j pos}:PE X (.Constant (.bool b) j pos) (tC (.bl b)):=λ_ _ _ H _ I h=>Constant_bool ⟨.bl b,H,I,rfl,h⟩
theorem pe_non{j pos}:PE X (.Constant .none j pos) (tC .non):=λ_ _ _ H _ I h=>Constant_none ⟨.non,H,I,rfl,h⟩
theorem pe_str{x j pos}:PE X (.Constant (.str x) j pos) (tC (.str x)):=λ_ _ _ H _ I h=>Calls.Constant_str ⟨.str x,H,I.tok _,⟨_,rfl⟩,h⟩
noncomputable def Gl(X:Cx)(x:Str):Prop:=X.env.kindOf x=some .globalImplicit
theorem vA{E:Value->Shared->Prop}{pins:List (Addr×Obj)}{s:Shared}{σ:St}{H:Hp}{x:Str}{u:Value}{pos:Pos}{Q:Value->Shared->Prop}(I:Inv X pins σ H s)(hg:Gl X x)(hm:X.mg x=some u)(h:Q u s)
 (hd:(x==("__debug__" : Str))=false:=by decide):wpAny (model X.prog X.w) X.A (eval (.Name x pos) X.env) Q E s:=
 Calls.Name_function_global I.ok.kind hg (Calls.loadGlobal_global (by rw[I.ok.glob];exact I.mod.glob.keeps I.bk) hm h) hd
theorem lI{E:Value->Shared->Prop}{pins:List (Addr×Obj)}{s:Shared}{σ:St}{H:Hp}{x:Str}{u:Value}{pos:Pos}{Q:Value->Shared->Prop}(I:Inv X pins σ H s)(hg:Gl X x)(hm:X.mg x=none)(hv:bootBuiltins x=some u)(h:Q u s)
 (hn:x ≠ "__name__" := by decide) (hd:(x==("__debug__" : Str))=false:=by decide):wpAny (model X.prog X.w) X.A (eval (.Name x pos) X.env) Q E s:=by
 obtain⟨mb,h1,h2⟩:=I.mod.blt
 exact Calls.Name_function_global I.ok.kind hg (Calls.loadGlobal_builtin (by rw[I.ok.glob];exact I.mod.glob.keeps I.bk) hm (by rw[I.ok.blt];exact h1.keeps I.bk) ((h2 x hn).trans hv) h) hd
theorem vB {v:V} {u:Value} (hg:Gl X x) (hm:X.mg x=some u) (r:RelV v u) (hd:(x==("__debug__" : Str))=false:=by decide):PE X (.Name x pos) (tC v):=
 λ_ _ _ H _ I h=>vA I hg hm ⟨v,H,I,r,h⟩ hd
variable{a b:Expr}{ta tb:TE}{pos:Pos}
variable{tA tB':TT}{rest:List Expr}
noncomputable def tAnd(t u:TT):TT:=λσ H Q=>t σ H λc H1=>if c=true then u σ H1 Q else Q false H1
noncomputable def tOr(t u:TT):TT:=λσ H Q=>t σ H λc H1=>if c=true then Q true H1 else u σ H1 Q
noncomputable def tNot(t:TT):TT:=λσ H Q=>t σ H λc H1=>Q (!c) H1
theorem HD(ha:PT X a tA):PW X (.BoolOp .And [a] pos) tA:=by
 intro wh pins s σ H Q I h
 refine isTrue_and (thn (ha pins s σ H Q I h) λc s1 e=>?_)
 cases c with
 |true=>exact isTrue_and_nil e
 |false=>exact e
theorem pw_or1(ha:PT X a tA):PW X (.BoolOp .Or [a] pos) tA:=by
 intro wh pins s σ H Q I h
 refine isTrue_or (thn (ha pins s σ H Q I h) λc s1 e=>?_)
 cases c with
 |false=>exact isTrue_or_nil e
 |true=>exact e
theorem pw_and(ha:PT X a tA)(hb:PW X (.BoolOp .And (b::rest) pos) tB'):PW X (.BoolOp .And (a::b::rest) pos) (tAnd tA tB'):=by
 intro wh pins s σ H Q I h
 refine isTrue_and (thn (ha pins s σ H _ I h) λc s1 ⟨H1,I1,q1⟩=>?_)
 cases c with
 |true=>exact hb wh pins s1 σ H1 Q I1 q1
 |false=>exact⟨H1,I1,q1⟩
theorem pw_or(ha:PT X a tA)(hb:PW X (.BoolOp .Or (b::rest) pos) tB'):PW X (.BoolOp .Or (a::b::rest) pos) (tOr tA tB'):=by
 intro wh pins s σ H Q I h
 refine isTrue_or (thn (ha pins s σ H _ I h) λc s1 ⟨H1,I1,q1⟩=>?_)
 cases c with
 |true=>exact⟨H1,I1,q1⟩
 |false=>exact hb wh pins s1 σ H1 Q I1 q1
theorem pt_not(ha:PT X a tA):PT X (.UnaryOp .Not a pos) (tNot tA):=by
 intro pins s σ H Q I h
 exact isTrue_not (ha pins s σ H (λc H1=>Q (!c) H1) I h)
theorem pe_one{op}{t:TE}(h:PE X a t):PE X (.BoolOp op [a] pos) t:=λpins s σ H Q I hw=>BoolOp_one (h pins s σ H Q I hw)
noncomputable def tIf(t:TT)(ta tb:TE):TE:=λσ H Q=>t σ H λc H1=>if c=true then ta σ H1 Q else tb σ H1 Q
theorem HE{c:Expr}(hc:PT X c tA)(ha:PE X a ta)(hb:PE X b tb):PE X (.IfExp c a b pos) (tIf tA ta tb):=by
 intro pins s σ H Q I h
 refine wpAny_IfExp (thn (hc pins s σ H _ I h) λd s1 ⟨H1,I1,q1⟩=>?_)
 cases d with
 |true=>exact ha pins s1 σ H1 Q I1 q1
 |false=>exact hb pins s1 σ H1 Q I1 q1
end
end L2
namespace L2
open PySem PySem.Spec PyProof.Rows
variable{X:Cx}{tg:Expr}{H:Hp}{pins:List (Addr×Obj)}{i:Nat}{P:Program}{K:PySem.W.Frag}{s:Shared}{σ:St}{x:V}{u:Value}{w:World}
noncomputable def SqL(K:PySem.W.Frag)(H:Hp)(a:Addr)(xs:List V):Prop:=
 Rd H a (.lst xs) \/
  ∃(o:Obj) (its:Array Value) (n:Nat),K.lookup a=some o/\o.cls=.type "list" /\ o.dict=none/\o.data=.seq its n/\its.size<=sizeLine/\Vals xs its.toList
noncomputable def SqT(K:PySem.W.Frag)(H:Hp)(a:Addr)(xs:List V):Prop:=
 Rd H a (.tup xs) \/
  ∃(o:Obj) (its:Array Value) (n:Nat),K.lookup a=some o/\o.cls=.type "tuple" /\ o.data=.seq its n/\its.size<=sizeLine/\Vals xs its.toList
noncomputable def absV:Value->Option V
 |.none=>some .non
 |.bool b=>some (.bl b)
 |.int i _=>some (.int i)
 |.str x _=>some (.str x)
 |.bytes b _=>some (.byt b)
 |.float b _=>some (.flt b)
 |.ref a=>some (.ref a)
 |.type n=>some (.ty n)
 |_=>none
theorem RelV.abs(r:RelV x u):absV u=some x:=by
 cases x with
 |non=>cases r;rfl
 |bl _=>cases r;rfl
 |int _=>obtain⟨t,rfl⟩:=r;rfl
 |str _=>obtain⟨t,rfl⟩:=r;rfl
 |byt _=>obtain⟨t,rfl⟩:=r;rfl
 |flt _=>obtain⟨t,rfl⟩:=r;rfl
 |ref _=>cases r;rfl
 |ty _=>cases r;rfl
theorem RelV.inj{y:V}(r:RelV x u)(q:RelV y u):x=y:=fW.inj (r.abs.symm.trans q.abs)
theorem Vals.inj:∀{xs ys:List V} {us:List Value},Vals xs us->Vals ys us->xs=ys
 |_,_,_,.nil,.nil=>rfl
 |_,_,_,.cons r t,.cons r' t'=>by rw[r.inj r',Vals.inj t t']
section
variable{X:Cx}{pins:List (Addr×Obj)}{σ:St}{H:Hp}{s:Shared}{a:Addr}{xs ys:List V}
theorem SqL.of(h:H a=some (.lst xs)):SqL K H a xs:=.inl (.inl h)
theorem Inv.list(I:Inv X pins σ H s)(h:SqL X.K H a xs):∃its:List Value,Vals xs its/\PlainL s.heap a its.toArray/\xs.length<=sizeLine:=by
 rcases h with h|⟨o,its,n,hk,hc,hd,hs,hz,r⟩
 ·obtain⟨z,its,n,r,e⟩:=h.ok I.hok
  exact⟨its,r,⟨_,n,e,rfl,rfl,rfl⟩,z⟩
 ·refine⟨its.toList,r,⟨o,n,I.kIn a o hk,hc,hd,by simpa using hs⟩,?_⟩
  have e:=r.length
  simp only[qY]at e
  lia
theorem Inv.tuple(I:Inv X pins σ H s)(h:SqT X.K H a xs):∃its:List Value,Vals xs its/\IsTup s.heap a its.toArray/\xs.length<=sizeLine:=by
 rcases h with h|⟨o,its,n,hk,hc,hs,hz,r⟩
 ·obtain⟨z,its,r,p⟩:=h.ok I.hok
  exact⟨its,r,p,z⟩
 ·refine⟨its.toList,r,⟨o,I.kIn a o hk,hc,n,by simpa using hs⟩,?_⟩
  have e:=r.length
  simp only[qY]at e
  lia
theorem Inv.list_inj(I:Inv X pins σ H s)(h:SqL X.K H a xs)(h':SqL X.K H a ys):xs=ys:=by
 obtain⟨its,r,⟨o,n,e,_,_,d⟩,_⟩:=I.list h
 obtain⟨its',r',⟨o',n',e',_,_,d'⟩,_⟩:=I.list h'
 rw[e]at e';cases e'
 rw[d]at d'
 injection d' with d1 _
 have:its=its':=by simpa using congrArg Array.toList d1
 subst this
 exact r.inj r'
theorem Inv.tuple_inj(I:Inv X pins σ H s)(h:SqT X.K H a xs)(h':SqT X.K H a ys):xs=ys:=by
 obtain⟨its,r,⟨o,e,_,n,d⟩,_⟩:=I.tuple h
 obtain⟨its',r',⟨o',e',_,n',d'⟩,_⟩:=I.tuple h'
 rw[e]at e';cases e'
 rw[d]at d'
 injection d' with d1 _
 have:its=its':=by simpa using congrArg Array.toList d1
 subst this
 exact r.inj r'
end
noncomputable abbrev Cx.wish(X:Cx)(E:Value->Shared->Prop):Cx:={X with xe:=E}
noncomputable abbrev Cx.nox(X:Cx):Cx:=X.wish λ_ _=>False
theorem Cx.Ok.wish(ok:X.Ok)(E:Value->Shared->Prop):(X.wish E).Ok:=
 ⟨ok.mod,ok.kind,ok.glob,ok.blt,ok.above,ok.inj,ok.has,ok.cab,ok.hd,ok.frames,ok.stk,ok.exf,ok.bs,ok.bsz,ok.noex,ok.exfs,ok.funs,ok.frf⟩
theorem Cx.Ok.unwish{E:Value->Shared->Prop}(ok:(X.wish E).Ok):X.Ok:=
 ⟨ok.mod,ok.kind,ok.glob,ok.blt,ok.above,ok.inj,ok.has,ok.cab,ok.hd,ok.frames,ok.stk,ok.exf,ok.bs,ok.bsz,ok.noex,ok.exfs,ok.funs,ok.frf⟩
section
variable{X:Cx}{pins:List (Addr×Obj)}{σ:St}{H:Hp}{s:Shared}{E:Value->Shared->Prop}
theorem Inv.wish(I:Inv X pins σ H s)(E:Value->Shared->Prop):Inv (X.wish E) pins σ H s:=⟨I.ok.wish E,I.os,I.bare,I.base,I.loc,I.cell,I.free,I.freeC,I.pin,I.hok,I.len⟩
theorem Inv.unwish(I:Inv (X.wish E) pins σ H s):Inv X pins σ H s:=⟨I.ok.unwish,I.os,I.bare,I.base,I.loc,I.cell,I.free,I.freeC,I.pin,I.hok,I.len⟩
theorem SP.unwish{D:Ends}{f:Flow}{s':Shared}(h:SP (X.wish E) pins D f s'):SP X pins D f s':=by
 cases f with
 |next=>obtain⟨σ',H',I,q⟩:=h;exact⟨σ',H',I.unwish,q⟩
 |brk=>obtain⟨σ',H',I,q⟩:=h;exact⟨σ',H',I.unwish,q⟩
 |cont=>obtain⟨σ',H',I,q⟩:=h;exact⟨σ',H',I.unwish,q⟩
 |ret u=>obtain⟨v,σ',H',I,r,q⟩:=h;exact⟨v,σ',H',I.unwish,r,q⟩
theorem PSs.nox{st:List Stmt}{t:TS}(h:PSs X.nox st t):PSs X st t:=λpins s σ H D I hw=>
 wpAny_mono (h pins s σ H D (I.wish _) hw) (λ_ _ q=>q.unwish) λ_ _ z=>False.elim z
end
section
variable{X:Cx}{st:Stmt}{rest:List Stmt}{t u:TS}{e:Expr}{te:TE}{pos:Pos}
noncomputable def tNext:TS:=λD σ H=>D.nx σ H
noncomputable def tSeq(t u:TS):TS:=λD σ H=>t {D with nx:=u D} σ H
theorem HF:PSs X [] tNext:=λ_ _ σ H _ I h=>wpAny_execs_nil ⟨σ,H,I,h⟩
theorem HG(h1:PS X st t)(h2:PSs X rest u):PSs X (st::rest) (tSeq t u):=by
 intro pins s σ H D I h
 refine wpAny_execs_cons (thn (h1 pins s σ H {D with nx:=u D} I h) λf s1 q=>?_)
 cases f with
 |next=>
  obtain⟨σ',H',I',q⟩:=q
  exact h2 pins s1 σ' H' D I' q
 |ret v=>exact q
 |brk=>exact q
 |cont=>exact q
theorem Inv.quiet(I:Inv X pins σ H s):interactive X.env=false:=by simp[interactive,I.ok.kind]
noncomputable def tDrop(te:TE):TS:=λD σ H=>te σ H λ_ H1=>D.nx σ H1
theorem mT(he:PE X e te)(hs:swapsWith e none pos.line X.env=pure false:=by rfl):PS X (.Expr e pos) (tDrop te):=by
 intro pins s σ H D I h
 exact wpAny_Expr_any (thn (he pins s σ H _ I h) λv s1 ⟨x,H1,I1,r1,q1⟩=>⟨σ,H1,I1,q1⟩) I.quiet hs
noncomputable def tRet(te:TE):TS:=λD σ H=>te σ H D.rt
theorem Ap(he:PE X e te):PS X (.Return (some e) pos) (tRet te):=by
 intro pins s σ H D I h
 exact wpAny_Return_some (thn (he pins s σ H _ I h) λv s1 ⟨x,H1,I1,r1,q1⟩=>⟨x,σ,H1,I1,r1,q1⟩)
noncomputable def tIfS(c:TT)(t u:TS):TS:=λD σ H=>c σ H λb H1=>if b=true then t D σ H1 else u D σ H1
theorem ps_if{c:Expr}{a b:List Stmt}{tc:TT}(hc:PT X c tc)(ha:PSs X a t)(hb:PSs X b u):PS X (.If c a b pos) (tIfS tc t u):=by
 intro pins s σ H D I h
 refine wpAny_If (thn (hc pins s σ H _ I h) λd s1 ⟨H1,I1,q1⟩=>?_)
 cases d with
 |true=>exact ha pins s1 σ H1 D I1 q1
 |false=>exact hb pins s1 σ H1 D I1 q1
noncomputable def tNever:TS:=λ_ _ _=>False
theorem HH:PS X st tNever:=λ_ _ _ _ _ _ h=>h.elim
end
noncomputable abbrev TG:=V->St->Hp->(St->Hp->Prop)->Prop
noncomputable abbrev TGs:=List V->St->Hp->(St->Hp->Prop)->Prop
noncomputable def PG(X:Cx)(target:Expr)(t:TG):Prop:=
 ∀(pins:List (Addr×Obj))(s:Shared)(σ:St)(H:Hp)(v:V)(u:Value)(Q:St->Hp->Prop),Inv X pins σ H s->RelV v u->t v σ H Q ->
  wpAny (model X.prog X.w) X.A (assign target X.env u) (λ_ s'=>∃σ' H',Inv X pins σ' H' s'/\Q σ' H') X.xe s
noncomputable def PGs(X:Cx)(ts:List Expr)(t:TGs):Prop:=
 ∀(pins:List (Addr×Obj))(s:Shared)(σ:St)(H:Hp)(vs:List V)(us:List Value)(Q:St->Hp->Prop),Inv X pins σ H s->Vals vs us->t vs σ H Q ->
  wpAny (model X.prog X.w) X.A (assignInOrder ((assignEach ts X.env).map (·.2)) us) (λ_ s'=>∃σ' H',Inv X pins σ' H' s'/\Q σ' H') X.xe s
noncomputable abbrev TSet:=V->V->V->Hp->(Hp->Prop)->Prop
noncomputable def PSet(X:Cx)(t:TSet):Prop:=
 ∀(pins:List (Addr×Obj))(s:Shared)(σ:St)(H:Hp)(o i v:V)(ov iv u:Value)(Q:Hp->Prop),Inv X pins σ H s->RelV o ov->RelV i iv->RelV v u->t o i v H Q ->
  wpAny (model X.prog X.w) X.A (setItem ov iv u) (λ_ s'=>∃H',Inv X pins σ H' s'/\Q H') X.xe s
section
variable{X:Cx}{pos:Pos}
noncomputable def Aq(i:Nat):TG:=λv σ H Q=>Q (σ.set i (some v)) H
theorem Ar{x:Str}(hN:X.N.Nodup)(hi:X.N[i]?=some x)(hx:Loc X.env.scope x)(hf:X.fn x=true\/X.env.scope.names.lookup x=some .local:=by first|exact .inl rfl|exact .inr rfl|assumption):PG X (.Name x pos) (Aq i):=by
 intro pins s σ H v u Q I r h
 exact wpAny_assign_Name (Ao I hN hi hx r (λs' I'=>⟨_,H,I',h⟩) hf)
noncomputable def gNil:TGs:=λvs σ H Q=>vs=[]/\Q σ H
noncomputable def gCons(t:TG)(u:TGs):TGs:=λvs σ H Q=>∃v r,vs=v::r/\t v σ H λσ' H'=>u r σ' H' Q
theorem HI:PGs X [] gNil:=by
 intro pins s σ H vs us Q I r h
 obtain⟨e,h⟩:=h
 subst e
 cases r
 exact assignInOrder_nil ⟨σ,H,I,h⟩
theorem HJ{e:Expr}{es:List Expr}{t:TG}{u:TGs}(h1:PG X e t)(h2:PGs X es u)
 (hs:(assignEach (e::es) X.env).map (·.2)=assign e X.env::(assignEach es X.env).map (·.2):=by rfl):PGs X (e::es) (gCons t u):=by
 intro pins s σ H vs us Q I r h
 obtain⟨v,vr,e1,h⟩:=h
 subst e1
 cases r with
 |cons r rr=>
  rw[hs]
  refine assignInOrder_cons (thn (h1 pins s σ H _ _ _ I r h) λ_ s1 ⟨σ1,H1,I1,q1⟩=>?_)
  exact h2 pins s1 σ1 H1 _ _ Q I1 rr q1
noncomputable def gTup(K:PySem.W.Frag)(n:Nat)(t:TGs):TG:=λv σ H Q=>∃a xs,v=.ref a/\SqT K H a xs/\xs.length=n/\t xs σ H Q
theorem pg_tup{es:List Expr}{k:Nat}{t:TGs}{n:Nat}(hc:X.calm=true)(h:PGs X es t)
 (hn:(assignEach es X.env).length=n:=by rfl) (hst:(assignEach es X.env).findIdx? (·.1)=none:=by rfl):PG X (.Tuple es k pos) (gTup X.K n t):=by
 intro pins s σ H v u Q I r hw
 obtain⟨a,xs,e1,hq,hl,hw⟩:=hw
 subst e1
 cases r
 obtain⟨its,rv,ht,hz⟩:=I.tuple hq
 refine assign_Tuple_tuple (I.ok.hd hc) ht (by simp[hn,<-hl,rv.length]) hst λh' hx=>?_
 have I1:Inv X pins σ H {s with heap:=h' }:=I.kept (t':=s.toks) λb o e=>hx b o (cC (Heap.lt_size e)) e
 exact h pins _ σ H xs _ Q I1 (by simpa using rv) hw
noncomputable def tAsg(te:TE)(g:TG):TS:=λD σ H=>te σ H λx H1=>g x σ H1 D.nx
theorem ps_asg{tg e:Expr}{te:TE}{g:TG}(he:PE X e te)(hg:PG X tg g)(hs:swapsWithSole [tg] e pos.line X.env=pure false:=by rfl)(hw:swappedStores [tg] e X.env=pure none:=by rfl)
 (h1:(assignEach [tg] X.env).map (·.2)=[assign tg X.env]:=by rfl):PS X (.Assign [tg] e pos) (tAsg te g):=by
 intro pins s σ H D I h
 refine wpAny_Assign_stores (thn (he pins s σ H _ I h) λv s1 ⟨x,H1,I1,r1,q1⟩=>?_) hs hw
 rw[h1]
 exact thn (hg pins s1 σ H1 x v _ I1 r1 q1) λ_ s2 q=>q
theorem vD{x:Str}{e:Expr}{te:TE}{pos':Pos}(hN:X.N.Nodup)(hi:X.N[i]?=some x)(hx:Loc X.env.scope x)(he:PE X e te)(hs:swapsWith e (some (.Name x pos')) pos.line X.env=pure false:=by rfl)(hf:X.fn x=true\/X.env.scope.names.lookup x=some .local:=by first|exact .inl rfl|exact .inr rfl|assumption) :
 PS X (.Assign [.Name x pos'] e pos) (tAsg te (Aq i)):=by
 intro pins s σ H D I h
 refine wpAny_Assign_Name (thn (he pins s σ H _ I h) λv s1 ⟨y,H1,I1,r1,q1⟩=>?_) hs
 exact Ao I1 hN hi hx r1 (λs2 I2=>⟨_,H1,I2,q1⟩) hf
end
section
variable{X:Cx}{pos:Pos}
end
set_option genInjectivity false in
structure It where
 go:Nat->Hp->Prop
 yld:Nat->Hp->V->Hp->Prop
 stop:Nat->Hp->Prop
noncomputable def iC(X:Cx)(pins:List (Addr×Obj))(H:Hp)(b:Addr):Prop:=
 H b=none/\b≠X.env.locals/\b∉X.fs/\(b∈X.ex\/X.sy.heap.objs.size<=b)/\(∀x c,X.env.cells.lookup x=some c->c≠b)/\∀p∈X.pn++pins,p.1≠b
theorem Inv.fpOk{H':Hp}{b:Addr}(I:Inv X pins σ H s)(hb:s.heap.objs.size<=b)(hn:H' b=none):iC X pins H' b:=by
 refine⟨hn,qZ (dU I.lt hb),I.nofs hb,.inr (eQ I.sz hb),λx c e z=>?_,λp hp z=>?_⟩
 ·obtain⟨v,q⟩:=I.cell x c e
  exact absurd (dU q.lt (by rw[z];exact hb)) (iM _)
 ·exact absurd (dU (Heap.lt_size (I.pin p hp).1) (by rw[z];exact hb)) (iM _)
set_option genInjectivity false in
structure Turn(P:Program)(w:World)(K:PySem.W.Frag)(tg:Expr)(J:It)(fp:List Addr)(it:Addr)(tn:Nat->Heap->Prop):Prop where
 mem:it∈fp
 obj:∀i h,tn i h->∀b∈fp,∃o,h.get? b=some o/\∀v,o.data≠.cell v
 keep:∀i h h',tn i h->(∀b∈fp,∀o,h.get? b=some o->h'.get? b=some o)->tn i h'
 item:∀(X:Cx),X.prog=P->X.w=w->X.K=K->X.calm=true->∀(i:Nat)(pins:List (Addr×Obj))(s:Shared)(σ:St)(H:Hp)(E:Value->Shared->Prop),Inv X pins σ H s->(∀b∈fp,iC X pins H b)->tn i s.heap->J.go i H ->
  wpAny (model P w) X.A (pyNext (.ref it)) (λr s1=>∃u,r=some u /\
   wpAny (model P w) X.A (letOwnedTupleGo tg (.ref it) u) (λ_ s2=>∃x H',Inv X pins σ H' s2/\RelV x u/\J.yld i H x H'/\tn (i+1) s2.heap/\∀b∈fp,H' b=none) E s1) E s
 done:∀(X:Cx),X.prog=P->X.w=w->X.K=K->X.calm=true->∀(i:Nat)(pins:List (Addr×Obj))(s:Shared)(σ:St)(H:Hp)(E:Value->Shared->Prop),Inv X pins σ H s->(∀b∈fp,iC X pins H b)->tn i s.heap->J.stop i H ->
  wpAny (model P w) X.A (pyNext (.ref it)) (λr s1=>r=none/\Inv X pins σ H s1) E s
 self:∀(A:Around)(i:Nat)(s:Shared)(Q:Value->Shared->Prop)(E:Value->Shared->Prop),tn i s.heap->Q (.ref it) s->wpAny (model P w) A (pyIter (.ref it)) Q E s
noncomputable abbrev TI:=St->Hp->(It->Hp->Prop)->Prop
noncomputable def PIE(X:Cx)(pins:List (Addr×Obj))(σ:St)(tg:Expr)(R:It->Hp->Prop)(itv:Value)(s2:Shared):Prop:=
 ∃(it:Addr)(fp:List Addr)(tn:Nat->Heap->Prop)(J:It)(H':Hp),itv=.ref it/\Inv X pins σ H' s2/\Turn X.prog X.w X.K tg J fp it tn/\tn 0 s2.heap/\(∀b∈fp,iC X pins H' b)/\R J H'
noncomputable def PI(X:Cx)(tg iter:Expr)(wi:TI):Prop:=
 ∀(pins:List (Addr×Obj))(s:Shared)(σ:St)(H:Hp)(R:It->Hp->Prop),Inv X pins σ H s->wi σ H R ->
  wpAny (model X.prog X.w) X.A (eval iter X.env) (λv s1=>wpAny (model X.prog X.w) X.A (pyIter v) (PIE X pins σ tg R) X.xe s1) X.xe s
theorem oU{M:Model}{A:Around}{E:Value->Shared->Prop}{s:Shared}{tg:Expr}{it:Addr}{u:Value}{o:Obj}{n:String}{vs:Array Value}{Q:Unit->Shared->Prop}(ho:s.heap.get? it=some o)(hc:o.cls=.type n)(hd:o.data=.fields vs)
 (hn:["enumerate", "zip", "dict_itemiterator", "dict_reverseitemiterator", "odict_iterator", "itertools.zip_longest", "itertools.pairwise"].contains n=false) (hQ:Q () s):wpAny M A (letOwnedTupleGo tg (.ref it) u) Q E s:=by
 unfold letOwnedTupleGo
 cases tg<;>first
  |exact wpAny_pure hQ
  |(cases u<;>first
   |exact wpAny_pure hQ
   | (refine wpAny_bind (wpAny_load ho ?_)
      rw[hc,hd]
      show wpAny M A (if(["enumerate", "zip", "dict_itemiterator", "dict_reverseitemiterator", "odict_iterator", "itertools.zip_longest", "itertools.pairwise"].contains n&&vs[0]?==some (rawInt _))=true then _ else _) Q E s
      rw[if_neg (by intro h;rw[hn,Bool.false_and]at h;cases h)]
      exact wpAny_pure hQ))
noncomputable def Itl(K:PySem.W.Frag)(a:Addr):It:=
 ⟨λi H=>∃xs x,SqL K H a xs/\xs[i]?=some x,λi H x H'=>H'=H/\∀xs,SqL K H a xs->xs[i]?=some x,λi H=>∃xs,SqL K H a xs/\xs.length<=i⟩
noncomputable def Itt(K:PySem.W.Frag)(a:Addr):It:=
 ⟨λi H=>∃xs x,SqT K H a xs/\xs[i]?=some x,λi H x H'=>H'=H/\∀xs,SqT K H a xs->xs[i]?=some x,λi H=>∃xs,SqT K H a xs/\xs.length<=i⟩
noncomputable def Itr(lo:Int)(n:Nat):It:=⟨λi _=>i<n,λi H x H'=>H'=H/\x=.int (lo+i),λi _=>n<=i⟩
theorem HK(a it:Addr):Turn P w K tg (Itl K a) [it] it (λi h=>h.IsListIter it a i) where
 mem:=by simp
 obj:=λi h st b hb=>by
  have e:b=it:=by simpa using hb
  subst e
  obtain⟨o,e,c,d⟩:=st
  exact⟨o,e,λv z=>by rw[d]at z;cases z⟩
 keep:=λi h h' st k=>st.at λo e=>k it (by simp) o e
 item:=by
  intro X hP hw hK hc i pins s σ H E I hf st hg
  subst hP hw hK
  obtain⟨xs,x,hq,hx⟩:=hg
  obtain⟨its,rv,p,hz⟩:=I.list hq
  obtain⟨u,hu,ru⟩:=rv.get hx
  obtain⟨f0,f1,f2,f3,f4,f5⟩:=hf it (by simp)
  refine wpAny_pyNext_list_item st p.isList (x:=u) (by simpa using hu) λh' st' sb=>?_
  have I1:Inv X pins σ H {s with heap:=h' }:=I.turned (t':=s.toks) (λb o hb e=>(sb.2 b hb).trans e) f0 f1 f3 f4 f5
  obtain⟨o,e,c,d⟩:=id st'
  exact⟨u,rfl,oU (s:={s with heap:=h' }) e c d (by decide) ⟨x,H,I1,ru,⟨rfl,λys hy=>by rw[I.list_inj hy hq];exact hx⟩,st',λb hb=>(hf b hb).1⟩⟩
 done:=by
  intro X hP hw hK hc i pins s σ H E I hf st hg
  subst hP hw hK
  obtain⟨xs,hq,hx⟩:=hg
  obtain⟨its,rv,p,hz⟩:=I.list hq
  obtain⟨f0,f1,f2,f3,f4,f5⟩:=hf it (by simp)
  have hl:=rv.length
  exact wpAny_pyNext_list_end (I.ok.hd hc) st p.isList (by simp;lia) λh' eb=>⟨rfl,I.turned (t':=s.toks) (λb o hb e=>eb b o hb e) f0 f1 f3 f4 f5⟩
 self:=λ_ _ _ _ _ st h=>wpAny_pyIter_listiter st h
theorem HL(a it:Addr):Turn P w K tg (Itt K a) [it] it (λi h=>h.IsTupleIter it a i) where
 mem:=by simp
 obj:=λi h st b hb=>by
  have e:b=it:=by simpa using hb
  subst e
  obtain⟨o,e,c,d⟩:=st
  exact⟨o,e,λv z=>by rw[d]at z;cases z⟩
 keep:=λi h h' st k=>st.at λo e=>k it (by simp) o e
 item:=by
  intro X hP hw hK hc i pins s σ H E I hf st hg
  subst hP hw hK
  obtain⟨xs,x,hq,hx⟩:=hg
  obtain⟨its,rv,p,hz⟩:=I.tuple hq
  obtain⟨u,hu,ru⟩:=rv.get hx
  obtain⟨f0,f1,f2,f3,f4,f5⟩:=hf it (by simp)
  refine wpAny_pyNext_tuple_item st (show s.heap.IsTuple a its.toArray from p) (x:=u) (by simpa using hu) λh' st' sb=>?_
  have I1:Inv X pins σ H {s with heap:=h' }:=I.turned (t':=s.toks) (λb o hb e=>(sb.2 b hb).trans e) f0 f1 f3 f4 f5
  obtain⟨o,e,c,d⟩:=id st'
  exact⟨u,rfl,oU (s:={s with heap:=h' }) e c d (by decide) ⟨x,H,I1,ru,⟨rfl,λys hy=>by rw[I.tuple_inj hy hq];exact hx⟩,st',λb hb=>(hf b hb).1⟩⟩
 done:=by
  intro X hP hw hK hc i pins s σ H E I hf st hg
  subst hP hw hK
  obtain⟨xs,hq,hx⟩:=hg
  obtain⟨its,rv,p,hz⟩:=I.tuple hq
  obtain⟨f0,f1,f2,f3,f4,f5⟩:=hf it (by simp)
  have hl:=rv.length
  exact wpAny_pyNext_tuple_end (I.ok.hd hc) st (show s.heap.IsTuple a its.toArray from p) (by simp;lia) λh' eb=>⟨rfl,I.turned (t':=s.toks) (λb o hb e=>eb b o hb e) f0 f1 f3 f4 f5⟩
 self:=λ_ _ _ _ _ st h=>wpAny_pyIter_tupleiter st h
theorem HM{w:World}(it:Addr)(lo:Int)(n:Nat):Turn P w K tg (Itr lo n) [it] it (λi h=>IsRangeIter h it (lo+(i:Nat)*1) ((n:Int)-(i:Nat)) 1) where
 mem:=by simp
 obj:=λi h st b hb=>by
  have e:b=it:=by simpa using hb
  subst e
  exact⟨_,st,λv z=>by
   have z':Data.fields _=Data.cell v:=z
   cases z'⟩
 keep:=λi h h' st k=>k it (by simp) _ st
 item:=by
  intro X hP hw hK hc i pins s σ H E I hf st hg
  subst hP hw hK
  obtain⟨f0,f1,f2,f3,f4,f5⟩:=hf it (by simp)
  have W:=Walks.range (prog:=X.prog) (w:=X.w) (I.ok.hd hc) it lo 1 n
  refine W.item i s _ _ hg st λv h' tk hv st' kk=>?_
  obtain⟨t,rfl⟩:=hv
  have I1:Inv X pins σ H {s with heap:=h',toks:=tk}:=I.turned (λb o hb e=>kk b o (by simpa using hb) e) f0 f1 f3 f4 f5
  refine⟨_,rfl,oU (s:={s with heap:=h',toks:=tk}) (n := "range_iterator") st' rfl rfl (by decide) ⟨.int (lo+i),H,I1,⟨t,?_⟩,⟨rfl,rfl⟩,st',λb hb=>(hf b hb).1⟩⟩
  rw[Int.mul_one]
 done:=by
  intro X hP hw hK hc i pins s σ H E I hf st hg
  subst hP hw hK
  obtain⟨f0,f1,f2,f3,f4,f5⟩:=hf it (by simp)
  exact wpAny_pyNext_range_end (I.ok.hd hc) st (by have:n<=i:=hg;lia) λh' eb=>⟨rfl,I.turned (t':=s.toks) (λb o hb e=>eb b o hb e) f0 f1 f3 f4 f5⟩
 self:=λ_ _ _ _ _ st h=>wpAny_pyIter_rangeiter st h
end L2
namespace L2
open PySem PySem.Spec PyProof.Rows
variable{a:Expr}{h:Heap}{H:Hp}{pins:List (Addr×Obj)}{fp:List Addr}{pos:Pos}{s:Shared}{σ:St}{ta:TA}
section
variable{X:Cx}{tg:Expr}
theorem As{pins:List (Addr×Obj)}{σ:St}{H:Hp}{s:Shared}{R:It->Hp->Prop}{E:Value->Shared->Prop}{lo hi:Int}{t u v:Tok}{tk:Nat}(I:Inv X pins σ H s)(h1:-(2^62)<=lo)(h2:lo<2^62)(h3:-(2^62)<=hi)(h4:hi<2^62)
 (q:R (Itr lo (hi-lo).toNat) H):wpAny (model X.prog X.w) X.A (pyIter (.ref s.heap.objs.size)) (PIE X pins σ tg R) E {s with heap:=s.heap.push {cls:=.type "range", data:=.fields #[.int lo t,.int hi u,.int 1 v] },toks:=tk}:=by
 refine wpAny_pyIter_range (IsRange.new ..) (small_one h1 h2 h3 h4) ?_
 have I1:Inv X pins σ H {s with heap:=s.heap.push {cls:=.type "range", data:=.fields #[.int lo t,.int hi u,.int 1 v] },toks:=tk}:=I.kept λb o e=>Heap.get?_push_of_some _ e
 refine⟨(s.heap.push {cls:=.type "range", data:=.fields #[.int lo t,.int hi u,.int 1 v] }).objs.size,[(s.heap.push {cls:=.type "range", data:=.fields #[.int lo t,.int hi u,.int 1 v] }).objs.size],_,_,H,rfl,
  I1.kept (t':=tk) λb o e=>Heap.get?_push_of_some _ e,HM _ lo (hi-lo).toNat,?_,λb hb=>?_,q⟩
 ·have e1:lo+((0:Nat):Int)*1=lo:=by simp
  have e2:(((hi-lo).toNat:Nat):Int)-((0:Nat):Int)=Builtin.Range.rangeSize lo hi 1:=by rw[rangeSize_one];split<;>lia
  show IsRangeIter _ _ (lo+((0:Nat):Int)*1) ((((hi-lo).toNat:Nat):Int)-((0:Nat):Int)) 1
  rw[e1,e2]
  exact Heap.get?_push_size _ rfl
 ·have e:b=(s.heap.push {cls:=.type "range", data:=.fields #[.int lo t,.int hi u,.int 1 v] }).objs.size:=by simpa using hb
  subst e
  exact I1.fpOk (aN _) (I1.hok.fresh (aN _))
noncomputable def iRng1(ta:TA):TI:=λσ H R=>ta σ H λvs H1=>∃j:Int,vs=[.int j] /\ -(2^62)<=j/\j<2^62/\R (Itr 0 j.toNat) H1
noncomputable def iRng2(ta:TA):TI:=λσ H R=>ta σ H λvs H1=>∃i j:Int,vs=[.int i,.int j]/\(-(2^62)<=i/\i<2^62 /\ -(2^62)<=j/\j<2^62)/\R (Itr i (j-i).toNat) H1
theorem HN {p:Pos} (hg:Gl X "range") (hm:X.mg "range" = none) (ha:PA X [a] ta) (hs:starEach [a] X.env=[(false,eval a X.env)]:=by rfl):PI X tg (.Call (.Name "range" p) [a] [] pos) (iRng1 ta):=by
 intro pins s σ H R I h
 refine Call_ (lI I hg hm boot_range (PyProof.Rows.callWith_type1 (thn (ha pos pins s σ H _ I h) λus s1 ⟨vs,H1,I1,r1,q1⟩=>?_) hs rfl))
 obtain⟨j,e,q1,q2,q⟩:=q1
 subst e
 cases r1 with
 |cons r rr=>
  cases rr
  obtain⟨t,rfl⟩:=r
  exact call_range_1 (As I1 (by lia) (by lia) q1 q2 (by simpa using q))
theorem HQ {b:Expr} {p pos:Pos} (hg:Gl X "range") (hm:X.mg "range" = none) (ha:PA X [a,b] ta) (hs:starEach [a,b] X.env=[(false,eval a X.env),(false,eval b X.env)]:=by rfl) (hs2:starEach [b] X.env=[(false,eval b X.env)]:=by rfl) :
 PI X tg (.Call (.Name "range" p) [a,b] [] pos) (iRng2 ta):=by
 intro pins s σ H R I h
 refine Call_ (lI I hg hm boot_range (PyProof.Rows.callWith_type1 (thn (ha pos pins s σ H _ I h) λus s1 ⟨vs,H1,I1,r1,q1⟩=>?_) (by rw[hs,hs2]) (by rw[hs2];rfl)))
 obtain⟨i,j,e,⟨q1,q2,q3,q4⟩,q⟩:=q1
 subst e
 cases r1 with
 |cons r rr=>
  cases rr with
  |cons r' rr=>
   cases rr
   obtain⟨t,rfl⟩:=r
   obtain⟨t',rfl⟩:=r'
   exact call_range_2 (As I1 q1 q2 q3 q4 q)
noncomputable def tFor(wi:TI)(g:TG)(tb:TS):TS:=λD σ H=>wi σ H λJ H1=>∃W:Nat->Nat->St->Hp->Prop,(∃m,W 0 m σ H1)/\∀i m σ H,W i m σ H ->
 (J.stop i H/\D.nx σ H)\/(J.go i H/\∃N:St->Hp->Prop,(∀σ' H',N σ' H'->∃m',m'<m/\W (i+1) m' σ' H')/\∀x H',J.yld i H x H'->g x σ H' λσ2 H2=>tb {D with nx:=N,ct:=N,bk:=D.nx} σ2 H2)
noncomputable def mU(fp:List Addr)(h:Heap):List (Addr×Obj):=fp.filterMap λb=>(h.get? b).map λo=>(b,o)
theorem rN{b:Addr}{o:Obj}(hb:b∈fp)(e:h.get? b=some o):(b,o)∈mU fp h:=mM.mpr ⟨b,hb,by rw[e];rfl⟩
theorem HR{p:Addr×Obj}(hp:p∈mU fp h):p.1∈fp/\h.get? p.1=some p.2:=by
 obtain⟨b,hb,e⟩:=mM.mp hp
 cases q:h.get? b with
 |none=>rw[q]at e;cases e
 |some o=>
  rw[q]at e
  have e':(b,o)=p:=fW.inj e
  subst e'
  exact⟨hb,q⟩
theorem Inv.pinned(I:Inv X pins σ H s)(hf:∀b∈fp,iC X pins H b)(ho:∀b∈fp,∃o,s.heap.get? b=some o/\∀v,o.data≠.cell v):Inv X (pins++mU fp s.heap) σ H s:=
 I.pins_of λp hp=>(fD.mp hp).elim (λz=>I.pin p (hV _ z)) λz=>by
  obtain⟨hb,e⟩:=HR z
  obtain⟨f0,f1,f2,_⟩:=hf p.1 hb
  obtain⟨o,e',d⟩:=ho p.1 hb
  rw[e]at e';cases e'
  exact⟨e,f0,f1,f2,d⟩
theorem Inv.unpinned{pl:List (Addr×Obj)}(I:Inv X (pins++pl) σ H s):Inv X pins σ H s:=I.pins_of λp hp=>I.pin p (hV _ (Ga _ hp))
theorem ps_for{iter:Expr}{body:List Stmt}{wi:TI}{g:TG}{tb:TS}{pos:Pos}(hp:PassesOwn (model X.prog X.w) X.A X.env X.xe)(hc:X.calm=true)(hi:PI X tg iter wi)(hg:PG X tg g)(hb:PSs X body tb)
 (hs:∀x,foldedSetIterable iter X.env x=pure x:=by intro _;rfl):PS X (.For tg iter body [] pos) (tFor wi g tb):=by
 intro pins s σ H D I h
 refine wpAny_For (thn (hi pins s σ H _ I h) λv s1 h1=>thn h1 λitv s2 h2=>?_) hs
 obtain⟨it,fp,tn,J,H2,e,I2,T,st2,f2,W,⟨m0,w0⟩,turn⟩:=h2
 subst e
 have stat:∀{H':Hp},(∀b∈fp,H' b=none)->∀b∈fp,iC X pins H' b:=λhn b hb=>⟨hn b hb,(f2 b hb).2⟩
 refine codeAny_forLoop_any (λn s'=>∃i σ' H',Inv X pins σ' H' s'/\tn i s'.heap/\(∀b∈fp,H' b=none)/\W i n σ' H') ?_ m0 ⟨0,σ,H2,I2,st2,λb hb=>(f2 b hb).1,w0⟩
 rintro n s3 ⟨i,σ3,H3,I3,st3,fr3,w3⟩
 rcases turn i n σ3 H3 w3 with⟨stop,qn⟩|⟨go,N,hN,step⟩
 ·refine wpAny_passesOwn hp (thn (T.done X rfl rfl rfl hc i pins s3 σ3 H3 X.xe I3 (stat fr3) st3 stop) λr s4 ⟨hr,I4⟩=>?_)
  subst hr
  exact wpAny_execs_nil ⟨σ3,H3,I4,qn⟩
 ·refine wpAny_passesOwn hp (thn (T.item X rfl rfl rfl hc i pins s3 σ3 H3 X.xe I3 (stat fr3) st3 go) λr s4 ⟨u,hr,h4⟩=>?_)
  subst hr
  refine wpAny_passesOwn hp (thn h4 λ_ s5 ⟨x,H5,I5,r5,y5,st5,fr5⟩=>?_)
  have I5':=I5.pinned (stat fr5) (T.obj _ _ st5)
  refine wpAny_passesOwn hp (thn (hg _ s5 σ3 H5 x u _ I5' r5 (step x H5 y5)) λ_ s6 ⟨σ6,H6,I6,q6⟩=>?_)
  refine wpAny_passesOwn hp (thn (hb _ s6 σ6 H6 _ I6 q6) λf s7 q7=>?_)
  have again:∀{σ7:St} {H7:Hp},Inv X (pins++mU fp s5.heap) σ7 H7 s7->N σ7 H7->∃m,m<n/\∃i σ' H',Inv X pins σ' H' s7/\tn i s7.heap/\(∀b∈fp,H' b=none)/\W i m σ' H':=λ{σ7 H7} I7 n7=>by
   obtain⟨m',hm,w7⟩:=hN σ7 H7 n7
   refine⟨m',hm,i+1,σ7,H7,I7.unpinned,T.keep _ _ _ st5 λb hb o e=>(I7.pin (b,o) (hV _ (hV _ (rN hb e)))).1,λb hb=>?_,w7⟩
   obtain⟨o,e,d⟩:=T.obj _ _ st5 b hb
   exact(I7.pin (b,o) (hV _ (hV _ (rN hb e)))).2.1
  cases f with
  |next=>obtain⟨σ7,H7,I7,n7⟩:=q7;exact again I7 n7
  |cont=>obtain⟨σ7,H7,I7,n7⟩:=q7;exact again I7 n7
  |brk=>obtain⟨σ7,H7,I7,q7⟩:=q7;exact⟨σ7,H7,I7.unpinned,q7⟩
  |ret v=>obtain⟨x7,σ7,H7,I7,r7,q7⟩:=q7;exact⟨x7,σ7,H7,I7.unpinned,r7,q7⟩
end
end L2
namespace L2
open PySem PySem.Spec PyProof.Rows
variable{op:CmpOp}{r:R2}
noncomputable abbrev R2:=V->V->Hp->VK->Prop
noncomputable def OpR(X:Cx)(f:Value->Value->Sem Value)(r:R2):Prop:=
 ∀(pins:List (Addr×Obj))(s:Shared)(σ:St)(H:Hp)(x y:V)(v u:Value)(Q:VK),Inv X pins σ H s->RelV x v->RelV y u->r x y H Q ->
  wpAny (model X.prog X.w) X.A (f v u) (EP X pins σ Q) X.xe s
noncomputable def dB(X:Cx)(f:Value)(r:List V->Hp->VK->Prop):Prop:=
 ∀(pins:List (Addr×Obj))(s:Shared)(σ:St)(H:Hp)(xs:List V)(us:List Value)(Q:VK),Inv X pins σ H s->Vals xs us->r xs H Q ->
  wpAny (model X.prog X.w) X.A (call f us) (EP X pins σ Q) X.xe s
noncomputable def TruR(X:Cx)(r:V->Hp->(Bool->Hp->Prop)->Prop):Prop:=
 ∀(pins:List (Addr×Obj))(s:Shared)(σ:St)(H:Hp)(x:V)(v:Value)(Q:Bool->Hp->Prop),Inv X pins σ H s->RelV x v->r x H Q ->
  wpAny (model X.prog X.w) X.A (truthy v) (TP X pins σ Q) X.xe s
noncomputable def tOp(r:R2)(ta tb:TE):TE:=λσ H Q=>ta σ H λx H1=>tb σ H1 λy H2=>r x y H2 Q
noncomputable def rI(C:Int->Int->Prop)(g:Int->Int->V):R2:=λx y H Q=>∃i j,x=.int i/\y=.int j/\C i j/\Q (g i j) H
noncomputable def rI0(g:Int->Int->V):R2:=λx y H Q=>∃i j,x=.int i/\y=.int j/\Q (g i j) H
section
variable{X:Cx}{a b c:Expr}{ta tb tc:TE}{pos:Pos}
theorem binT(ha:PE X a ta)(hb:PE X b tb){pins:List (Addr×Obj)}{s:Shared}{σ:St}{H:Hp}{R:V->V->Hp->Prop}(I:Inv X pins σ H s)
 (h:ta σ H λx H1=>tb σ H1 λy H2=>R x y H2) {Q:Value->Shared->Prop} {f:Value->Value->Sem Value}
 (hf:∀v u s2 x y H2,Inv X pins σ H2 s2->RelV x v->RelV y u->R x y H2->wpAny (model X.prog X.w) X.A (f v u) Q X.xe s2) :
 wpAny (model X.prog X.w) X.A (eval a X.env) (λv su=>wpAny (model X.prog X.w) X.A (eval b X.env) (λu sv=>wpAny (model X.prog X.w) X.A (f v u) Q X.xe sv) X.xe su) X.xe s:=by
 refine thn (ha pins s σ H _ I h) λv s1 ⟨x,H1,I1,r1,q1⟩=>?_
 refine thn (hb pins s1 σ H1 _ I1 q1) λu s2 ⟨y,H2,I2,r2,q2⟩=>?_
 exact hf v u s2 x y H2 I2 r1 r2 q2
theorem pe_op{op:Operator}(ho:OpR X (binaryOp op) r)(ha:PE X a ta)(hb:PE X b tb):PE X (.BinOp a op b pos) (tOp r ta tb):=by
 intro pins s σ H Q I h
 exact wpAny_BinOp (binT ha hb I h λv u s2 x y H2 I2 rx ry q=>ho pins s2 σ H2 x y v u Q I2 rx ry q)
theorem opI{f:Value->Value->Sem Value}{C:Int->Int->Prop}{g:Int->Int->Int}
 (rule:∀(i j:Int)(t u:Tok)(s:Shared)(Q:Value->Shared->Prop)(E:Value->Shared->Prop),C i j->Q (.int (g i j) s.toks) {s with toks:=s.toks+1}->wpAny (model X.prog X.w) X.A (f (.int i t) (.int j u)) Q E s) :
 OpR X f (rI C λi j=>.int (g i j)):=by
 intro pins s σ H x y v u Q I rx ry h
 obtain⟨i,j,rfl,rfl,hc,q⟩:=h
 obtain⟨t,rfl⟩:=rx
 obtain⟨t',rfl⟩:=ry
 exact rule i j t t' s _ _ hc ⟨.int (g i j),H,I.tok _,⟨_,rfl⟩,q⟩
theorem opI0{f:Value->Value->Sem Value}{g:Int->Int->Int}
 (rule:∀(i j:Int)(t u:Tok)(s:Shared)(Q:Value->Shared->Prop)(E:Value->Shared->Prop),Q (.int (g i j) s.toks) {s with toks:=s.toks+1}->wpAny (model X.prog X.w) X.A (f (.int i t) (.int j u)) Q E s) :
 OpR X f (rI0 λi j=>.int (g i j)):=by
 intro pins s σ H x y v u Q I rx ry h
 obtain⟨i,j,rfl,rfl,q⟩:=h
 obtain⟨t,rfl⟩:=rx
 obtain⟨t',rfl⟩:=ry
 exact rule i j t t' s _ _ ⟨.int (g i j),H,I.tok _,⟨_,rfl⟩,q⟩
theorem rO{f:Value->Value->Sem Value}{g:Int->Int->Bool}
 (rule:∀(i j:Int)(t u:Tok)(s:Shared)(Q:Value->Shared->Prop)(E:Value->Shared->Prop),Q (.bool (g i j)) s->wpAny (model X.prog X.w) X.A (f (.int i t) (.int j u)) Q E s) :
 OpR X f (rI0 λi j=>.bl (g i j)):=by
 intro pins s σ H x y v u Q I rx ry h
 obtain⟨i,j,rfl,rfl,q⟩:=h
 obtain⟨t,rfl⟩:=rx
 obtain⟨t',rfl⟩:=ry
 exact rule i j t t' s _ _ ⟨.bl (g i j),H,I,rfl,q⟩
noncomputable def CDiv(i j:Int):Prop:=0<j/\j<1073741824
noncomputable def CPow(i j:Int):Prop:=0<=j/\j<=1000000/\i.natAbs<2^64
noncomputable def CMul(i j:Int):Prop:=(-(2^64)<i/\i<2^64)\/(-(2^64)<j/\j<2^64)
theorem CMul.ok{i j:Int}(h:CMul i j):IntMulOk i j:=by
 rcases h with⟨h1,h2⟩|⟨h1,h2⟩
 ·exact .of_left (intBits_le_64 h1 h2)
 ·exact .of_right (intBits_le_64 h1 h2)
theorem op_add:OpR X (binaryOp .Add) (rI0 λi j=>.int (i+j)):=opI0 λ_ _ _ _ _ _ _ q=>add_int q
theorem op_sub:OpR X (binaryOp .Sub) (rI0 λi j=>.int (i-j)):=opI0 λ_ _ _ _ _ _ _ q=>sub_int q
theorem op_mul:OpR X (binaryOp .Mult) (rI CMul λi j=>.int (i*j)):=opI λ_ _ _ _ _ _ _ hc q=>mul_int q hc.ok
theorem HS:OpR X (binaryOp .FloorDiv) (rI CDiv λi j=>.int (i/j)):=opI λi j _ _ _ _ _ hc q=>by
 have h1:(0:Int)<j:=hc.1
 have h2:j<1073741824:=hc.2
 exact floordiv_int (by lia) (by rw[Int.fdiv_eq_ediv_of_nonneg i (by lia)];exact q) (.inl (PyProof.noPylong_small (by lia)))
theorem op_mod:OpR X (binaryOp .Mod) (rI (λ_ j=>0<j) λi j=>.int (i%j)):=opI λi j _ _ _ _ _ hc q=>by
 have h1:(0:Int)<j:=hc
 exact mod_int' (by lia) (by rw[Int.fmod_eq_emod_of_nonneg i (by lia)];exact q)
theorem op_pow:OpR X (binaryOp .Pow) (rI CPow λi j=>.int (i^j.toNat)):=opI λ_ _ _ _ _ _ _ hc q=>pow_int_small hc.1 hc.2.1 hc.2.2 q
end
section
variable{X:Cx}{a b c:Expr}{ta tb tc:TE}{pos:Pos}
theorem mV{pins:List (Addr×Obj)}{σ:St}{H:Hp}{s:Shared}{Q:VK}{k k':Bool}(I:Inv X pins σ H s)(q:Q (.bl k) H)(e:k=k'):EP X pins σ Q (.bool k') s:=by
 subst e
 exact⟨.bl k,H,I,rfl,q⟩
theorem op_lt:OpR X (compareOp .Lt) (rI0 λi j=>.bl (decide (i<j))):=rO λ_ _ _ _ _ _ _ q=>lt_int q
theorem op_le:OpR X (compareOp .LtE) (rI0 λi j=>.bl (decide (i<=j))):=rO λ_ _ _ _ _ _ _ q=>le_int q
theorem op_gt:OpR X (compareOp .Gt) (rI0 λi j=>.bl (decide (j<i))):=rO λ_ _ _ _ _ _ _ q=>gt_int q
theorem op_ge:OpR X (compareOp .GtE) (rI0 λi j=>.bl (decide (j<=i))):=rO λ_ _ _ _ _ _ _ q=>ge_int q
theorem HU:OpR X (compareOp .In) (λx y H Q=>∃i j,x=.str i/\y=.str j/\Q (.bl (!(Builtin.Str.occurrences j i 0 j.length 1).isEmpty)) H):=by
 intro pins s σ H x y v u Q I rx ry h
 obtain⟨i,j,rfl,rfl,q⟩:=h
 obtain⟨t,rfl⟩:=rx
 obtain⟨t',rfl⟩:=ry
 exact in_str (mV I q rfl)
theorem op_isN:OpR X (compareOp .Is) (λx y H Q=>y=.non/\Q (.bl (decide (x=.non))) H):=by
 intro pins s σ H x y v u Q I rx ry h
 obtain⟨rfl,q⟩:=h
 cases ry
 refine is_none_gen (mV I q ?_)
 cases x<;>first
  |(cases rx;rfl)
  |(obtain⟨t,rfl⟩:=rx;rfl)
theorem HV:OpR X (compareOp .IsNot) (λx y H Q=>y=.non/\Q (.bl (!decide (x=.non))) H):=by
 intro pins s σ H x y v u Q I rx ry h
 obtain⟨rfl,q⟩:=h
 cases ry
 refine isnot_none_gen (mV I q ?_)
 cases x<;>first
  |(cases rx;rfl)
  |(obtain⟨t,rfl⟩:=rx;rfl)
theorem HW:OpR X (compareOp .NotIn) (λx y H Q=>∃i j,x=.str i/\y=.str j/\Q (.bl (!(!(Builtin.Str.occurrences j i 0 j.length 1).isEmpty))) H):=by
 intro pins s σ H x y v u Q I rx ry h
 obtain⟨i,j,rfl,rfl,q⟩:=h
 obtain⟨t,rfl⟩:=rx
 obtain⟨t',rfl⟩:=ry
 exact notIn_str (mV I q rfl)
theorem HX(ho:OpR X (compareOp op) r)(ha:PE X a ta)(hb:PE X b tb)(hm:behindInMarks op b=false):PE X (.Compare a [op] [b] pos) (tOp r ta tb):=by
 intro pins s σ H Q I h
 exact wpAny_Compare1 (binT ha hb I h λv u s2 x y H2 I2 rx ry q=>ho pins s2 σ H2 x y v u Q I2 rx ry q) hm
noncomputable def Au(t:TE):TT:=λσ H Q=>t σ H λx H'=>∃k,x=.bl k/\Q k H'
theorem HY(ho:OpR X (compareOp op) r)(ha:PE X a ta)(hb:PE X b tb)(hm:behindInMarks op b=false):PT X (.Compare a [op] [b] pos) (Au (tOp r ta tb)):=by
 intro pins s σ H Q I h
 refine wpAny_isTrue_Compare1 (thn (ha pins s σ H _ I h) λv s1 ⟨x,H1,I1,r1,q1⟩=>thn (hb pins s1 σ H1 _ I1 q1) λu s2 ⟨y,H2,I2,r2,q2⟩=>
  thn (ho pins s2 σ H2 x y v u _ I2 r1 r2 q2) λc s3 ⟨z,H3,I3,r3,k,e,q3⟩=>?_) hm
 subst e
 cases r3
 exact wpAny_truthy_bool ⟨H3,I3,q3⟩
noncomputable def vE(r r':R2)(ta tb tc:TE):TE:=λσ H Q=>ta σ H λx H1=>tb σ H1 λy H2=>r x y H2 λz H3=>∃k,z=.bl k /\
 (if k=true then tc σ H3 λw' H4=>r' y w' H4 Q else Q (.bl false) H3)
theorem HZ{op op':CmpOp}{r r':R2}(ho:OpR X (compareOp op) r)(ho':OpR X (compareOp op') r')(ha:PE X a ta)(hb:PE X b tb)(hc:PE X c tc)
 (hm:lastMarks [op,op'] [b,c]=false:=by with_unfolding_all rfl):PE X (.Compare a [op,op'] [b,c] pos) (vE r r' ta tb tc):=by
 intro pins s σ H Q I h
 refine Compare_chain (thn (ha pins s σ H _ I h) λv s1 ⟨x,H1,I1,r1,q1⟩=>chain_link (thn (hb pins s1 σ H1 _ I1 q1) λu s2 ⟨y,H2,I2,r2,q2⟩=>
  thn (ho pins s2 σ H2 x y v u _ I2 r1 r2 q2) λd s3 ⟨z,H3,I3,r3,k,e,q3⟩=>?_)) hm
 subst e
 cases r3
 refine wpAny_truthy_bool ?_
 cases k with
 |false=>exact ite_ff ⟨.bl false,H3,I3,rfl,q3⟩
 |true=>exact ite_tt (chain_last (thn (hc pins s3 σ H3 _ I3 q3) λw' s4 ⟨z',H4,I4,r4,q4⟩=>ho' pins s4 σ H4 y z' u w' Q I4 r2 r4 q4))
theorem H0{op op':CmpOp}{r r':R2}(ho:OpR X (compareOp op) r)(ho':OpR X (compareOp op') r')(ha:PE X a ta)(hb:PE X b tb)(hc:PE X c tc)
 (hm:lastMarks [op,op'] [b,c]=false:=by with_unfolding_all rfl):PT X (.Compare a [op,op'] [b,c] pos) (Au (vE r r' ta tb tc)):=by
 intro pins s σ H Q I h
 refine isTrue_chain (thn (ha pins s σ H _ I h) λv s1 ⟨x,H1,I1,r1,q1⟩=>test_link (thn (hb pins s1 σ H1 _ I1 q1) λu s2 ⟨y,H2,I2,r2,q2⟩=>
  thn (ho pins s2 σ H2 x y v u _ I2 r1 r2 q2) λd s3 ⟨z,H3,I3,r3,k,e,q3⟩=>?_)) hm
 subst e
 cases r3
 refine wpAny_truthy_bool ?_
 cases k with
 |false=>
  obtain⟨k',e',q'⟩:=q3
  cases e'
  exact ite_ff ⟨H3,I3,q'⟩
 |true=>
  refine ite_tt (test_last (thn (hc pins s3 σ H3 _ I3 q3) λw' s4 ⟨z',H4,I4,r4,q4⟩=>thn (ho' pins s4 σ H4 y z' u w' _ I4 r2 r4 q4) λd' s5 ⟨z2,H5,I5,r5,k2,e2,q5⟩=>?_))
  subst e2
  cases r5
  exact wpAny_truthy_bool ⟨H5,I5,q5⟩
noncomputable def oV(K:PySem.W.Frag)(x:V)(H:Hp)(k:Bool):Prop:=
 match x with
 |.non=>k=false
 |.bl b=>k=b
 |.int i=>k=(i != 0)
 |.str y=>y.length<=sizeLine/\k=((y.length:Int) != 0)
 |.byt y=>y.size<=sizeLine/\k=((y.size:Int) != 0)
 |.ref p=>(∃xs,SqL K H p xs/\k=!xs.isEmpty)\/(∃xs,SqT K H p xs/\k=!xs.isEmpty)\/∃kvs,H p=some (.dK kvs)/\k=!kvs.isEmpty
 |_=>False
theorem H_{κ:Type}{kvs:List (κ×V)}{vs:List (κ×Value)}(r:KV kvs vs):(!vs.isEmpty)=!kvs.isEmpty:=by
 cases r<;>rfl
theorem Av{xs:List V}{its:List Value}(r:Vals xs its):(!its.toArray.isEmpty)=!xs.isEmpty:=by
 cases r<;>simp
theorem mW:(sizeLine:Nat)<2^63:=by rw[sizeLine_eq];decide
theorem rP:TruR X (λx H Q=>∃k,oV X.K x H k/\Q k H):=by
 intro pins s σ H x v Q I rx h
 obtain⟨k,e,q⟩:=h
 have hl:=mW
 have hs:sizeLine=16777216:=sizeLine_eq
 cases x with
 |non=>
  cases rx
  have e':k=false:=e
  subst e'
  exact truthy_none ⟨H,I,q⟩
 |bl b=>
  cases rx
  have e':k=b:=e
  subst e'
  exact wpAny_truthy_bool ⟨H,I,q⟩
 |int i=>
  obtain⟨t,rfl⟩:=rx
  have e':k=(i != 0):=e
  subst e'
  exact PySem.P.truthy_int ⟨H,I,q⟩
 |str y=>
  obtain⟨t,rfl⟩:=rx
  obtain⟨hy,e'⟩:y.length<=sizeLine/\k=((y.length:Int) != 0):=e
  subst e'
  exact PySem.P.truthy_str (by lia) ⟨H,I.tok _,q⟩
 |byt y=>
  obtain⟨t,rfl⟩:=rx
  obtain⟨hy,e'⟩:y.size<=sizeLine/\k=((y.size:Int) != 0):=e
  subst e'
  exact PySem.W.truthy_bytes (by lia) ⟨H,I.tok _,q⟩
 |ref p=>
  cases rx
  have e':(∃xs,SqL X.K H p xs/\k=!xs.isEmpty)\/(∃xs,SqT X.K H p xs/\k=!xs.isEmpty)\/∃kvs,H p=some (.dK kvs)/\k=!kvs.isEmpty:=e
  rcases e' with⟨xs,hx,e'⟩|⟨xs,hx,e'⟩|⟨kvs,hx,e'⟩
  ·subst e'
   obtain⟨its,r,pl,hz⟩:=I.list hx
   have hlen:=r.length
   exact wpAny_truthy_list pl.isList (by simp only[bQ];lia) ⟨H,I.tok _,by rw[Av r];exact q⟩
  ·subst e'
   obtain⟨its,r,pl,hz⟩:=I.tuple hx
   have hlen:=r.length
   exact truthy_tuple pl (by simp only[bQ];lia) ⟨H,I.tok _,by rw[Av r];exact q⟩
  ·subst e'
   obtain⟨hz,hS,vs,r,m⟩:kvs.length<=sizeLine/\(p==sysModules)=false/\∃vs,KV kvs vs/\s.heap.DictOf (cG X.prog X.w) p vs:=I.hok p _ hx
   have hlen:kvs.length=vs.length:=Paired.length r
   exact wpAny_truthy_dict hS m (by lia) ⟨H,I.tok _,by rw[H_ r];exact q⟩
 |_=>exact(show False from e).elim
theorem Ha(ha:PE X a ta)(he:∀whole,isTrue a X.env whole=(do let v<-whole;standAt a.pos;holding [v] (truthy v))) :
 PT X a (λσ H Q=>ta σ H λx H'=>∃k,oV X.K x H' k/\Q k H'):=by
 intro pins s σ H Q I h
 exact isTrue_plain (thn (ha pins s σ H _ I h) λv s1 ⟨x,H1,I1,r1,q1⟩=>rP pins s1 σ H1 x v Q I1 r1 q1) (he _)
theorem Hc:OpR X (binaryOp .Add) (λx y H Q=>∃i j,x=.str i/\y=.str j/\i.length+j.length<=sizeLine/\Q (.str (i++j)) H):=by
 intro pins s σ H x y v u Q I rx ry h
 obtain⟨i,j,rfl,rfl,hz,q⟩:=h
 obtain⟨t,rfl⟩:=rx
 obtain⟨t',rfl⟩:=ry
 exact add_str (λt' tk=>⟨.str (i++j),H,I.tok _,⟨_,rfl⟩,q⟩) hz
theorem fY{x:V}{us:List Value}(r:Vals [x] us):∃u,us=[u]/\RelV x u:=by
 cases r with
 |cons r1 r2=>cases r2;exact⟨_,rfl,r1⟩
theorem Aw:dB X (.type "int") (λxs H Q=>(∃i,xs=[.int i]/\Q (.int i) H)\/∃k,xs=[.bl k]/\Q (.int (if k then 1 else 0)) H):=by
 intro pins s σ H xs us Q I r h
 rcases h with⟨i,rfl,q⟩|⟨k,rfl,q⟩
 ·obtain⟨u,rfl,t,rfl⟩:=fY r
  exact call_int_int ⟨.int i,H,I,⟨_,rfl⟩,q⟩
 ·obtain⟨u,rfl,r1⟩:=fY r
  cases r1
  exact call_int_bool ⟨.int (if k then 1 else 0),H,I.tok _,⟨_,rfl⟩,q⟩
theorem Hd:dB X (.type "str") (λxs H Q=>∃i,xs=[.int i]/\i.natAbs.log2<1920/\Q (.str (toString i)) H):=by
 intro pins s σ H xs us Q I r h
 obtain⟨i,rfl,hz,q⟩:=h
 obtain⟨u,rfl,t,rfl⟩:=fY r
 exact PySem.P.str_of_int hz ⟨.str _,H,I.tok _,⟨_,rfl⟩,q⟩
end
end L2
namespace L2
open PySem PySem.Spec PyProof.Rows
section
variable{X:Cx}{pins:List (Addr×Obj)}{σ:St}{H:Hp}{s:Shared}{a C dx:Addr}{fs:List (Str×V)}{f:Str}{v:V}{A:Around}{E:Value->Shared->Prop}
end
variable{A:Around}{k:Nat}{x:Str}{kindOf:Str->Option NameKind}{v:Value}
set_option genInjectivity false in
structure Room(k:Nat)(A:Around):Prop where
 hd:A.handled=none
 dp:A.depth+3*k+5<recursionLimit
 un:A.units+16*k+200<cLine
theorem Room.mono{j:Nat}(r:Room k A)(h:j<=k):Room j A:=⟨r.hd,by have:=r.dp;lia,by have:=r.un;lia⟩
theorem Room.deeper(r:Room (k+1) A)(env:Env):Room k (A.deeper env):=
 ⟨r.hd,by have:=r.dp;show A.depth+1+3*k+5<_;lia,by have:=r.un;show A.units+3+16*k+200<_;lia⟩
theorem Room.depth(r:Room k A):A.depth<recursionLimit:=by have:=r.dp;lia
theorem Room.units(r:Room k A):A.units+64<cLine:=by have:=r.un;lia
noncomputable def tNil:TA:=λ_ H Q=>Q [] H
noncomputable def tCons(ta:TE)(tr:TA):TA:=λσ H Q=>ta σ H λx H1=>tr σ H1 λxs H2=>Q (x::xs) H2
section
variable{X:Cx}{e:Expr}{es:List Expr}{te:TE}{t:TA}{pos:Pos}
theorem eG:PA X [] tNil:=λ_ _ _ _ H Q I h=>Calls.spliced_nil ⟨[],H,I,.nil,h⟩
theorem dC(ha:PE X e te)(hr:PA X es t)(hs:starEach (e::es) X.env=(false,eval e X.env)::starEach es X.env:=by rfl):PA X (e::es) (tCons te t):=by
 intro pos pins s σ H Q I h
 rw[hs]
 show wpAny _ _ (spliced ((false,eval e X.env)::backTo pos (starEach es X.env))) _ _ s
 refine Calls.spliced_cons (thn (ha pins s σ H _ I h) λu s1 ⟨x,H1,I1,r1,q1⟩=>?_)
 exact thn (hr pos pins s1 σ H1 _ I1 q1) λus s2 ⟨xs,H2,I2,r2,q2⟩=>⟨x::xs,H2,I2,.cons r1 r2,q2⟩
noncomputable def tTup(t:TA):TE:=λσ H Q=>t σ H λxs H1=>xs.length<=sizeLine/\∀p,H1 p=none->Q (.ref p) (upd H1 p (.tup xs))
noncomputable def tLst(t:TA):TE:=λσ H Q=>t σ H λxs H1=>xs.length<=sizeLine/\∀p,H1 p=none->Q (.ref p) (upd H1 p (.lst xs))
theorem pe_tup{x1}(h:PA X es t):PE X (.Tuple es x1 pos) (tTup t):=by
 intro pins s σ H Q I hq
 refine wpAny_Tuple_spliced (thn (h pos pins s σ H _ I hq) λus s1 ⟨xs,H1,I1,r,z,q⟩=>⟨by rw[<-r.length];exact z,?_⟩)
 have hf:H1 s1.heap.objs.size=none:=I1.hok.fresh (aN _)
 refine⟨.ref s1.heap.objs.size,upd H1 s1.heap.objs.size (.tup xs),I1.laid (t':=s1.toks) (λb u e=>Heap.get?_push_of_some _ e) (aN _) ?_,rfl,q _ hf⟩
 exact⟨z,us,r,⟨_,Heap.get?_push_size _ rfl,rfl,_,rfl⟩⟩
theorem pe_lst(h:PA X es t):PE X (.List es pos) (tLst t):=by
 intro pins s σ H Q I hq
 refine wpAny_List_spliced (thn (h pos pins s σ H _ I hq) λus s1 ⟨xs,H1,I1,r,z,q⟩=>⟨by rw[<-r.length];exact z,?_⟩)
 have hf:H1 s1.heap.objs.size=none:=I1.hok.fresh (aN _)
 refine⟨.ref s1.heap.objs.size,upd H1 s1.heap.objs.size (.lst xs),I1.laid (t':=s1.toks) (λb u e=>Heap.get?_push_of_some _ e) (aN _) ?_,rfl,q _ hf⟩
 exact⟨z,us,0,r,Heap.get?_push_size _ rfl⟩
end
noncomputable abbrev Sp:=List V->Hp->VK->XK->Prop
noncomputable abbrev CXT:=List Env->Hp->Shared->XK->Value->Shared->Prop
set_option genInjectivity false in
structure Env0(P:Program)(w:World)(K:PySem.W.Frag)(mg:Str->Option Value)(base:Heap)(A:Around)(outer:List Env)(s:Shared)(H:Hp):Prop where
 frames:A.frames=some outer
 mod:Mod K mg base
 bs:∀b o,base.get? b=some o->s.heap.get? b=some o/\H b=none
 bsz:base.objs.size<=s.heap.objs.size
 funs:s.heap.FunFrames base outer
 frf:∀b∈frs outer,H b=none
 hok:HOk P w H s.heap
 bare:AllBare s.gens
noncomputable def CE(outer:List Env)(P:Program)(w:World)(H:Hp)(s:Shared)(Q:VK)(u:Value)(s':Shared):Prop:=
 ∃v H',s'.os=s.os/\AllBare s'.gens/\Un (frs outer) [] H H' s.heap s'.heap/\HOk P w H' s'.heap/\RelV v u/\Q v H'
noncomputable def CR(CX:CXT)(outer:List Env)(P:Program)(w:World)(H:Hp)(s:Shared)(Q:VK)(E:XK)(r:Result)(s':Shared):Prop:=
 match r with
 |.ok (.ret u)=>CE outer P w H s Q u s'
 |.ok _=>False
 |.error e=>CX outer H s E e s'
set_option genInjectivity false in
structure FnOk(P:Program)(w:World)(K:PySem.W.Frag)(mg:Str->Option Value)(base:Heap)(CX:CXT)(k:Nat)(f:Addr)(fd:FuncData)(ps:List Str)(sp:Sp):Prop where
 len:∀vs H Q E,sp vs H Q E->vs.length=ps.length
 run:∀(A:Around)(outer:List Env)(s:Shared)(H:Hp)(args:Args)(us:List Value)(vs:List V)(Q:VK)(E:XK),Room k A->Env0 P w K mg base A outer s H->BindsTo s fd args (ps.zip us)->Vals vs us->sp vs H Q E ->
  codeAny (model P w) A (.call (.ref f) args) (CR CX outer P w H s Q E) s
section
variable{X:Cx}{pins:List (Addr×Obj)}{σ:St}{H:Hp}{s s':Shared}
theorem Inv.env0(I:Inv X pins σ H s):Env0 X.prog X.w X.K X.mg X.base X.A X.stack s H:=
 ⟨I.ok.frames,I.ok.mod,I.bs,eQ I.ok.bsz I.sz,I.stack,I.stkFree,I.hok,I.bare⟩
theorem Inv.after{Q:VK}{u:Value}(I:Inv X pins σ H s)(h:CE X.stack X.prog X.w H s Q u s'):EP X pins σ Q u s':=by
 obtain⟨v,H',os,bare,un,hok,r,q⟩:=h
 obtain⟨hh,g,d,t,os'⟩:=s'
 obtain rfl:os'=s.os:=os
 exact⟨v,H',I.call (h':=hh) (g':=g) (d':=d) (t':=t) (ch:=[]) un hok bare (λb z=>absurd z (by simp)),r,q⟩
end
noncomputable def vF(sp:Sp)(dvs:List V)(E:XK)(t:TA):TE:=λσ H Q=>t σ H λvs H1=>sp (vs++dvs) H1 Q E
noncomputable def Binds(K:PySem.W.Frag)(fd:FuncData)(ps:List Str)(ds:List Value):Prop:=
 ∀(s:Shared)(us:List Value),K.In s.heap->(us++ds).length=ps.length->BindsTo s fd ⟨us,[]⟩ (ps.zip (us++ds))
theorem Binds.all{K:PySem.W.Frag}{fd:FuncData}{ps:List Str}(h:∀us:List Value,us.length=ps.length->bindArgs fd ⟨us,[]⟩=pure (ps.zip us)):Binds K fd ps []:=λs us _ hl=>by
 rw[fF]at hl⊢
 exact .of_eq (h us hl)
noncomputable def rQ(CX:CXT)(X:Cx)(E:XK):Prop:=∀(pins:List (Addr×Obj))(σ:St)(H:Hp)(s:Shared)(e:Value)(s':Shared),Inv X pins σ H s->CX X.stack H s E e s'->X.xe e s'
section
variable{X:Cx}{CX:CXT}{k:Nat}{f C:Addr}{fd:FuncData}{ps:List Str}{sp:Sp}{dvs:List V}{ds:List Value}{E:XK}{x m:Str}{p pos apos:Pos}{e o:Expr}{es:List Expr}{ta:TE}{t:TA}
theorem vG{pins:List (Addr×Obj)}{σ:St}{H:Hp}{s:Shared}{Q:VK}{us:List Value}{vs:List V}(F:FnOk X.prog X.w X.K X.mg X.base CX k f fd ps sp)(hr:Room k X.A)(hb:Binds X.K fd ps ds)(hd:Vals dvs ds)(hx:rQ CX X E)
 (I:Inv X pins σ H s) (r:Vals vs us) (h:sp (vs++dvs) H Q E):wpAny (model X.prog X.w) X.A (call (.ref f) us) (EP X pins σ Q) X.xe s:=by
 have r2:Vals (vs++dvs) (us++ds):=r.append hd
 have hl:(us++ds).length=ps.length:=by rw[<-r2.length];exact F.len _ _ _ _ h
 refine wpAny_call (codeAny_mono (F.run X.A X.stack s H ⟨us,[]⟩ (us++ds) (vs++dvs) Q E hr I.env0 (hb s us I.kIn hl) r2 h) λr s' hq=>?_)
 cases r with
 |error e=>exact hx pins σ H s e s' I hq
 |ok fl=>
  cases fl with
  |ret u=>exact I.after hq
  |next=>exact False.elim hq
  |brk=>exact False.elim hq
  |cont=>exact False.elim hq
theorem Ax(F:FnOk X.prog X.w X.K X.mg X.base CX k f fd ps sp)(hr:Room k X.A)(hg:Gl X x)(hm:X.mg x=some (.ref f))(hk:PySem.W.keepIn X.K (.ref f)=true)(hb:Binds X.K fd ps ds)(hd:Vals dvs ds)(hx:rQ CX X E)
 (ha:PA X (e::es) t) (hdb:(x==("__debug__" : Str))=false:=by decide) (he:starEach (e::es) X.env=(false,eval e X.env)::starEach es X.env:=by rfl) (hpl:(backTo pos (starEach es X.env)).any (·.1)=false:=by rfl) :
 PE X (.Call (.Name x p) (e::es) [] pos) (vF sp dvs E t):=by
 intro pins s σ H Q I h
 refine wpAny_Call_Name_kw (vA I hg hm ?_ hdb)
 refine PySem.W.callWith_K (h₀:=X.base) I.ok.mod.kin hk (thn (ha pos pins s σ H _ I h) λus s1 ⟨vs,H1,I1,r,q⟩=>⟨I1.kIn,?_⟩) he hpl
 exact vG F hr hb hd hx I1 r q
theorem He(F:FnOk X.prog X.w X.K X.mg X.base CX k f fd ps sp)(hr:Room k X.A)(hg:Gl X x)(hm:X.mg x=some (.ref f))(hk:PySem.W.keepIn X.K (.ref f)=true)(hb:Binds X.K fd ps ds)(hd:Vals dvs ds)(hx:rQ CX X E)
 (hdb:(x==("__debug__" : Str))=false:=by decide):PE X (.Call (.Name x p) [] [] pos) (vF sp dvs E tNil):=by
 intro pins s σ H Q I h
 refine wpAny_Call_Name_kw (vA I hg hm ?_ hdb)
 exact PySem.W.callWith_K0 I.kIn hk (vG (us:=[]) F hr hb hd hx I .nil h)
end
section
variable{X:Cx}{CX:CXT}{k:Nat}{f C:Addr}{fd:FuncData}{ps ks:List Str}{sp:Sp}{E:XK}{x m:Str}{p pos apos kpos:Pos}{e o:Expr}{es:List Expr}{kws:List Keyword}{te ta:TE}{t tk:TA}{nm:Option Str}
variable{g:List Value->List Value->List Value}{gV:List V->List V->List V}
end
set_option genInjectivity false in
structure FnScope(N P:List Str)(sc:Scope):Prop where
 kind:sc.kind=.function
 co:sc.isCoroutine=false
 gen:sc.isGenerator=false
 nd:N.Nodup
 pre:N.take P.length=P
 par:∀x∈P,sc.names.lookup x=some .local\/sc.names.lookup x=some .cell
 nofree:∀y∈sc.names,y.2≠.free
theorem Ay:∀{binds:List (Str×Value)} {m:Str->Option Value},(∀v,(x,v)∉binds)->bindL kindOf binds m x=m x
 |[],_,_=>rfl
 |(n,v)::r,m,h=>by
  unfold bindL
  rw[Ay λw hw=>h w (aY _ hw)]
  split
  ·have:x≠n:=by rintro rfl;exact h v bA
   simp[this]
  ·rfl
theorem Az:∀{binds:List (Str×Value)} {m:Str->Option Value},(∀v,(x,v)∉binds)->bindC kindOf binds m x=m x
 |[],_,_=>rfl
 |(n,v)::r,m,h=>by
  unfold bindC
  rw[Az λw hw=>h w (aY _ hw)]
  split
  ·rfl
  ·have:x≠n:=by rintro rfl;exact h v bA
   simp[this]
theorem BA:∀{P:List Str} {vs:List Value} {i:Nat} {m:Str->Option Value},P.Nodup->P[i]?=some x->vs[i]?=some v->kindOf x=some .local ->
 bindL kindOf (P.zip vs) m x=some v
 |[],_,_,_,_,h,_,_=>by simp at h
 |_::_,[],_,_,_,_,h,_=>by simp at h
 |p::P,w::vs,0,m,nd,h1,h2,hk=>by
  simp at h1 h2;subst h1;subst h2
  show bindL kindOf ((p,w)::P.zip vs) m p=_
  unfold bindL
  rw[Ay λv hv=>(dP.mp nd).1 (Gb hv).1,if_pos hk]
  simp
 |p::P,w::vs,i+1,m,nd,h1,h2,hk=>by
  show bindL kindOf ((p,w)::P.zip vs) m x=_
  unfold bindL
  exact BA (i:=i) (dP.mp nd).2 (by simpa using h1) (by simpa using h2) hk
theorem BB:∀{P:List Str} {vs:List Value} {i:Nat} {m:Str->Option Value},P.Nodup->P[i]?=some x->vs[i]?=some v->kindOf x≠some .local ->
 bindC kindOf (P.zip vs) m x=some v
 |[],_,_,_,_,h,_,_=>by simp at h
 |_::_,[],_,_,_,_,h,_=>by simp at h
 |p::P,w::vs,0,m,nd,h1,h2,hk=>by
  simp at h1 h2;subst h1;subst h2
  show bindC kindOf ((p,w)::P.zip vs) m p=_
  unfold bindC
  rw[Az λv hv=>(dP.mp nd).1 (Gb hv).1,if_neg hk]
  simp
 |p::P,w::vs,i+1,m,nd,h1,h2,hk=>by
  show bindC kindOf ((p,w)::P.zip vs) m x=_
  unfold bindC
  exact BB (i:=i) (dP.mp nd).2 (by simpa using h1) (by simpa using h2) hk
noncomputable def cX(N:List Str)(vs:List V):St:=vs.map some++aZ (N.length-vs.length) none
noncomputable def gJ(CX:CXT)(P:Program)(w:World)(K:PySem.W.Frag)(mg:Str->Option Value)(base:Heap)(N:List Str)(qual:Str)(scope:Scope)(f:Addr)(cd:Value)(A:Around)(outer:List Env)(s:Shared)(H:Hp)(E:XK):Cx where
 prog:=P
 w:=w
 K:=K
 mg:=mg
 base:=base
 A:=A.deeper (envOfC qual scope s.heap.objs.size f cd)
 N:=N
 sy:=s
 H_h:=H
 env:=envOfC qual scope s.heap.objs.size f cd
 outer:=outer
 stack:=envOfC qual scope s.heap.objs.size f cd::outer
 ex:=[]
 calm:=true
 fn:=λ_=>true
 pn:=[]
 xe:=λe s'=>wpAny (model P w) (A.deeper (envOfC qual scope s.heap.objs.size f cd)) (leaving (envOfC qual scope s.heap.objs.size f cd) e) (λ_ s''=>CX outer H s E e s'') (λe' s''=>CX outer H s E e' s'') s'
theorem BC{sc:Scope}{n:Nat}(h:sc.names.lookup x=some .cell):∃c,(cellsFrom n sc.names []).lookup x=some c:=by
 have q:=PySem.W.cellsFrom_some sc.names n [] (.inl h)
 exact Option.isSome_iff_exists.mp q
theorem Hf{CX:CXT}{P:Program}{w:World}{K:PySem.W.Frag}{mg:Str->Option Value}{base:Heap}{N ps:List Str}{qual:Str}{scope:Scope}{f:Addr}{cd:Value}{A:Around}{outer:List Env}{s s1:Shared}{H:Hp}{E:XK}{us:List Value}{vs:List V}
 (S:FnScope N ps scope) (hd:A.handled=none) (e0:Env0 P w K mg base A outer s H) (hl:vs.length=ps.length) (r:Vals vs us)
 (x:InCallC s s.heap.objs.size (bindL (envOfC qual scope s.heap.objs.size f cd).kindOf (ps.zip us) λ_=>none) (cellsFrom (s.heap.objs.size+1) scope.names []) (bindC (envOfC qual scope s.heap.objs.size f cd).kindOf (ps.zip us) λ_=>none) s1) :
 Inv (gJ CX P w K mg base N qual scope f cd A outer s H E) [] (cX N vs) H s1:=by
 have hpl:ps.length<=N.length:=by have:=congrArg A7 S.pre;rw[dF]at this;lia
 obtain⟨h1,tk,rfl,hk⟩:=x.done
 have noA:∀b:Addr,b∉(gJ CX P w K mg base N qual scope f cd A outer s H E).ex:=λb z=>absurd (show b∈([]:List Addr)from z) (by simp)
 refine⟨⟨e0.mod,S.kind,rfl,rfl,aN _,λy z c h1 h2=>?_,λy hy=>?_,λy c _ h=>?_,λ_=>hd,Around.frames_deeper e0.frames,.inr ⟨rfl,rfl⟩,λb z=>absurd z (noA b),e0.bs,e0.bsz,λb _ _=>noA b,λb z=>absurd z (noA b),e0.funs,e0.frf⟩,
  rfl,e0.bare,Un.kept hk,⟨_,x.toInCall.ns,λi y v h1 h2 h3=>?_⟩,λy c h=>⟨_,x.cell y c h⟩,e0.hok.fresh (aN _),λy c h=>?_,λp hp=>absurd (show p∈([]:List (Addr×Obj))from hp) (by simp),e0.hok.kept hk,?_⟩
 ·exact name_of_addr x.apart (PySem.mem_of_lookup h1) (PySem.mem_of_lookup h2)
 ·have hy:scope.names.lookup y=some .cell\/scope.names.lookup y=some .free:=hy
  rcases hy with hy|hy
  ·exact BC hy
  ·exact absurd rfl (S.nofree _ (PySem.mem_of_lookup hy))
 ·exact mK (x.above y c (PySem.mem_of_lookup h))
 ·have hi:i<vs.length:=by
   unfold cX at h2
   by_cases hi:i<vs.length
   ·exact hi
   ·rw[iN (by simpa using hi)]at h2
    rw[oP]at h2
    split at h2<;>cases h2
  have ha:vs[i]?=some v:=by
   unfold cX at h2
   rw[oQ (by simpa using hi),cE]at h2
   cases e:vs[i]? with
   |none=>rw[e]at h2;cases h2
   |some a=>rw[e]at h2;cases h2;rfl
  obtain⟨u,hu,rv⟩:=r.get ha
  have hp:ps[i]?=some y:=by
   rw[<-S.pre,O6 (by lia)];exact h1
  have ndP:ps.Nodup:=by rw[<-S.pre];exact S.nd.sublist (O7 _ _)
  refine⟨u,rv,?_⟩
  rcases S.par y (iO hp)with k|k
  ·exact .inl ⟨k,BA ndP hp hu k⟩
  ·obtain⟨c,e⟩:=BC (n:=s.heap.objs.size+1) k
   refine .inr ⟨.inl k,c,e,?_⟩
   have q:=x.cell y c e
   rw[BB ndP hp hu (by show scope.names.lookup y≠_;rw[k];decide)]at q
   exact q
 ·exact e0.hok.fresh (mK (x.above y c (PySem.mem_of_lookup h)))
 ·unfold cX
  show _=N.length
  rw[cP,aD,eR]
  lia
theorem fn_of{CX:CXT}{P:Program}{w:World}{K:PySem.W.Frag}{mg:Str->Option Value}{base:Heap}{k:Nat}{f:Addr}{name qual:Str}{params:Arguments}{body:List Stmt}{scope:Scope}{dV kV doc pm cdv ct oc:Value}{an od:Option Addr}
 {osl:Array (Option Value)} {N ps:List Str} {sp:Sp} (lk:K.lookup f=some ⟨oc,od,.func (PySem.W.fnOf name qual params body scope dV kV doc pm an cdv ct),osl⟩) (hcd:PySem.W.codeIn K cdv qual=true) (S:FnScope N ps scope)
 (len:∀vs H Q E,sp vs H Q E->vs.length=ps.length)
 (hbody:∀(A:Around)(outer:List Env)(s:Shared)(H:Hp)(vs:List V)(Q:VK)(E:XK),Room k (A.deeper (envOfC qual scope s.heap.objs.size f cdv))->sp vs H Q E ->
  ∃t,PSs (gJ CX P w K mg base N qual scope f cdv A outer s H E) body t/\t {nx:=λ_ H'=>Q .non H',rt:=Q} (cX N vs) H) :
 FnOk P w K mg base CX (k+1) f (PySem.W.fnOf name qual params body scope dV kV doc pm an cdv ct) ps sp:=by
 refine⟨len,λA outer s H args us vs Q E hr e0 hb r hsp=>?_⟩
 have hl:=len _ _ _ _ hsp
 have KX:K.In s.heap:=e0.mod.kin.keeps λb o e=>(e0.bs b o e).1
 have lim:s.heap.NoLimit:=e0.mod.nolimit.keeps λb o e=>(e0.bs b o e).1
 have hkind:∀y∈ps.zip us,scope.names.lookup y.1=some .local\/(scope.names.lookup y.1=some .cell/\((cellsFrom (s.heap.objs.size+1) scope.names []).lookup y.1).isSome=true):=λ⟨n,v⟩ hy=>by
  rcases S.par n (Gb hy).1 with q|q
  ·exact .inl q
  ·exact .inr ⟨q,PySem.W.cellsFrom_some _ _ _ (.inl q)⟩
 refine codeAny_call_function hr.depth (KX _ _ lk) rfl S.co S.gen rfl (PySem.W.codeRec_of KX hcd) (hb _ _ _ _ ?_)
 refine wpAny_newFunctionEnv_cells S.kind hkind λenv he s1 x=>?_
 subst he
 refine⟨lim.keeps x.toInCall.keep,codeAny_func ?_⟩
 obtain⟨t,ht,hq⟩:=hbody A outer s H vs Q E (hr.deeper _) hsp
 have I:Inv (gJ CX P w K mg base N qual scope f cdv A outer s H E) [] (cX N vs) H s1:=Hf S hr.hd e0 hl r x
 refine wpAny_mono (ht [] s1 (cX N vs) H _ I hq) (λfl s' hs=>?_) λe s' hs=>hs
 have fin:∀{σ':St} {H':Hp} {v:V} {u:Value},Inv (gJ CX P w K mg base N qual scope f cdv A outer s H E) [] σ' H' s'->RelV v u->Q v H'->CE outer P w H s Q u s':=
  λ{σ' H' v u} J rv q=>⟨v,H',J.os,J.bare,J.base,J.hok,rv,q⟩
 cases fl with
 |ret u=>
  obtain⟨v,σ',H',J,rv,q⟩:=hs
  exact fin J rv q
 |next=>
  obtain⟨σ',H',J,q⟩:=hs
  exact fin (v:=V.non) (u:=Value.none) J rfl q
 |brk=>
  obtain⟨_,_,_,q⟩:=hs
  exact False.elim q
 |cont=>
  obtain⟨_,_,_,q⟩:=hs
  exact False.elim q
end L2
namespace L2
open PySem PySem.Spec PyProof.Rows
section
variable{X:Cx}{x:Str}{p pos:Pos}{e:Expr}{es:List Expr}{t:TA}{id T:String}{r:List V->Hp->VK->Prop}
noncomputable def tCB(r:List V->Hp->VK->Prop)(t:TA):TE:=λσ H Q=>t σ H λvs H1=>r vs H1 Q
theorem mX (hc:dB X (.builtin id) r) (hg:Gl X x) (hm:X.mg x=none) (hv:bootBuiltins x=some (.builtin id)) (ha:PA X (e::es) t) (hn:x ≠ "__name__" := by decide) (hdb:(x==("__debug__" : Str))=false:=by decide)
 (he:starEach (e::es) X.env=(false,eval e X.env)::starEach es X.env:=by rfl) (hpl:(backTo pos (starEach es X.env)).any (·.1)=false:=by rfl):PE X (.Call (.Name x p) (e::es) [] pos) (tCB r t):=by
 intro pins s σ H Q I h
 refine wpAny_Call_Name_kw (lI I hg hm hv ?_ hn hdb)
 exact PyProof.Rows.callWith_builtin1 (thn (ha pos pins s σ H _ I h) λus s1 ⟨vs,H1,I1,r1,q1⟩=>hc pins s1 σ H1 vs us Q I1 r1 q1) he hpl
theorem rR (hc:dB X (.type T) r) (hg:Gl X x) (hm:X.mg x=none) (hv:bootBuiltins x=some (.type T)) (ha:PA X (e::es) t) (hn:x ≠ "__name__" := by decide) (hdb:(x==("__debug__" : Str))=false:=by decide)
 (he:starEach (e::es) X.env=(false,eval e X.env)::starEach es X.env:=by rfl) (hpl:(backTo pos (starEach es X.env)).any (·.1)=false:=by rfl):PE X (.Call (.Name x p) (e::es) [] pos) (tCB r t):=by
 intro pins s σ H Q I h
 refine wpAny_Call_Name_kw (lI I hg hm hv ?_ hn hdb)
 exact PyProof.Rows.callWith_type1 (thn (ha pos pins s σ H _ I h) λus s1 ⟨vs,H1,I1,r1,q1⟩=>hc pins s1 σ H1 vs us Q I1 r1 q1) he hpl
end
end L2
namespace HT
open PySem PyProof.Rows
section
open PySem.SeqAt
open PySem.AutoSeq1 (wpAny_loadPart')
open PySem.MeetsSeq PySem.MeetsSeq2 PySem.MeetsSeq3
end
section
variable{prog:Program}{w:World}{A:Around}{E:Value->Shared->Prop}{s:Shared}
theorem cat_tup{t b:Addr}{vs ws:List Value}{Q:Value->Shared->Prop}(ht:IsTup s.heap t vs.toArray)(hb:IsTup s.heap b ws.toArray)(hv:vs≠[])
 (h1:ws=[]->Q (.ref t) s) (h2:ws≠[]->Q (.ref s.heap.objs.size) {s with heap:=s.heap.push {cls:=.type "tuple", data:=.seq (vs++ws).toArray} })
 (hsz:vs.length+ws.length<=sizeLine):wpAny (model prog w) A (binaryOp .Add (.ref t) (.ref b)) Q E s:=by
 obtain⟨⟨cls,dd,data,sl⟩,ho,hc,n,hd⟩:=id ht
 obtain⟨⟨cls2,dd2,data2,sl2⟩,ho2,hc2,n2,hd2⟩:=id hb
 simp only at hc hd hc2 hd2
 subst hc hd hc2 hd2
 have e:vs.toArray++ws.toArray=(vs++ws).toArray:=by simp
 by_cases hw:ws=[]
 ·exact concat_meets ⟨_,ho,rfl⟩ ⟨_,ho2,rfl⟩ noFill_tuple_add seq_tuple_add PySem.F.slot_tuple_add PySem.F.entry_tuple_add (PySem.F.args_tuple_add_2 _ _)
   (tuple_addW1 t b vs.toArray ws.toArray n n2 dd dd2 sl sl2 (by simpa using hv) (by simp[hw])) ⟨ho,ho2,h1 hw⟩
 ·refine concat_meets ⟨_,ho,rfl⟩ ⟨_,ho2,rfl⟩ noFill_tuple_add seq_tuple_add PySem.F.slot_tuple_add PySem.F.entry_tuple_add (PySem.F.args_tuple_add_2 _ _)
   (tuple_addW2 t b vs.toArray ws.toArray n n2 dd dd2 sl sl2 (by simpa using hv) (by simpa using hw) (by rw[bQ,bQ];exact hsz)) ⟨ho,ho2,?_⟩
  rw[e]
  exact h2 hw
noncomputable def sIx(n d:Nat):Option Int->Nat
 |none=>d
 |some v=>if v<0 then(v+(n:Int)).toNat else min v.toNat n
theorem sIx_le(n d:Nat)(hd:d<=n)(o:Option Int):sIx n d o<=n:=by
 cases o with
 |none=>exact hd
 |some v=>
  show(if v<0 then(v+(n:Int)).toNat else min v.toNat n)<=n
  by_cases hv:v<0
  ·rw[if_pos hv];lia
  ·rw[if_neg hv];exact Nat.min_le_right _ _
theorem BD(v:Int)(n d:Nat):(if v<0 then max (v+(n:Int)) 0 else min v (n:Int))=((sIx n d (some v):Nat):Int):=by
 show(if v<0 then max (v+(n:Int)) 0 else min v (n:Int))=(((if v<0 then(v+(n:Int)).toNat else min v.toNat n):Nat):Int)
 by_cases hv:v<0
 ·simp only[if_pos hv];lia
 ·simp only[if_neg hv];lia
theorem Hg(lo hi:Option Int)(n:Nat):Builtin.Slice.sliceAdjust lo hi 1 (n:Int)=(((sIx n 0 lo:Nat):Int),((sIx n n hi:Nat):Int)):=by
 have h1:¬((1:Int)<0):=by lia
 unfold Builtin.Slice.sliceAdjust
 simp only[h1,if_false]
 refine Prod.ext ?_ ?_
 ·cases lo with
  |none=>rfl
  |some v=>exact BD v n 0
 ·cases hi with
  |none=>rfl
  |some v=>exact BD v n n
theorem Hh(i j:Nat):Builtin.Slice.slicePlaces (i:Int) (j:Int) 1=j-i:=by
 unfold Builtin.Slice.slicePlaces
 have h1:(1:Int)>0:=by lia
 simp only[h1,if_true,Int.ediv_one]
 split<;>lia
theorem BE{v:Value}{o:Option Int}{Q:Option Int->Shared->Prop}(p:IsPart v o)(h:Q o s):wpAny (model prog w) A (Builtin.Slice.slicePartIndex v) Q E s:=by
 cases p with
 |none=>exact slicePart_none h
 |int i t=>exact slicePart_int h
theorem sliceApplied_gen{sl:Addr}{vl vu:Value}{lo hi:Option Int}{n:Nat}{Q:Int×Int×Nat->Shared->Prop}(hs:s.heap.IsSliceOf sl vl vu .none)(pl:IsPart vl lo)(pu:IsPart vu hi)
 (h:Q (((sIx n 0 lo:Nat):Int),1,sIx n n hi-sIx n 0 lo) s):wpAny (model prog w) A (Builtin.Slice.sliceApplied (.ref sl) (pure (n:Int))) Q E s:=by
 obtain⟨os,hos,hcs,hds⟩:=id hs
 unfold Builtin.Slice.sliceApplied Builtin.Slice.sliceFields
 refine wpAny_bind (wpAny_bind (wpAny_field hos hds (x:=vl) rfl (wpAny_bind (wpAny_field hos hds (x:=vu) rfl (wpAny_bind (wpAny_field hos hds (x:=.none) rfl (wpAny_pure ?_)))))))
 refine wpAny_bind (slicePart_none ?_)
 show wpAny _ _ (if((1:Int)==0)=true then _ else _) _ _ s
 rw[if_neg (by decide)]
 refine wpAny_bind (BE pl (wpAny_bind (BE pu (wpAny_bind (wpAny_pure ?_)))))
 show wpAny _ _ (match Builtin.Slice.sliceAdjust lo hi 1 (n:Int)with|(lo,hi)=>pure (lo,(1:Int),Builtin.Slice.slicePlaces lo hi 1)) _ _ s
 rw[Hg lo hi n]
 show wpAny _ _ (pure (((sIx n 0 lo:Nat):Int),(1:Int),Builtin.Slice.slicePlaces ((sIx n 0 lo:Nat):Int) ((sIx n n hi:Nat):Int) 1)) _ _ s
 rw[Hh]
 exact wpAny_pure h
theorem Hj(xs:Array Value)(i k:Nat):((aI k).filterMap λ(m:Nat)=>xs[((i:Int)+(m:Int)*1).toNat]?).toArray=((xs.toList.drop i).take k).toArray:=by
 have e:(λ(m:Nat)=>xs[((i:Int)+(m:Int)*1).toNat]?)=λm=>xs[i+m]?:=by
  funext m
  have:((i:Int)+(m:Int)*1).toNat=i+m:=by lia
  rw[this]
 rw[e]
 have:=pick_run xs i k
 rw[Gc]at this
 have e2:((λx=>xs[x]?)∘λx=>i+x)=λm=>xs[i+m]?:=rfl
 rw[e2]at this
 rw[this]
theorem getItem_tuple_cut{t sl:Addr}{items:Array Value}{vl vu:Value}{lo hi:Option Int}{Q:Value->Shared->Prop}(ht:IsTup s.heap t items)(hs:s.heap.IsSliceOf sl vl vu .none)(pl:IsPart vl lo)(pu:IsPart vu hi)
 (hw:¬(sIx items.size 0 lo=0/\sIx items.size items.size hi=items.size))
 (h:Q (.ref s.heap.objs.size) {s with heap:=s.heap.push {cls:=.type "tuple", data:=.seq ((items.toList.drop (sIx items.size 0 lo)).take (sIx items.size items.size hi-sIx items.size 0 lo)).toArray} })
 (hsz:items.size<=sizeLine):wpAny (model prog w) A (getItem (.ref t) (.ref sl)) Q E s:=by
 have htake:sizeOk (.seq ((items.toList.drop (sIx items.size 0 lo)).take (sIx items.size items.size hi-sIx items.size 0 lo)).toArray):=by
  show((items.toList.drop (sIx items.size 0 lo)).take (sIx items.size items.size hi-sIx items.size 0 lo)).toArray.size<=sizeLine
  rw[bQ,dF,iP,qY]
  lia
 have hj:sIx items.size items.size hi<=items.size:=sIx_le _ _ (aN _) hi
 obtain⟨os,hos,hcs,hds⟩:=id hs
 have hTs:s.TypeIs (.ref sl) "slice" := ⟨os,hos,hcs⟩
 unfold getItem
 try with_reducible refine wpAny_holding ?_
 first|refine wpAny_bind (wpAny_pure ?_)|skip
 refine wpAny_bind (wpAny_sequenceKey ht.typeIs (by decide) ?_)
 refine wpAny_bind (wpAny_callSpecial?_slot (name:=Str.ofString "__getitem__") ht.typeIs PyProof.Rows.slot_tuple_getitem
  (wpAny_call_entry PyProof.Rows.slot_tuple_getitem ht.typeIs entry_tuple_getitem ?_ (args_tuple_getitem _ _)))
 show wpAny _ _ (Builtin.Tuple.tupleItemsOf (.ref t)>>=_) _ _ s
 refine wpAny_bind (tupleItemsOf_ ht ?_)
 refine wpAny_bind (wpAny_typeOf hTs ?_)
 rw[if_pos (by decide)]
 refine wpAny_bind (sliceApplied_gen hs pl pu ?_)
 have hno:¬((((sIx items.size 0 lo:Nat):Int)==0&&(1:Int)==1&&(sIx items.size items.size hi-sIx items.size 0 lo)==items.size)=true):=by
  intro q
  rw[aM,aM]at q
  have q1:((sIx items.size 0 lo:Nat):Int)=0:=eq_of_beq q.1.1
  have q2:sIx items.size items.size hi-sIx items.size 0 lo=items.size:=eq_of_beq q.2
  exact hw ⟨by lia,by lia⟩
 show wpAny _ _ (if(((sIx items.size 0 lo:Nat):Int)==0&&(1:Int)==1&&(sIx items.size items.size hi-sIx items.size 0 lo)==items.size)=true then _ else _) _ _ s
 rw[if_neg hno,Hj]
 first
  |exact wpAny_bind (m:=Builtin.Tuple.tupleExact _) (wpAny_newObj_type (wpAny_pure ⟨_,rfl,wpAny_pure h⟩) htake)
  |exact wpAny_bind (m:=Builtin.Tuple.tupleExact _) (wpAny_newObj_type (wpAny_bind (wpAny_pure (wpAny_pure ⟨_,rfl,wpAny_pure h⟩))) htake)
  |exact wpAny_bind (wpAny_bind (m:=Builtin.Tuple.tupleExact _) (wpAny_newObj_type (wpAny_pure (wpAny_pure ⟨_,rfl,wpAny_pure h⟩)) htake))
  |exact wpAny_bind (wpAny_bind (m:=Builtin.Tuple.tupleExact _) (wpAny_newObj_type (wpAny_pure ⟨_,rfl,wpAny_pure h⟩) htake))
end
end HT
namespace L2
open PySem PySem.Spec PyProof.Rows
noncomputable abbrev TO:=St->Hp->(Option Int->Hp->Prop)->Prop
noncomputable def PO(X:Cx)(e:Option Expr)(t:TO):Prop:=
 ∀(pins:List (Addr×Obj))(s:Shared)(σ:St)(H:Hp)(Q:Option Int->Hp->Prop),Inv X pins σ H s->t σ H Q ->
  wpAny (model X.prog X.w) X.A (evalPart e X.env) (λu s'=>∃o H',Inv X pins σ H' s'/\IsPart u o/\Q o H') X.xe s
noncomputable def Hk:TO:=λ_ H Q=>Q none H
theorem Hl{ns:List Int}:∀{us:List Value},Vals (ns.map V.int) us->IntsAre us ns:=by
 induction ns with
 |nil=>intro us r;rw[dQ]at r;cases r;exact .nil
 |cons n ns ih=>
  intro us r
  rw[aG]at r
  cases r with
  |cons r1 r2=>
   obtain⟨t,e⟩:=r1
   subst e
   exact .cons n t (ih r2)
section
variable{X:Cx}{e:Expr}{te:TE}{lo hi:Option Expr}{tl th:TO}{pos p2:Pos}
theorem Hm:PO X none Hk:=by
 intro pins s σ H Q I h
 rw[evalPart_none]
 exact wpAny_pure ⟨none,H,I,.none,h⟩
noncomputable def SlR(X:Cx)(r:V->Option Int->Option Int->Hp->VK->Prop):Prop:=
 ∀(pins:List (Addr×Obj))(s:Shared)(σ:St)(H:Hp)(x:V)(v vl vu:Value)(lo hi:Option Int)(sl:Addr)(Q:VK),Inv X pins σ H s->RelV x v->s.heap.IsSliceOf sl vl vu .none->IsPart vl lo->IsPart vu hi->r x lo hi H Q ->
  ∃T id,typeLookup (.type T) "__getitem__" = pure (some (.builtin id))/\s.TypeIs v T/\wpAny (model X.prog X.w) X.A (getItem v (.ref sl)) (EP X pins σ Q) X.xe s
noncomputable def tSl(r:V->Option Int->Option Int->Hp->VK->Prop)(te:TE)(tl th:TO):TE:=λσ H Q=>te σ H λx H1=>tl σ H1 λl H2=>th σ H2 λu H3=>r x l u H3 Q
theorem Hn{r:V->Option Int->Option Int->Hp->VK->Prop}(hr:SlR X r)(he:PE X e te)(hl:PO X lo tl)(hu:PO X hi th):PE X (.Subscript e (.Slice lo hi none p2) pos) (tSl r te tl th):=by
 intro pins s σ H Q I h
 refine Subscript_ (thn (he pins s σ H _ I h) λv s1 ⟨x,H1,I1,r1,q1⟩=>?_)
 refine wpAny_Slice (thn (hl pins s1 σ H1 _ I1 q1) λvl s2 ⟨l,H2,I2,pl,q2⟩=>thn (hu pins s2 σ H2 _ I2 q2) λvu s3 ⟨u,H3,I3,pu,q3⟩=>?_)
 rw[evalPart_none]
 refine wpAny_pure ?_
 have I4:Inv X pins σ H3 {s3 with heap:=s3.heap.push {cls:=.type "slice", data:=.fields #[vl,vu,.none] } }:=I3.kept (t':=s3.toks) λb ob q=>Heap.get?_push_of_some _ q
 obtain⟨T,id,hT,ht,hg⟩:=hr pins {s3 with heap:=s3.heap.push {cls:=.type "slice", data:=.fields #[vl,vu,.none] } } σ H3 x v vl vu l u s3.heap.objs.size Q I4 r1 (Heap.IsSliceOf.new ..) pl pu q3
 show wpAny (model X.prog X.w) X.A (subscriptTail e (.Slice lo hi none p2) v (.ref s3.heap.objs.size)) (EP X pins σ Q) X.xe {s3 with heap:=s3.heap.push {cls:=.type "slice", data:=.fields #[vl,vu,.none] } }
 exact tail_any (ops:=[.ref s3.heap.objs.size,v]) ht hT hg (by with_unfolding_all rfl)
noncomputable def kH(xs:List V)(lo hi:Option Int):List V:=(xs.drop (HT.sIx xs.length 0 lo)).take (HT.sIx xs.length xs.length hi-HT.sIx xs.length 0 lo)
theorem BF(xs:List V)(lo hi:Option Int):(kH xs lo hi).length<=xs.length:=by
 unfold kH
 rw[dF,iP]
 lia
noncomputable def rSlT(K:PySem.W.Frag):V->Option Int->Option Int->Hp->VK->Prop:=λx lo hi H Q=>∃a xs,x=.ref a/\SqT K H a xs /\
 ¬(HT.sIx xs.length 0 lo=0/\HT.sIx xs.length xs.length hi=xs.length)/\∀p,H p=none->Q (.ref p) (upd H p (.tup (kH xs lo hi)))
theorem sl_tup:SlR X (rSlT X.K):=by
 intro pins s σ H x v vl vu lo hi sl Q I rx hs pl pu h
 obtain⟨a,xs,rfl,hx,hw,q⟩:=h
 cases rx
 obtain⟨its,r,ht,hz⟩:=I.tuple hx
 have hlen:its.toArray.size=xs.length:=by rw[bQ];exact r.length.symm
 refine⟨"tuple", _,PyProof.Rows.slot_tuple_getitem.lookup,ht.typeIs,?_⟩
 refine HT.getItem_tuple_cut ht hs pl pu (by rw[hlen];exact hw) ?_ (by rw[hlen];exact hz)
 rw[hlen]
 refine⟨.ref s.heap.objs.size,_,I.laid (t':=s.toks) (o:=.tup (kH xs lo hi)) (λb ob q=>Heap.get?_push_of_some _ q) (aN _) ?_,rfl,q _ (I.hok.fresh (aN _))⟩
 exact⟨eQ (BF xs lo hi) hz,_,(r.drop (HT.sIx xs.length 0 lo)).take (HT.sIx xs.length xs.length hi-HT.sIx xs.length 0 lo),IsTup.new _ _⟩
noncomputable def rCatT(K:PySem.W.Frag):R2:=λx y H Q=>∃a b xs ys,x=.ref a/\y=.ref b/\SqT K H a xs/\SqT K H b ys/\xs≠[]/\xs.length+ys.length<=sizeLine /\
 (ys=[]->Q (.ref a) H)/\(ys≠[]->∀p,H p=none->Q (.ref p) (upd H p (.tup (xs++ys))))
theorem Vals.nil_iff{xs:List V}{us:List Value}(r:Vals xs us):us=[]↔xs=[]:=by
 cases r with
 |nil=>simp
 |cons _ _=>simp
theorem Ho:OpR X (binaryOp .Add) (rCatT X.K):=by
 intro pins s σ H x y v u Q I rx ry h
 obtain⟨a,b,xs,ys,rfl,rfl,ha,hb,hx,hz,q1,q2⟩:=h
 cases rx
 cases ry
 obtain⟨its,r1,p1,_⟩:=I.tuple ha
 obtain⟨its2,r2,p2,_⟩:=I.tuple hb
 refine HT.cat_tup p1 p2 (λz=>hx (r1.nil_iff.mp z)) (λz=>⟨.ref a,H,I,rfl,q1 (r2.nil_iff.mp z)⟩) (λz=>?_) (by rw[<-r1.length,<-r2.length];exact hz)
 refine⟨.ref s.heap.objs.size,_,I.laid (t':=s.toks) (o:=.tup (xs++ys)) (λb ob q=>Heap.get?_push_of_some _ q) (aN _) ?_,rfl,q2 (λw=>z (r2.nil_iff.mpr w)) _ (I.hok.fresh (aN _))⟩
 exact⟨by rw[cP];exact hz,_,r1.append r2,IsTup.new _ _⟩
end
variable{i:Int}
noncomputable def ixN(n:Nat)(i:Int):Option Nat:=if 0<=i then(if i<n then some i.toNat else none)else if -(n:Int)<=i then some (i+n).toNat else none
noncomputable def atI{α:Type}(xs:List α)(i:Int):Option α:=(ixN xs.length i).bind λj=>xs[j]?
theorem Hq{n:Nat}{j:Nat}(h:ixN n i=some j):seqIndex? i n=some j/\j<n /\ -(n:Int)<=i/\i<n:=by
 unfold ixN at h
 by_cases h0:0<=i
 ·rw[if_pos h0]at h
  by_cases h1:i<n
  ·rw[if_pos h1]at h
   have e:i.toNat=j:=fW.inj h
   exact⟨by rw[seqIndex_of h0 h1,e],by lia,by lia,h1⟩
  ·rw[if_neg h1]at h;cases h
 ·rw[if_neg h0]at h
  by_cases h1:-(n:Int)<=i
  ·rw[if_pos h1]at h
   have e:(i+n).toNat=j:=fW.inj h
   exact⟨by rw[seqIndex_neg (by lia) h1,e],by lia,h1,by lia⟩
  ·rw[if_neg h1]at h;cases h
theorem vH{α:Type}{xs:List α}{v:α}(h:atI xs i=some v):∃j,seqIndex? i xs.length=some j/\xs[j]?=some v/\j<xs.length /\ -(xs.length:Int)<=i/\i<xs.length:=by
 unfold atI at h
 cases e:ixN xs.length i with
 |none=>rw[e]at h;cases h
 |some j=>
  rw[e]at h
  obtain⟨h1,h2,h3,h4⟩:=Hq e
  exact⟨j,h1,h,h2,h3,h4⟩
noncomputable def BG(b:Expr):Prop:=∀o i,subscripted b false o i=operate [o,i] (getItem o i)
noncomputable def IxR(X:Cx)(r:R2):Prop:=
 ∀(value slice:Expr)(pins:List (Addr×Obj))(s:Shared)(σ:St)(H:Hp)(x y:V)(v u:Value)(Q:VK),Inv X pins σ H s->RelV x v->RelV y u->r x y H Q ->
  subscripted slice false v u=operate [v,u] (getItem v u)->wpAny (model X.prog X.w) X.A (subscriptTail value slice v u) (EP X pins σ Q) X.xe s
noncomputable def MtR(X:Cx)(id:String)(r:V->List V->Hp->VK->Prop):Prop:=
 ∀(pins:List (Addr×Obj))(s:Shared)(σ:St)(H:Hp)(x:V)(xs:List V)(v:Value)(us:List Value)(Q:VK),Inv X pins σ H s->RelV x v->Vals xs us->r x xs H Q ->
  wpAny (model X.prog X.w) X.A (call (.builtin id) (v::us)) (EP X pins σ Q) X.xe s
section
variable{X:Cx}{a b:Expr}{ta tb:TE}{pos:Pos}
theorem BH{r:R2}(hr:IxR X r)(ha:PE X a ta)(hb:PE X b tb)(hs:BG b):PE X (.Subscript a b pos) (tOp r ta tb):=by
 intro pins s σ H Q I h
 exact Subscript_ (binT ha hb I h λv u s2 x y H2 I2 rx ry q=>hr a b pins s2 σ H2 x y v u Q I2 rx ry q (hs _ _))
noncomputable def rIxL(K:PySem.W.Frag):R2:=λx y H Q=>∃p xs i v,x=.ref p/\y=.int i/\SqL K H p xs/\atI xs i=some v/\Q v H
noncomputable def rIxT(K:PySem.W.Frag):R2:=λx y H Q=>∃p xs i v,x=.ref p/\y=.int i/\SqT K H p xs/\atI xs i=some v/\Q v H
noncomputable def rIxS:R2:=λx y H Q=>∃z i c,x=.str z/\y=.int i/\z.length<=sizeLine/\atI z.cps.toList i=some c/\Q (.str ⟨#[c]⟩) H
theorem Hr:IxR X (rIxL X.K):=by
 intro value slice pins s σ H x y v u Q I rx ry h hs
 obtain⟨p,xs,i,z,rfl,rfl,hq,he,q⟩:=h
 cases rx
 obtain⟨t,rfl⟩:=ry
 obtain⟨its,r,pl,hz⟩:=I.list hq
 obtain⟨j,h1,h2,h3,h4,h5⟩:=vH he
 obtain⟨w,ew,rw'⟩:=r.get h2
 have hl:=r.length
 have hn:=mW
 have fin:EP X pins σ Q w s:=⟨z,H,I,rw',q⟩
 by_cases h0:0<=i
 ·have hj:i.toNat=j:=by
   rw[seqIndex_of h0 h5]at h1
   exact fW.inj h1
  exact item_listR pl.isList h0 (by lia) (by rw[hj];simpa using ew) fin hs
 ·have hj:(i+(its.toArray.size:Int)).toNat=j:=by
   rw[seqIndex_neg (by lia) h4]at h1
   rw[bQ,<-hl]
   exact fW.inj h1
  exact subscriptTail_builtinR (x:=w) pl.isList.typeIs slot_list_getitem.lookup
   (wpAny_getItem_list_neg (Q:=λr s'=>r=w/\EP X pins σ Q r s') pl.isList (by lia) (by rw[bQ]<;>lia) (by lia) (by rw[hj];simpa using ew) ⟨rfl,fin⟩) hs
theorem BI:IxR X (rIxT X.K):=by
 intro value slice pins s σ H x y v u Q I rx ry h hs
 obtain⟨p,xs,i,z,rfl,rfl,hq,he,q⟩:=h
 cases rx
 obtain⟨t,rfl⟩:=ry
 obtain⟨its,r,pl,hz⟩:=I.tuple hq
 obtain⟨j,h1,h2,h3,h4,h5⟩:=vH he
 obtain⟨w,ew,rw'⟩:=r.get h2
 have hl:=r.length
 have hn:=mW
 have fin:EP X pins σ Q w s:=⟨z,H,I,rw',q⟩
 exact subscriptTail_builtinR (x:=w) pl.typeIs slot_tuple_getitem.lookup
  (getItem_tuple (j:=j) (Q:=λr s'=>r=w/\EP X pins σ Q r s') pl (by lia) (by lia) (by rw[bQ,<-hl];exact h1) (by simpa using ew) ⟨rfl,fin⟩) hs
theorem ix_str:IxR X rIxS:=by
 intro value slice pins s σ H x y v u Q I rx ry h hs
 obtain⟨z,i,c,rfl,rfl,hz,he,q⟩:=h
 obtain⟨t,rfl⟩:=rx
 obtain⟨t',rfl⟩:=ry
 obtain⟨j,h1,h2,h3,h4,h5⟩:=vH he
 have hl:z.cps.toList.length=z.length:=by simp[Str.length]
 rw[hl]at h1 h4 h5
 have hn:=mW
 exact tail_any (typeIs_str s z t) slot_str_getitem.lookup (getItem_str (c:=c) (by
  have e1:decide (i < -(2^63:Int))=false:=decide_eq_false (by lia)
  have e2:decide (i≥2^63)=false:=decide_eq_false (by lia)
  rw[e1,e2,Bool.or_false]) (by rw[h1];simpa using h2) ⟨.str ⟨#[c]⟩,H,I.tok _,⟨_,rfl⟩,q⟩) hs
theorem Hs(lo hi:Option Int)(n:Nat):(sliceBounds lo hi none n).1=((HT.sIx n 0 lo:Nat):Int)/\(sliceBounds lo hi none n).2.1=((HT.sIx n n hi:Nat):Int)/\(sliceBounds lo hi none n).2.2=1:=by
 refine⟨?_,?_,rfl⟩
 ·cases lo with
  |none=>simp[sliceBounds,HT.sIx]
  |some i=>
   simp only[sliceBounds,HT.sIx,O8,show(1:Int)>0 by decide,if_true]
   by_cases h:i<0
   ·simp only[h,if_true]<;>lia
   ·simp only[h,if_false]<;>lia
 ·cases hi with
  |none=>simp[sliceBounds,HT.sIx]
  |some i=>
   simp only[sliceBounds,HT.sIx,O8,show(1:Int)>0 by decide,if_true]
   by_cases h:i<0
   ·simp only[h,if_true]<;>lia
   ·simp only[h,if_false]<;>lia
theorem Ht(its:List Value)(lo hi:Option Int):slicePick its.toArray lo hi none=((its.drop (HT.sIx its.length 0 lo)).take (HT.sIx its.length its.length hi-HT.sIx its.length 0 lo)).toArray:=by
 obtain⟨h1,h2,h3⟩:=Hs lo hi its.toArray.size
 unfold slicePick
 rw[h1,h2,h3]
 simp only[sliceRange_one,pick_run,bQ]<;>rfl
noncomputable def rSlL(K:PySem.W.Frag):V->Option Int->Option Int->Hp->VK->Prop:=λx lo hi H Q=>∃a xs,x=.ref a/\SqL K H a xs/\∀p,H p=none->Q (.ref p) (upd H p (.lst (kH xs lo hi)))
theorem Hu:SlR X (rSlL X.K):=by
 intro pins s σ H x v vl vu lo hi sl Q I rx hs pl pu h
 obtain⟨a,xs,rfl,hx,q⟩:=h
 cases rx
 obtain⟨its,r,ht,hz⟩:=I.list hx
 have hlen:=r.length
 refine⟨"list", _,slot_list_getitem.lookup,ht.isList.typeIs,?_⟩
 refine wpAny_getItem_list_slice ht.isList hs pl pu .none (by simp) ?_ (by rw[bQ]<;>lia)
 rw[Ht,<-hlen]
 refine⟨.ref s.heap.objs.size,_,I.laid (t':=s.toks) (o:=.lst (kH xs lo hi)) (λb ob q=>Heap.get?_push_of_some _ q) (aN _) ?_,rfl,q _ (I.hok.fresh (aN _))⟩
 exact⟨eQ (BF xs lo hi) hz,_,0,(r.drop (HT.sIx xs.length 0 lo)).take (HT.sIx xs.length xs.length hi-HT.sIx xs.length 0 lo),Heap.get?_push_size _ rfl⟩
theorem BJ:dB X (.builtin "len") (λxs H Q=>∃p ys,xs=[.ref p]/\(SqL X.K H p ys\/SqT X.K H p ys)/\Q (.int ys.length) H):=by
 intro pins s σ H xs us Q I r h
 obtain⟨p,ys,rfl,hq,q⟩:=h
 obtain⟨u,rfl,rx⟩:=fY r
 cases rx
 have hn:=mW
 rcases hq with hq|hq
 ·obtain⟨its,r',pl,hz⟩:=I.list hq
  have hlen:=r'.length
  exact Calls.call_len_list pl.isList (by simp only[bQ]<;>lia) ⟨.int ys.length,H,I.tok _,⟨s.toks+1,by rw[bQ,hlen]⟩,q⟩
 ·obtain⟨its,r',pl,hz⟩:=I.tuple hq
  have hlen:=r'.length
  exact len_tuple pl (by simp only[bQ]<;>lia) ⟨.int ys.length,H,I.tok _,⟨s.toks+1,by rw[bQ,hlen]⟩,q⟩
theorem Hv:dB X (.builtin "len") (λxs H Q=>∃z,xs=[.str z]/\z.length<=sizeLine/\Q (.int z.length) H):=by
 intro pins s σ H xs us Q I r h
 obtain⟨z,rfl,hz,q⟩:=h
 obtain⟨u,rfl,t,rfl⟩:=fY r
 have hn:=mW
 exact len_str (by lia) ⟨.int z.length,H,I.tok _,⟨_,rfl⟩,q⟩
theorem BL:dB X (.type "tuple") (λxs H Q=>∃p ys,xs=[.ref p]/\((SqL X.K H p ys/\∀l,H l=none->Q (.ref l) (upd H l (.tup ys)))\/(SqT X.K H p ys/\Q (.ref p) H))):=by
 intro pins s σ H xs us Q I r h
 obtain⟨p,ys,rfl,h⟩:=h
 obtain⟨u,rfl,rx⟩:=fY r
 cases rx
 rcases h with⟨hq,q⟩|⟨hq,q⟩
 ·obtain⟨its,r',pl,hz⟩:=I.list hq
  have hlen:=r'.length
  refine call_tuple_list pl.isList (λh' kp=>?_) (by simp only[bQ]<;>lia)
  have I1:Inv X pins σ H {s with heap:=h' }:=I.kept (t':=s.toks) kp
  have I2:Inv X pins σ (upd H h'.objs.size (.tup ys)) {s with heap:=h'.push {cls:=.type "tuple", data:=.seq its.toArray} }:=
   I1.laid (t':=s.toks) (λb o e=>Heap.get?_push_of_some _ e) (aN _) (show ObjOk X.prog X.w _ _ _ (.tup ys)from⟨hz,its,r',IsTup.new _ _⟩)
  exact⟨.ref h'.objs.size,_,I2,rfl,q _ (I1.hok.fresh (aN _))⟩
 ·obtain⟨its,r',pl,hz⟩:=I.tuple hq
  exact call_tuple_same pl ⟨.ref p,H,I,rfl,q⟩
noncomputable def tyV(K:PySem.W.Frag)(T:String)(x:V)(H:Hp):Prop:=match x with
 |.str _=>T = "str"
 |.int _=>T = "int"
 |.ref p=>(T = "list" /\ ∃xs,SqL K H p xs)\/(T = "tuple" /\ ∃o,K.lookup p=some o/\o.cls=.type "tuple" /\ o.dict=none) \/
  (T = "dict" /\ ((∃kvs,H p=some (.dK kvs))\/∃kvs,H p=some (.dT kvs)))\/(T = "set" /\ ∃S n,H p=some (.set S n))
 |_=>False
theorem tyV_is{pins:List (Addr×Obj)}{σ:St}{H:Hp}{s:Shared}{T:String}{x:V}{v:Value}(I:Inv X pins σ H s)(r:RelV x v)(ty:tyV X.K T x H) :
 s.TypeIs v T/\∀a,v=.ref a->∃ob,s.heap.get? a=some ob/\ob.dict=none:=by
 cases x with
 |str z=>
  obtain⟨t,rfl⟩:=r
  cases (show T = "str" from ty)
  exact⟨typeIs_str s z t,λ_ e=>nomatch e⟩
 |int i=>
  obtain⟨t,rfl⟩:=r
  cases (show T = "int" from ty)
  exact⟨typeIs_int s i t,λ_ e=>nomatch e⟩
 |ref p=>
  cases r
  rcases ty with⟨rfl,xs,hq⟩|⟨rfl,o,hk,hc,hd⟩|⟨rfl,hk⟩|⟨rfl,S,n,hk⟩
  ·obtain⟨its,_,pl,_⟩:=I.list hq
   refine⟨pl.isList.typeIs,λa e=>?_⟩
   cases e
   obtain⟨o,n,e,c,hd,_⟩:=pl
   exact⟨o,e,hd⟩
  ·refine⟨⟨o,I.kIn p o hk,hc⟩,λa e=>?_⟩
   cases e
   exact⟨o,I.kIn _ o hk,hd⟩
  ·have z:∃o,s.heap.get? p=some o/\o.ExactDict:=by
    rcases hk with⟨kvs,hk⟩|⟨kvs,hk⟩
    ·obtain⟨_,_,_,_,o,_,_,e,ex,_⟩:=I.hok p _ hk
     exact⟨o,e,ex⟩
    ·obtain⟨_,_,_,_,o,_,_,e,ex,_⟩:=I.hok p _ hk
     exact⟨o,e,ex⟩
   obtain⟨o,e,ex⟩:=z
   refine⟨⟨o,e,ex.1⟩,λa e2=>?_⟩
   cases e2
   exact⟨o,e,ex.2.1⟩
  ·obtain⟨o,_,_,_,e,ex,_⟩:=I.hok p _ hk
   refine⟨⟨o,e,ex.1⟩,λa e2=>?_⟩
   cases e2
   exact⟨o,e,ex.2.1⟩
 |_=>exact False.elim ty
noncomputable def tBM(K:PySem.W.Frag)(T:String)(r:V->List V->Hp->VK->Prop)(to:TE)(t:TA):TE:=λσ H Q=>to σ H λx H1=>tyV K T x H1/\t σ H1 λxs H2=>r x xs H2 Q
variable{o e:Expr}{es:List Expr}{to:TE}{t:TA}{name:Str}{apos cpos:Pos}{T id:String}{r:V->List V->Hp->VK->Prop}
theorem lJ (pa:PlainAttrs T) (slot:Slot T name id) (hty:typeOf (.builtin id)=pure (.type "method_descriptor")) (hm:MtR X id r) (ho:PE X o to) (ha:PA X (e::es) t)
 (hbase:attributeBase o name X.env (eval o X.env)=eval o X.env:=by rfl)
 (hfew:((backTo cpos (starEach (e::es) X.env)).all (λx=>!x.1)&&(backToKw cpos (keywordEach [] X.env)).all (λx=>x.1.isSome)
  && decide ((e::es).length+([]:List Keyword).length+(if([]:List Keyword).isEmpty then 0 else 1)<30))=true:=by rfl)
 (hline:(apos.endLine==cpos.line)=true:=by rfl) (hs:starEach (e::es) X.env=(false,eval e X.env)::starEach es X.env:=by rfl) (hplain:(backTo cpos (starEach es X.env)).any (·.1)=false:=by rfl) :
 PE X (.Call (.Attribute o name apos) (e::es) [] cpos) (tBM X.K T r to t):=by
 intro pins s σ H Q I h
 refine wpAny_Call_method_late hbase hfew hline rfl (thn (ho pins s σ H _ I h) λv s1 ⟨x,H1,I1,r1,ty,q1⟩=>?_)
 obtain⟨h1,h2⟩:=tyV_is I1 r1 ty
 refine⟨T,id,pa,slot,hty,h1,h2,?_⟩
 have hA:=ha cpos pins s1 σ H1 _ I1 q1
 rw[hs]at hA⊢
 refine Calls.callWith_builtin (by show(false||(backTo cpos (starEach es X.env)).any (·.1))=false;rw[hplain]<;>rfl) (Calls.evalArgs_plain ?_)
 exact thn hA λus s2 ⟨vs,H2,I2,r2,q2⟩=>hm pins s2 σ H2 x vs v us Q I2 r1 r2 q2
end
end L2
namespace L2
open PySem PySem.Spec PyProof.Rows
noncomputable def MtM(X:Cx)(id:String)(r:V->List V->Hp->VK->Prop):Prop:=
 ∀(pins:List (Addr×Obj))(s:Shared)(σ:St)(H:Hp)(x:V)(xs:List V)(v:Value)(us:List Value)(Q:VK),Inv X pins σ H s->RelV x v->Vals xs us->r x xs H Q ->
  wpAny (model X.prog X.w) X.A (call (.builtin id) (v::us)) (EP X pins σ Q) X.xe s
theorem Vals.one:∀{x:V} {us:List Value},Vals [x] us->∃u,us=[u]/\RelV x u
 |_,_,.cons r .nil=>⟨_,rfl,r⟩
theorem Vals.eraseIdx:∀{xs:List V} {us:List Value} (i:Nat),Vals xs us->Vals (xs.eraseIdx i) (us.eraseIdx i)
 |_,_,_,.nil=>.nil
 |_,_,0,.cons _ t=>t
 |_,_,i+1,.cons r t=>.cons r (Vals.eraseIdx i t)
theorem Vals.rep{xs:List V}{us:List Value}(h:Vals xs us):∀k:Nat,Vals (aZ k xs).flatten (aZ k us).flatten
 |0=>.nil
 |k+1=>by
  rw[oR,oR,rA,rA]
  exact Vals.append h (Vals.rep h k)
theorem BM(its:List Value):∀(k:Nat)(acc:List Value),
 Gd (λx1 x2=>x1++x2) acc.toArray (aZ k its.toArray)=(acc++(aZ k its).flatten).toArray
 |0,acc=>by simp
 |k+1,acc=>by
  have e:acc.toArray++its.toArray=(acc++its).toArray:=by simp
  have e2:(acc++its)++(aZ k its).flatten=acc++(aZ (k+1) its).flatten:=by
   rw[oR,rA,dG]
  rw[<-e2,<-BM its k (acc++its),<-e,oR,lB]
section
variable{X:Cx}{pins:List (Addr×Obj)}{σ:St}{H:Hp}{s:Shared}{l b:Addr}{xs ys zs:List V}
theorem Inv.lset{its its':List Value}{n:Nat}{f:Array Value->Array Value}{t':Nat}(I:Inv X pins σ H s)(hH:H l=some (.lst xs))
 (e:s.heap.get? l=some {cls:=.type "list", data:=.seq its.toArray n}) (hf:f its.toArray=its'.toArray) (hv:Vals ys its') (hz:ys.length<=sizeLine) :
 Inv X pins σ (upd H l (.lst ys)) {s with heap:=s.heap.update l (Obj.mapSeq f),toks:=t' }:=by
 have q:=PySem.IsL.update e f
 rw[hf]at q
 refine I.write (x:=l) (e:=l) (by rw[hH];exact trivial) (.inl rfl) (λb' u hb hu=>(Heap.get?_update_other s.heap (Obj.mapSeq f) (Ne.symm hb)).trans hu) ⟨_,q⟩ ?_
 exact⟨hz,its',_,hv,q⟩
theorem Inv.lnew{its:List Value}{t':Nat}(I:Inv X pins σ H s)(hv:Vals ys its)(hz:ys.length<=sizeLine) :
 Inv X pins σ (upd H s.heap.objs.size (.lst ys)) {s with heap:=s.heap.push {cls:=.type "list", data:=.seq its.toArray},toks:=t' }:=
 I.laid (λ_ _ q=>Heap.get?_push_of_some _ q) (aN _) ⟨hz,its,0,hv,Heap.get?_push_size _ rfl⟩
theorem Inv.fresh(I:Inv X pins σ H s):H s.heap.objs.size=none:=I.hok.fresh (aN _)
theorem Inv.lstM (I:Inv X pins σ H s) (hH:H l=some (.lst xs)):xs.length<=sizeLine/\∃(its:List Value) (n:Nat),Vals xs its/\xs.length=its.length/\s.heap.get? l=some {cls:=.type "list", data:=.seq its.toArray n}:=by
 obtain⟨z,its,n,r,e⟩:=I.hok l _ hH
 exact⟨z,its,n,r,r.length,e⟩
theorem Hw{n:Nat}(h:n<=sizeLine):Builtin.List.listTooLong n=false:=by
 unfold Builtin.List.listTooLong
 exact decide_eq_false (by lia)
end
section
variable{X:Cx}
noncomputable def Hx:V->List V->Hp->VK->Prop:=λx vs H Q=>∃l xs y,x=.ref l/\vs=[y]/\H l=some (.lst xs)/\xs.length<sizeLine/\Q .non (upd H l (.lst (xs++[y])))
theorem vI:MtM X "list.append" Hx:=by
 intro pins s σ H x vs v us Q I rx rv h
 obtain⟨l,xs,y,rfl,rfl,hH,hz,q⟩:=h
 cases rx
 obtain⟨u,rfl,ru⟩:=rv.one
 obtain⟨z,its,n,r,hl,e⟩:=I.lstM hH
 refine call_meets F.slot_list_append ⟨_,e,rfl⟩ F.entry_list_append (F.args_list_append_2 _ _) (PySem.list_append l its.toArray n u (by rw[bQ];lia)) ⟨e,?_⟩
 refine⟨.non,_,I.lset (its':=its++[u]) hH e (by simp) (r.append (.cons ru .nil)) ?_,rfl,q⟩
 rw[cP,iQ]
 lia
noncomputable def Hy:V->List V->Hp->VK->Prop:=λx vs H Q=>∃l b xs zs,x=.ref l/\vs=[.ref b]/\H l=some (.lst xs)/\H b=some (.lst zs)/\xs.length+zs.length<=sizeLine/\Q .non (upd H l (.lst (xs++zs)))
theorem Hz:MtM X "list.extend" Hy:=by
 intro pins s σ H x vs v us Q I rx rv h
 obtain⟨l,b,xs,zs,rfl,rfl,hH,hB,hz,q⟩:=h
 cases rx
 obtain⟨u,rfl,ru⟩:=rv.one
 cases ru
 obtain⟨z,its,n,r,hl,e⟩:=I.lstM hH
 obtain⟨z2,its2,n2,r2,hl2,e2⟩:=I.lstM hB
 have hsz:its.toArray.size+its2.toArray.size<=sizeLine:=by rw[bQ,bQ];lia
 have hlong:¬(!its.toArray.isEmpty&&Builtin.List.listTooLong (its.toArray.size+its2.toArray.size))=true:=by
  rw[Hw hsz,O9]
  exact bR
 refine call_meets F.slot_list_extend ⟨_,e,rfl⟩ F.entry_list_extend (F.args_list_extend_2 _ _)
  (AutoSeq1.list_extend_list_list_0 l its.toArray n b its2.toArray n2 hlong (by rw[bQ];lia) (by lia)) ⟨e,e2,?_⟩
 refine⟨.non,_,I.lset (its':=its++its2) hH e (by simp) (r.append r2) ?_,rfl,q⟩
 rw[cP]
 lia
theorem IB{α:Type}(xs:List α)(k:Nat):(aZ k xs).flatten.length=k*xs.length:=by
 induction k with
 |zero=>simp
 |succ k ih=>rw[oR,rA,cP,ih,A8,Nat.add_comm]
end
end L2
namespace Att
open PySem PySem.W PySem.Calls PyProof.Rows
theorem IC{P:Params}{h:Heap}:∀(ns:List Int)(vs:List Value),WellAll P h vs (ns.map WData.int)->IntsAre vs ns:=by
 intro ns
 induction ns with
 |nil=>
  intro vs w
  rw[dQ]at w
  cases w
  exact .nil
 |cons n ns ih=>
  intro vs w
  rw[aG]at w
  cases w with
  |cons a b=>
   cases a
   exact .cons _ _ (ih _ b)
theorem ID{l:OpenLaw}{n:Nat}(hn:l.most=some n){P:Params}{h:Heap}{args:List WData}{vals:List Value}
 (hpre:l.row.toRowW.claim.pre args=true) (hwl:WellAll P h vals args) :
 ∃a vs ns,vals=[Value.ref a]/\args=[WData.list (ns.map WData.int)]/\h.get? a=some {cls:=.type "list", data:=.seq vs.toArray}/\IntsAre vs ns/\ns.length<=n:=by
 have hsh:WShape.hasAll [] args [.list .int]=true:=(pre_splitW hpre).1
 have hc:l.pre.holds [] {args:=args}=true:=(pre_splitW hpre).2
 obtain⟨d,r,rfl,h1,h2⟩:=hasAllW_cons hsh
 obtain rfl:=hasAllW_nil h2
 obtain⟨xs,rfl,h3⟩:=hasW_list h1
 obtain⟨ns,rfl⟩:=items_int h3
 have hlen:ns.length<=n:=by
  unfold OpenLaw.pre at hc
  have h4:(WTm.not (.lt (.lit (.int (n:Int))) (.len (.arg 0)))).holds [] {args:=[.list (ns.map .int)] }=true:=by
   have h4:=(holds_andW hc).1
   rw[hn]at h4
   exact h4
  have h5:=condW_of h4 (w_not (w_lt w_lit (w_len_list (w_arg rfl))))
  rw[aD]at h5
  refine Nat.le_of_not_lt λq=>?_
  have q':(n:Int)<((ns.length:Nat):Int):=by lia
  first
   |(rw[decide_eq_true q']at h5;exact absurd h5 (by decide))
   |(simp at h5;lia)
 cases hwl with
 |cons w1 w2=>
  cases w2
  cases w1 with
  |list ho hall=>exact⟨_,_,ns,rfl,rfl,ho,IC ns _ hall,hlen⟩
theorem IE(l:OpenLaw)(args:List WData):l.row.toRowW.claim.post args (.bool true) args=true:=
 postW_of (r:=l.row.toRowW) (X:=(true==true))
  (show WShape.has [] (.bool true) .bool=true by first|rfl|decide|simp[WShape.has,WShape.arms,WShape.armsAll])
  (show(WTm.eq .res (.lit (.bool true))).value [] {args:=args,res:=some (.bool true),after:=args}=some (.bool (true==true))from w_eq_bool (w_res rfl) w_lit) rfl
theorem attach_call{l:OpenLaw}{n:Nat}{q:Program}{loose:List Str}{XP:(Str->Option Value)->Heap->Prop}{YP:World->Heap->Prop}{d:DefRec}
 (hn:l.most=some n) (hdf:d.params.defaults=[])
 (call:∀(w:World)(sy su:Shared)(mg mb:Str->Option Value)(fa:Addr)(o:Obj)(pm cd doc:Value)(a:Addr)(vs:List Value)(ns:List Int),
  Ground q loose [] XP w sy mg mb su.heap->YP w su.heap ->
  su.heap.get? fa=some o->o.data=.func (docDef d.name d.params d.body d.scope pm cd doc)->su.heap.CodeRec cd d.name->mg d.name=some (.ref fa) ->
  su.heap.get? a=some {cls:=.type "list", data:=.seq vs.toArray}->IntsAre vs ns->ns.length<=n->su.gens=#[] ->
  codeAny (model l.prog w) callerA (.call (.ref fa) ⟨[.ref a],[]⟩) (λr s'=>r=.ok (.ret (.bool true))/\OldK su.heap s'.heap/\s'.os=su.os/\AllBare s'.gens) su) :
 WalkO q loose XP YP l.row.toRowW d [] (λf vs=>PySem.call f vs):=by
 intro w sy su mg mb G Y fa o pm cd doc dV kV ho hd hcd hD hmg hg args vals as hpre hlay hrd hwl hlo
 obtain rfl:dV=.none:=Dflts.none hD hdf
 obtain rfl:kV=.none:=Dflts.noKw hD
 obtain⟨a,vs,ns,rfl,rfl,hobj,hints,hlen⟩:=ID hn hpre hwl
 refine enter_call (codeAny_mono (call w sy su mg mb fa o pm cd doc a vs ns G Y ho (fd_plain hd) hcd hmg hobj hints hlen hg) λr s' hq=>?_)
 obtain⟨rfl,h2,h3,h4⟩:=hq
 exact⟨.inl ⟨.bool true,.bool true,[],rfl,λ_=>rfl,.bool true,IE l _,λ_=>⟨rC.nil,λ_ hm=>(nomatch hm)⟩⟩,h2,h3,h4⟩
end Att
namespace L2
open PySem PySem.Spec PyProof.Rows
theorem BN:∀{vs:List Value} {ns:List Int},IntsAre vs ns->Vals (ns.map V.int) vs
 |_,_,.nil=>.nil
 |_,_,.cons n t h=>.cons ⟨t,rfl⟩ (BN h)
noncomputable def Only(H:Hp):Prop:=∀b,H b=none\/∃o xs,H b=some (.frz o (.lst xs))
theorem IF{P:Program}{w:World}{K:PySem.W.Frag}{mg mb:Str->Option Value}{CX:CXT}{k:Nat}{fa a:Addr}{fd:FuncData}{x:Str}{sp:Sp}{su:Shared}{vs:List Value}{ns:List Int}
 (KX:K.In su.heap) (hns:su.heap.Ns mainGlobals mg) (hb:su.heap.Ns builtinsNs mb) (hbb:∀x:Str,x ≠ "__name__" -> mb x=bootBuiltins x) (hlim:su.heap.NoLimit) (hg:su.gens=#[])
 (ha:su.heap.get? a=some {cls:=.type "list", data:=.seq vs.toArray}) (hi:IntsAre vs ns) (hl:ns.length<=sizeLine) (hr:Room k callerA)
 (F:∀base:Heap,K.In base->base.Ns mainGlobals mg->FnOk P w K mg base CX k fa fd [x] sp) (hbind:∀(s:Shared)(u:Value),BindsTo s fd ⟨[u],[]⟩ [(x,u)])
 (hsp:∀H:Hp,Only H->SqL K H a (ns.map V.int)->sp [.ref a] H (λv _=>v=.bl true) λ_ _ _=>False)
 (hCX:∀H e s',CX [] H su (λ_ _ _=>False) e s'->False) :
 codeAny (model P w) callerA (.call (.ref fa) ⟨[.ref a],[]⟩) (λr s'=>r=.ok (.ret (.bool true))/\OldK su.heap s'.heap/\s'.os=su.os/\AllBare s'.gens) su:=by
 have rv:=BN hi
 have lenV:=hi.length
 have core:∀H:Hp,Only H->SqL K H a (ns.map V.int)->HOk P w H su.heap->(∀b,H b≠none->b=a)->(H a≠none->K.lookup a=none) ->
  codeAny (model P w) callerA (.call (.ref fa) ⟨[.ref a],[]⟩) (λr s'=>r=.ok (.ret (.bool true))/\OldK su.heap s'.heap/\s'.os=su.os/\AllBare s'.gens) su:=by
  intro H hO hS hok hA hK
  have base_of:∀{b:Addr} {o:Obj},su.heap.get? b=some o->H b=none->(jK su.heap H).get? b=some o:=λe n=>HB e n
  have noA:∀{b:Addr} {o:Obj} {es:Array DictEntry} {ep:Nat},su.heap.get? b=some o->o.data=.dict es ep->H b=none:=λ{b o es ep} e d=>by
   cases q:H b with
   |none=>rfl
   |some u=>
    have e':b=a:=hA b (by rw[q];simp)
    subst e'
    rw[ha]at e;cases e
    have d':Data.seq vs.toArray _=Data.dict es ep:=d
    cases d'
  have nsK:∀{b:Addr} {m:Str->Option Value},su.heap.Ns b m->(jK su.heap H).Ns b m:=λ{b m} ⟨o,es,ep,e,d,r⟩=>⟨o,es,ep,base_of e (noA e d),d,r⟩
  have hKb:K.In (jK su.heap H):=λb o e=>base_of (KX b o e) (by
   cases q:H b with
   |none=>rfl
   |some u=>
    have e':b=a:=hA b (by rw[q];simp)
    subst e'
    rw[hK (by rw[q];simp)]at e;cases e)
  have hM:Mod K mg (jK su.heap H):=⟨hKb,nsK hns,⟨mb,nsK hb,hbb⟩,let ⟨mc,h1,h2⟩:=hlim;⟨mc,nsK h1,h2⟩⟩
  have e0:Env0 P w K mg (jK su.heap H) callerA [] su H:=⟨rfl,hM,λb o e=>HC e,Ge (HA _ _),trivial,λb hb=>absurd (show b∈([]:List Addr)from hb) (by simp),hok,.of_eq hg⟩
  refine codeAny_mono ((F _ hKb (nsK hns)).run callerA [] su H ⟨[.ref a],[]⟩ [.ref a] [.ref a] _ _ hr e0 (hbind su (.ref a)) (.cons rfl .nil) (hsp H hO hS)) λr s' h=>?_
  cases r with
  |error e=>exact(hCX H e s' h).elim
  |ok fl=>
   cases fl with
   |next=>exact False.elim h
   |brk=>exact False.elim h
   |cont=>exact False.elim h
   |ret u=>
    obtain⟨v,H',os,bare,un,hok',r',q⟩:=h
    have q':v=.bl true:=q
    subst q'
    obtain rfl:u=Value.bool true:=r'
    refine⟨rfl,OldK.of_keep λb o e=>?_,os,bare⟩
    cases q:H b with
    |none=>exact un.keep b o e q (by intro z;exact absurd (show b∈([]:List Addr)from z) (by simp)) (by simp)
    |some u=>
     rcases hO b with z|⟨ob,xs,z⟩
     ·rw[q]at z;cases z
     ·have z2:=un.frzs b ob _ z
      obtain⟨e1,_⟩:=hok b _ z
      obtain⟨e2,_⟩:=hok' b _ z2
      rw[e]at e1;cases e1
      exact e2
 cases hk:K.lookup a with
 |some o=>
  have e:=KX a o hk
  rw[ha]at e
  cases e
  refine core (λ_=>none) (λ_=>.inl rfl) (.inr ⟨_,vs.toArray,_,hk,rfl,rfl,rfl,by rw[bQ,lenV];exact hl,by simpa using rv⟩) (λb u z=>by have z':(none:Option HO)=some u:=z;cases z') (λb z=>absurd rfl z) λz=>absurd rfl z
 |none=>
  refine core (λb=>if b=a then some (.frz {cls:=.type "list", data:=.seq vs.toArray} (.lst (ns.map V.int)))else none) (λb=>?_) (.inl (.inr ⟨{cls:=.type "list", data:=.seq vs.toArray},if_pos rfl⟩)) (λb u z=>?_) (λb z=>?_) λ_=>hk
  ·by_cases hb:b=a
   ·exact .inr ⟨_,_,if_pos hb⟩
   ·exact .inl (if_neg hb)
  ·by_cases hb:b=a
   ·have z':=(if_pos hb).symm.trans z
    cases z'
    subst hb
    exact⟨ha,by rw[aD];exact hl,vs,_,rv,ha⟩
   ·have z':=(if_neg hb).symm.trans z
    cases z'
  ·by_cases hb:b=a
   ·exact hb
   ·exact absurd (if_neg hb) z
theorem IG{l:PySem.W.OpenLaw}{n k:Nat}{q:Program}{loose:List Str}{XP:(Str->Option Value)->Heap->Prop}{YP:World->Heap->Prop}{d:DefRec}{K:Params->PySem.W.Frag}{CX:World->CXT}{sp:World->Sp}{x:Str}
 (hn:l.most=some n) (hn2:n<=sizeLine) (hdf:d.params.defaults=[]) (hr:Room k callerA)
 (hY:∀(w:World)(h:Heap),YP w h->(K w.params).In h)
 (F:∀(w:World)(mg:Str->Option Value)(fa:Addr)(h:Heap),(K w.params).In h->h.Ns mainGlobals mg->mg d.name=some (.ref fa) ->
  ∃fd:FuncData,(∀(s:Shared)(u:Value),BindsTo s fd ⟨[u],[]⟩ [(x,u)]) /\
   ∀base:Heap,(K w.params).In base->base.Ns mainGlobals mg->FnOk l.prog w (K w.params) mg base (CX w) k fa fd [x] (sp w))
 (hsp:∀(w:World)(H:Hp)(a:Addr)(ns:List Int),ns.length<=n->Only H->SqL (K w.params) H a (ns.map V.int)->sp w [.ref a] H (λv _=>v=.bl true) λ_ _ _=>False)
 (hCX:∀(w:World)(H:Hp)(s:Shared)(e:Value)(s':Shared),CX w [] H s (λ_ _ _=>False) e s'->False) :
 PySem.W.WalkO q loose XP YP l.row.toRowW d [] (λf vs=>PySem.call f vs):=by
 refine Att.attach_call hn hdf λw sy su mg mb fa o pm cd doc a vs ns G Y ho hd hcd hmg hobj hints hlen hg=>?_
 have KX:=hY w _ Y
 obtain⟨fd,hb,hF⟩:=F w mg fa _ KX G.T.g hmg
 exact IF KX G.T.g G.T.b G.T.builtins G.T.nolimit hg hobj hints (eQ hlen hn2) hr hF hb (λH hO hS=>hsp w H a ns hlen hO hS) λH e s'=>hCX w H su e s'
variable{H:Hp}
noncomputable def lK(s:Stmt):Arguments:=match s with
 |.FunctionDef _ a _ _ _ _ _ _ _ _=>a
 |_=>{posonlyargs:=[],args:=[],vararg:=none,kwonlyargs:=[],kw_defaults:=[],kwarg:=none,defaults:=[] }
noncomputable def fZ(s:Stmt):List Stmt:=match s with
 |.FunctionDef _ _ b _ _ _ _ _ _ _=>b
 |_=>[]
noncomputable def dX(s:Stmt):Scope:=match s with
 |.FunctionDef _ _ _ _ _ _ sc _ _ _=>sc
 |_=>{kind:=.function,names:=[],isGenerator:=false,isCoroutine:=false}
noncomputable abbrev E0:XK:=λ_ _ _=>False
set_option genInjectivity false in
structure Fun(K:PySem.W.Frag)(x qual:Str)(st:Stmt)(f:Addr)(fd:FuncData):Prop where
 ex:∃(oc:Value)(od:Option Addr)(kV doc pm:Value)(an:Option Addr)(cdv ct:Value)(osl:Array (Option Value)),
  fd=PySem.W.fnOf x qual (lK st) (fZ st) (dX st) .none kV doc pm an cdv ct/\K.lookup f=some ⟨oc,od,.func fd,osl⟩/\PySem.W.codeIn K cdv qual=true
 kp:PySem.W.keepIn K (.ref f)=true
section
variable{P:Program}{w:World}{K:PySem.W.Frag}{mg:Str->Option Value}{base:Heap}
theorem Fun.binds{x qual:Str}{st:Stmt}{f:Addr}{fd:FuncData}{ps:List Str}(F:Fun K x qual st f fd)
 (h:∀(kV doc pm:Value)(an:Option Addr)(cdv ct:Value)(us:List Value),us.length=ps.length->bindArgs (PySem.W.fnOf x qual (lK st) (fZ st) (dX st) .none kV doc pm an cdv ct) ⟨us,[]⟩=pure (ps.zip us)):Binds K fd ps []:=by
 obtain⟨oc,od,kV,doc,pm,an,cdv,ct,osl,rfl,lk,hcd⟩:=F.ex
 exact .all (h kV doc pm an cdv ct)
theorem BO{x qual:Str}{st:Stmt}{f:Addr}{oc:Value}{od an:Option Addr}{osl:Array (Option Value)}{kV doc pm cdv ct:Value}(l:K.lookup f=some ⟨oc,od,.func (PySem.W.fnOf x qual (lK st) (fZ st) (dX st) .none kV doc pm an cdv ct),osl⟩)
 (c:PySem.W.codeIn K cdv qual=true) (k:PySem.W.keepIn K (.ref f)=true):Fun K x qual st f (PySem.W.fnOf x qual (lK st) (fZ st) (dX st) .none kV doc pm an cdv ct):=⟨⟨oc,od,kV,doc,pm,an,cdv,ct,osl,rfl,l,c⟩,k⟩
end
theorem IH{n:Nat}(h:n<=1000):n<sizeLine:=O_ h (by decide)
noncomputable def Same(H H':Hp):Prop:=∀b o,H b=some o->H' b=some o
theorem Same.refl(H:Hp):Same H H:=λ_ _ h=>h
theorem Same.trans{H1 H2:Hp}(a:Same H H1)(b:Same H1 H2):Same H H2:=λc o h=>b c o (a c o h)
theorem Same.free{H':Hp}(e:Same H H'){l:Addr}(h:H' l=Option.none):H l=Option.none:=by
 cases q:H l with
 |none=>rfl
 |some o=>
  rw[e l o q]at h
  cases h
end L2
set_option maxRecDepth 100000
namespace L2
open PySem PySem.Spec PyProof.Rows
variable{H:Hp}{xs:List (List Key×Addr×Value)}{kvs:List (List Key×V)}
section
variable{κ:Type}[DecidableEq κ]
noncomputable def lL(kvs:List (κ×V))(k:κ):Option V:=(kvs.find? λkv=>decide (kv.1=k)).map (·.2)
theorem BP{p:κ×V}{r:List (κ×V)}{k:κ}(e:p.1=k):lL (p::r) k=some p.2:=by simp[lL,rD,e]
theorem BQ{p:κ×V}{r:List (κ×V)}{k:κ}(e:¬p.1=k):lL (p::r) k=lL r k:=by simp[lL,rD,e]
theorem KV.val{kvs:List (κ×V)}{vs:List (κ×Value)}(r:KV kvs vs)(k:κ):rM (lL kvs k) (valueAt vs k):=by
 unfold KV at r
 induction r with
 |nil=>exact True.intro
 | @cons p q ps qs h t ih=>
  obtain⟨h1,h2⟩:=h
  by_cases e:p.1=k
  ·have e':q.1=k:=h1.symm.trans e
   have b:valueAt (q::qs) k=some q.2:=by simp[valueAt,rD,e']
   rw[BP e,b];exact h2
  ·have e':¬q.1=k:=λz=>e (h1.trans z)
   have b:valueAt (q::qs) k=valueAt qs k:=by simp[valueAt,rD,e']
   rw[BQ e,b];exact ih
theorem KV.length{kvs:List (κ×V)}{vs:List (κ×Value)}(r:KV kvs vs):kvs.length=vs.length:=Paired.length r
end
noncomputable abbrev KT(H:Hp):List (List Key×V)->List (List Key×Addr×Value)->Prop:=Paired λp q=>p.1=q.1/\H q.2.1=some (.tup (p.1.map kV))/\RelV p.2 q.2.2
theorem KT.val(r:KT H kvs xs)(k:List Key):rM (lL kvs k) ((atKey xs k).map (·.2)):=by
 induction r with
 |nil=>exact True.intro
 | @cons p q ps qs h t ih=>
  obtain⟨h1,_,h2⟩:=h
  by_cases e:p.1=k
  ·have e':q.1=k:=h1.symm.trans e
   have b:atKey (q::qs) k=some q.2:=by simp[atKey,rD,e']
   rw[BP e,b];exact h2
  ·have e':¬q.1=k:=λz=>e (h1.trans z)
   have b:atKey (q::qs) k=atKey qs k:=by simp[atKey,rD,e']
   rw[BQ e,b];exact ih
theorem KT.keeps{H':Hp}(r:KT H kvs xs)(ht:∀b ys,H b=some (.tup ys)->H' b=some (.tup ys)):KT H' kvs xs:=
 Paired.mapP r λ_ _ z=>⟨z.1,ht _ _ z.2.1,z.2.2⟩
section
variable{P:Program}{w:World}{H:Hp}{h:Heap}{a:Addr}
end
section
variable{X:Cx}{pins:List (Addr×Obj)}{σ:St}{H:Hp}{s:Shared}{a:Addr}{y v:V}{u r:Value}{o:Option V}{A:Around}{E:Value->Shared->Prop}
end
section
variable{X:Cx}{pins:List (Addr×Obj)}{σ:St}{H:Hp}{s:Shared}{a:Addr}{kvs:List (Key×V)}{k:Key}{u:Value}{A:Around}{E:Value->Shared->Prop}
end
section
variable{X:Cx}{o i e value:Expr}{pos pos' tpos:Pos}{td ty tv:TE}
end
section
variable{X:Cx}{pos:Pos}
end
section
variable{X:Cx}{pins:List (Addr×Obj)}{σ:St}{H:Hp}{s:Shared}{a:Addr}{y d:V}{u r:Value}{o:Option V}{A:Around}{E:Value->Shared->Prop}
end
section
variable{X:Cx}{o e f:Expr}{apos cpos:Pos}{td ty tx:TE}
end
end L2
namespace Tr
open PySem
set_option genSizeOf true in
set_option genSizeOfSpec true in
inductive D where
 |non|bl (b:Bool)|int (i:Int)|str (x:Str)|tup (ds:List D)|lst (ds:List D)
 deriving Inhabited
inductive Res(α:Type) where
 |ok (a:α)|err (c:Str) (d:D)|no
 deriving Inhabited
namespace Res
@[reducible] noncomputable def bind{α β:Type}(x:Res α)(f:α->Res β):Res β:=match x with | .ok a=>f a | .err c d=>.err c d | .no=>.no
noncomputable instance:Monad Res where
 pure:=.ok
 bind:=bind
@[simp] theorem ok_bind{α β:Type}(a:α)(f:α->Res β):(Res.ok a>>=f)=f a:=id rfl
@[simp] theorem no_bind{α β:Type}(f:α->Res β):((Res.no:Res α)>>=f)=.no:=id rfl
theorem bind_ok{α β:Type}{x:Res α}{f:α->Res β}{b:β}(h:(x>>=f)=.ok b):∃a,x=.ok a/\f a=.ok b:=by
 cases x with
 |ok a=>exact⟨a,rfl,h⟩
 |err c d=>cases h
 |no=>cases h
end Res
noncomputable def aC{α:Type}(c:Bool)(r:Res α):Res α:=if c then r else .no
theorem bO{α:Type}{c:Bool}{r:Res α}{a:α}(h:aC c r=.ok a):c=true/\r=.ok a:=by
 unfold aC at h
 split at h
 ·exact⟨by assumption,h⟩
 ·cases h
theorem bW{α:Type}{c:Bool}(h:c=true)(r:Res α):aC c r=r:=by subst h;rfl
noncomputable def b2z(b:Bool):Int:=if b then 1 else 0
mutual
noncomputable def D.eqb:D->D->Bool
 |.non,.non=>true
 |.bl a,.bl b=>a==b
 |.bl a,.int j=>b2z a==j
 |.int i,.bl b=>i==b2z b
 |.int i,.int j=>i==j
 |.str x,.str y=>x==y
 |.tup a,.tup b=>D.eqs a b
 |.lst a,.lst b=>D.eqs a b
 |_,_=>false
noncomputable def D.eqs:List D->List D->Bool
 |[],[]=>true
 |a::r,b::q=>D.eqb a b&&D.eqs r q
 |_,_=>false
end
mutual
noncomputable def D.pl:Nat->D->Bool
 |n,.tup a=>D.pls n a
 |n,.lst a=>D.pls n a
 |_,_=>true
noncomputable def D.pls:Nat->List D->Bool
 |_,[]=>true
 |0,_::_=>false
 |n+1,a::r=>D.pl n a&&D.pls (n+1) r
end
mutual
noncomputable def D.flat:D->Bool
 |.lst _=>false
 |.tup a=>D.flats a
 |_=>true
noncomputable def D.flats:List D->Bool
 |[]=>true
 |a::r=>D.flat a&&D.flats r
end
theorem rS{a b:List D}:D.eqb (.tup a) (.tup b)=D.eqs a b:=rfl
theorem rT{a b:List D}:D.eqb (.lst a) (.lst b)=D.eqs a b:=rfl
theorem vJ{a b:D}{r q:List D}:D.eqs (a::r) (b::q)=(D.eqb a b&&D.eqs r q):=rfl
theorem vK{n:Nat}{a:D}{r:List D}:D.pls (n+1) (a::r)=(D.pl n a&&D.pls (n+1) r):=rfl
mutual
theorem D.eqb_refl:∀(n:Nat)(d:D),D.pl n d=true->D.eqb d d=true
 |_,.non,_=>rfl
 |_,.bl a,_=>by show(a==a)=true;simp
 |_,.int i,_=>by show(i==i)=true;simp
 |_,.str x,_=>by show(x==x)=true;simp
 |n,.tup a,h=>by rw[rS];exact D.eqs_refl n a h
 |n,.lst a,h=>by rw[rT];exact D.eqs_refl n a h
theorem D.eqs_refl:∀(n:Nat)(a:List D),D.pls n a=true->D.eqs a a=true
 |_,[],_=>rfl
 |0,a::r,h=>by cases h
 |n+1,a::r,h=>by
  rw[vK,aM]at h
  rw[vJ,D.eqb_refl n a h.1,D.eqs_refl (n+1) r h.2];rfl
end
noncomputable def big:Nat:=16777216
noncomputable def sIx(n d:Nat):Option Int->Nat
 |none=>d
 |some v=>if v<0 then(v+(n:Int)).toNat else min v.toNat n
noncomputable def cut{α:Type}(xs:List α)(lo hi:Option Int):List α:=(xs.drop (sIx xs.length 0 lo)).take (sIx xs.length xs.length hi-sIx xs.length 0 lo)
noncomputable def ixN(n:Nat)(i:Int):Option Nat:=if 0<=i then(if i<n then some i.toNat else none)else if -(n:Int)<=i then some (i+n).toNat else none
noncomputable def atI{α:Type}(xs:List α)(i:Int):Option α:=(ixN xs.length i).bind λj=>xs[j]?
noncomputable def eH(i:Int):Bool:=decide (-(2^64)<i)&&decide (i<2^64)
noncomputable def D.bin:Operator->D->D->Res D
 |.Add,.int i,.int j=>.ok (.int (i+j))
 |.Add,.str x,.str y=>aC (decide (x.length+y.length<=big)) (.ok (.str (x++y)))
 |.Add,.lst a,.lst b=>aC (decide (a.length+b.length<=big)) (.ok (.lst (a++b)))
 |.Add,.tup a,.tup b=>aC (decide (a.length+b.length<=big)) (.ok (.tup (a++b)))
 |.Sub,.int i,.int j=>.ok (.int (i-j))
 |.Mult,.int i,.int j=>aC (eH i||eH j) (.ok (.int (i*j)))
 |.Mult,.lst a,.int j=>aC (decide (a.length=1)&&decide (0<=j)&&decide (j<=1000)) (.ok (.lst (aZ j.toNat a).flatten))
 |.FloorDiv,.int i,.int j=>aC (decide (0<j)&&decide (j<1073741824)) (.ok (.int (i/j)))
 |.Mod,.int i,.int j=>aC (decide (0<j)) (.ok (.int (i%j)))
 |.Pow,.int i,.int j=>aC (decide (0<=j)&&decide (j<=1000000)&&decide (i.natAbs<2^64)) (.ok (.int (i^j.toNat)))
 |_,_,_=>.no
noncomputable def cH(c:Nat):Str:=⟨#[c]⟩
noncomputable def jM(x:Str)(lo hi:Option Int):Str:=⟨(cut x.cps.toList lo hi).toArray⟩
noncomputable def cM(c:Nat):List Nat->List (List Nat)
 |[]=>[[]]
 |x::r=>if x=c then []::cM c r else match cM c r with
  |h::t=>(x::h)::t
  |[]=>[[x]]
noncomputable def cT(x:Str)(c:Nat):List Str:=(cM c x.cps.toList).map λl=>⟨l.toArray⟩
noncomputable def dH(g:List Nat):List (List Nat)->List Nat
 |[]=>[]
 |[a]=>a
 |a::b::r=>a++g++dH g (b::r)
noncomputable def iU(g:Str)(xs:List Str):Str:=⟨(dH g.cps.toList (xs.map λx=>x.cps.toList)).toArray⟩
noncomputable def lM(cs:List Nat):Nat:=cs.foldl (λacc c=>acc*10+(c-48)) 0
noncomputable def mY(cs:List Nat):Bool:=!cs.isEmpty&&cs.all λc=>decide (48<=c)&&decide (c<=57)
noncomputable def iV:List D->Res (List Str)
 |[]=>.ok []
 |.str x::r=>do let q<-iV r;.ok (x::q)
 |_::_=>.no
noncomputable def gK:List D->Res (List Bool)
 |[]=>.ok []
 |.bl x::r=>do let q<-gK r;.ok (x::q)
 |_::_=>.no
noncomputable def vN(x y:Str):Res Bool:=match x.cps.toList with
 |[c]=>.ok (decide (c∈y.cps.toList))
 |_=>.no
noncomputable def keyOf:D->Option (Sum Int Str)
 |.int i=>some (.inl i)
 |.str x=>some (.inr x)
 |_=>none
noncomputable def keyD:Sum Int Str->D
 |.inl i=>.int i
 |.inr x=>.str x
noncomputable def Res.of{α:Type}:Option α->Res α
 |some a=>.ok a
 |none=>.no
noncomputable def D.isNon:D->Bool
 |.non=>true
 |_=>false
noncomputable def D.eqOk(a b:D):Bool:=D.pl 30 a&&D.pl 30 b
noncomputable def D.mem(x:D):List D->Bool
 |[]=>false
 |y::r=>D.eqb y x||D.mem x r
noncomputable def D.inn(x:D):D->Res Bool
 |.lst ds=>aC (D.pls 30 ds&&D.pl 29 x) (.ok (D.mem x ds))
 |.tup ds=>aC (D.pls 30 ds&&D.pl 29 x) (.ok (D.mem x ds))
 |.str y=>match x with
  |.str z=>vN z y
  |_=>.no
 |_=>.no
noncomputable def D.cmp:CmpOp->D->D->Res D
 |.Eq,a,b=>aC (D.eqOk a b) (.ok (.bl (D.eqb a b)))
 |.NotEq,a,b=>aC (D.eqOk a b) (.ok (.bl (!D.eqb a b)))
 |.Lt,.int i,.int j=>.ok (.bl (decide (i<j)))
 |.LtE,.int i,.int j=>.ok (.bl (decide (i<=j)))
 |.Gt,.int i,.int j=>.ok (.bl (decide (j<i)))
 |.GtE,.int i,.int j=>.ok (.bl (decide (j<=i)))
 |.Is,a,.non=>.ok (.bl a.isNon)
 |.IsNot,a,.non=>.ok (.bl (!a.isNon))
 |.Is,.bl a,.bl b=>.ok (.bl (a==b))
 |.IsNot,.bl a,.bl b=>.ok (.bl (a != b))
 |.In,a,b=>do let k<-D.inn a b;.ok (.bl k)
 |.NotIn,a,b=>do let k<-D.inn a b;.ok (.bl (!k))
 |_,_,_=>.no
noncomputable def D.truth:D->Res Bool
 |.non=>.ok false
 |.bl b=>.ok b
 |.int i=>.ok (i != 0)
 |.str x=>aC (decide (x.length<=big)) (.ok ((x.length:Int) != 0))
 |.tup a=>.ok (!a.isEmpty)
 |.lst a=>.ok (!a.isEmpty)
noncomputable def D.ix:D->D->Res D
 |.lst a,.int i=>Res.of (atI a i)
 |.tup a,.int i=>Res.of (atI a i)
 |.str x,.int i=>aC (decide (x.length<=big)) (Res.of ((atI x.cps.toList i).map λc=>.str ⟨#[c]⟩))
 |_,_=>.no
noncomputable def D.part:D->Res (Option Int)
 |.non=>.ok none
 |.int i=>.ok (some i)
 |_=>.no
noncomputable def D.sl:D->Option Int->Option Int->Res D
 |.lst a,lo,hi=>.ok (.lst (cut a lo hi))
 |.tup a,lo,hi=>.ok (.tup (cut a lo hi))
 |.str x,lo,hi=>aC (decide (x.length<=big)) (.ok (.str (jM x lo hi)))
 |_,_,_=>.no
noncomputable def D.items:D->Res (List D)
 |.lst a=>.ok a
 |.tup a=>.ok a
 |.str x=>.ok (x.cps.toList.map λc=>.str (cH c))
 |_=>.no
noncomputable def gP:List D->Res (List Int)
 |[]=>.ok []
 |.int i::r=>do let q<-gP r;.ok (i::q)
 |_::_=>.no
noncomputable def cU(lo:Int):Nat->List D
 |0=>[]
 |n+1=>.int lo::cU (lo+1) n
noncomputable def bX(k:Int):List D->List D
 |[]=>[]
 |d::r=>.tup [.int k,d]::bX (k+1) r
noncomputable def eU(i:Int):Bool:=decide (-(2^62)<=i)&&decide (i<2^62)
inductive Ty where
 |int|bool|str|tuple|list
 deriving DecidableEq,Inhabited
noncomputable def D.isDct(_:D):Bool:=false
inductive Bt where
 |len|sum|tuple|int|str|all|any
 deriving DecidableEq,Inhabited
noncomputable def D.len:D->Res D
 |.lst a=>.ok (.int a.length)
 |.tup a=>.ok (.int a.length)
 |.str x=>aC (decide (x.length<=big)) (.ok (.int x.length))
 |_=>.no
noncomputable def D.sum:D->Res D
 |.lst a=>do let ns<-gP a;.ok (.int ns.sum)
 |_=>.no
noncomputable def D.tuple:D->Res D
 |.lst a=>.ok (.tup a)
 |.tup a=>.ok (.tup a)
 |_=>.no
noncomputable def D.list:D->Res D
 |.lst a=>.ok (.lst a)
 |.tup a=>.ok (.lst a)
 |_=>.no
noncomputable def D.toInt:D->Res D
 |.int i=>.ok (.int i)
 |.bl b=>.ok (.int (b2z b))
 |.str x=>aC (mY x.cps.toList&&decide (x.length<=640)) (.ok (.int (lM x.cps.toList)))
 |_=>.no
noncomputable def D.toStr:D->Res D
 |.int i=>aC (decide (i.natAbs.log2<1920)) (.ok (.str (Str.ofString (toString i))))
 |_=>.no
noncomputable def D.abs:D->Res D
 |.int i=>.ok (.int (if i<0 then -i else i))
 |_=>.no
noncomputable def D.all:D->Res D
 |.lst a=>do let q<-gK a;.ok (.bl (q.all id))
 |_=>.no
noncomputable def D.any:D->Res D
 |.lst a=>do let q<-gK a;.ok (.bl (q.any id))
 |_=>.no
noncomputable def Bt.one:Bt->D->Res D
 |.len=>D.len
 |.sum=>D.sum
 |.tuple=>D.tuple
 |.int=>D.toInt
 |.str=>D.toStr
 |.all=>D.all
 |.any=>D.any
noncomputable def Bt.two:Bt->D->D->Res D
 |_=>λ_ _=>.no
noncomputable def Bt.run(b:Bt):List D->Res D
 |[d]=>b.one d
 |[d,d']=>b.two d d'
 |_=>.no
noncomputable def rU:D->Res (List D)
 |.lst a=>.ok a.reverse
 |_=>.no
noncomputable def plD(x:D):List D->Nat
 |[]=>0
 |d::r=>if D.eqb d x then 0 else plD x r+1
inductive Mt where
 |split|join
 deriving DecidableEq,Inhabited
noncomputable def Mt.run:Mt->D->D->Res D
 |.split,.str x,.str y=>match y.cps.toList with
  |[c]=>aC (decide (x.length<big)&&decide (c<256)) (.ok (.lst ((cT x c).map D.str)))
  |_=>.no
 |.join,.str g,.lst ds=>do
  let xs<-iV ds
  aC (decide (g.length<=64)&&decide ((xs.map (·.length)).sum+xs.length*64<=big)) (.ok (.str (iU g xs)))
 |_,_,_=>.no
noncomputable def kI(fs:List Nat):D->Res Nat
 |.int i=>Res.of (atI fs i)
 |_=>.no
noncomputable def kJ(ss:List Str):D->Res D
 |.str z=>aC (ss.contains z) (.ok (.int (ss.idxOf z:Nat)))
 |_=>.no
noncomputable def gQ:List D->Res (List (Sum Int Str))
 |[]=>.ok []
 |d::r=>do let k<-Res.of (keyOf d);let q<-gQ r;.ok (k::q)
noncomputable def D.keys:D->Res (List (Sum Int Str))
 |.lst ds=>gQ ds
 |.tup ds=>gQ ds
 |.str x=>.ok (x.cps.toList.map λc=>.inr ⟨#[c]⟩)
 |_=>.no
noncomputable def iD(ks:List (Sum Int Str)):List (Sum Int Str):=ks.foldl (λacc k=>if acc.any (λx=>decide (x=k))then acc else acc++[k]) []
noncomputable def D.setN(x:D):Res D:=match x.keys with
 |.ok ks=>aC (decide (ks.length+1<4096)) (.ok (.int (iD ks).length))
 |_=>.no
noncomputable def eV:List Int->List Int->Bool
 |[],[]=>false
 |[],_::_=>true
 |_::_,[]=>false
 |a::x,b::y=>if a=b then eV x y else decide (a<b)
noncomputable def cO{α:Type}(lt:Nat->Nat->Bool):PySem.W.KasT α->α
 |.ret a=>a
 |.ask i j k=>cO lt (k (lt i j))
noncomputable def vO(kss:List (List Int)):List Nat:=(cO (λi j=>eV (kss.getD i []) (kss.getD j [])) (PySem.W.kas_sort kss.length)).toList
noncomputable def kK:List D->Res (List (List Int))
 |[]=>.ok []
 |.tup ks::r=>do let a<-gP ks;let q<-kK r;.ok (a::q)
 |_::_=>.no
noncomputable def dR(kss:List (List Int)):List Nat:=if kss.length<2 then aI kss.length else vO kss
noncomputable def oW:D->Res D
 |.lst ds=>do let kss<-kK ds;aC (kss.all (λk=>k.length==2)&&decide (ds.length<64)) (.ok (.lst ((dR kss).map λi=>ds.getD i .non)))
 |_=>.no
set_option genInjectivity false in
inductive G where
 |one (i:Nat)|many (is:List Nat)
 deriving Inhabited
set_option genInjectivity false in
inductive E where
 |var (i:Nat)|rd (i:Nat)|con (d:D)|glob (g:Nat)
 |bin (o:Operator) (a b:E)|cmp (o:CmpOp) (a b:E)|chain (o p:CmpOp) (a b c:E)
 |and (a b:E)|or (a b:E)|not (a:E)|ife (c a b:E)
 |ix (a b:E)|sl (a lo hi:E)|omit
 |tup (a:E)|lst (a:E)|anil|acons (a r:E)
 |call (f:Nat) (a:E)|bt (b:Bt) (a:E)
 |comp (own:Nat) (caps:List Nat) (g:G) (elt src cond:E)
 |seq (a:E)|rng (a:E)|rng2 (a b:E)|enum (a:E)
 |mth (m:Mt) (a b:E)
 |callT (fs:List Nat) (k a:E)|gidx (ss:List Str) (a:E)|lset (a:E)
 |seqD (a:E)|srtT (a:E)
 deriving Inhabited
set_option genInjectivity false in
inductive S where
 |nil|cons (a r:S)
 |ret (e:E)|retO (i:Nat)
 |asg (g:G) (e:E)|asgO (i:Nat) (e:E)|sealed (i:Nat)
 |ite (c:E) (a b:S)|forS (g:G) (src:E) (b:S)
 |app (i:Nat) (e:E)
 |ext (i:Nat) (e:E)
 |never
 |exp (e:E)
 |appR (i:Nat) (e:E)|remR (i:Nat) (e:E)|laid (f i j:Nat) (e:E)
 deriving Inhabited
inductive Sl where
 |no|v (d:D)|o (d:D)|t (ds:List D)|n (d:D)|r (a:Nat) (d:D)
 deriving Inhabited
noncomputable abbrev Nv:=List Sl
noncomputable def Nv.at(e:Nv)(i:Nat):Sl:=(e[i]?).getD .no
noncomputable def Sl.val:Sl->Res D
 |.v d=>.ok d
 |.n d=>.ok d
 |_=>.no
noncomputable def Sl.any:Sl->Res D
 |.v d=>.ok d
 |.n d=>.ok d
 |.o d=>.ok d
 |.r _ d=>.ok d
 |_=>.no
noncomputable def Sl.own:Sl->Res (List D)
 |.o (.lst a)=>.ok a
 |_=>.no
noncomputable def Sl.refL:Sl->Res (Nat×List D)
 |.r a (.lst k)=>.ok (a,k)
 |_=>.no
noncomputable def Sl.ownA:Sl->Res D
 |.o d=>.ok d
 |_=>.no
noncomputable def cR:List Nat->List D->Nv->Res Nv
 |[],[],e=>.ok e
 |i::r,d::q,e=>cR r q (e.set i (.v d))
 |_,_,_=>.no
noncomputable def G.put:G->D->Nv->Res Nv
 |.one i,d,e=>.ok (e.set i (.v d))
 |.many is,.tup ds,e=>cR is ds e
 |_,_,_=>.no
noncomputable def bT(own:Nat)(caps:List Nat)(e:Nv):Nv:=aZ own Sl.no++caps.map λi=>e.at i
set_option genInjectivity false in
structure Tab where
 glob:Nat->D
 fresh:Nat->Bool
 mv:Nat->Option Nat:=λ_=>none
section
variable(T:Tab)(cf:Nat->List D->Res D)
noncomputable def oX:List D->Bool
 |.lst _::_=>true
 |.int _::r=>oX r
 |.str _::r=>oX r
 |_=>false
noncomputable def eI:D->Bool
 |.tup ds=>oX ds
 |_=>false
noncomputable def cI:E->Bool
 |.lst _=>true
 |.sl _ _ _=>true
 |.bin .Add _ _=>true
 |.comp _ _ _ _ _ _=>true
 |.mth .split _ _=>true
 |.call f _=>T.fresh f
 |.srtT _=>true
 |_=>false
noncomputable def BR:E->Nat->E
 |.acons a _,0=>a
 |.acons _ r,n+1=>BR r n
 |_,_=>.omit
noncomputable def aU(f:D->Res (Option D)):List D->Res (List D)
 |[]=>.ok []
 |d::r=>do
  let x<-f d
  let q<-aU f r
  match x with
  |some y=>.ok (y::q)
  |none=>.ok q
mutual
noncomputable def evE:E->Nv->Res D
 |.var i,e=>(e.at i).val
 |.rd i,e=>(e.at i).any
 |.con d,_=>.ok d
 |.glob g,_=>.ok (T.glob g)
 |.bin o a b,e=>do let x<-evE a e;let y<-evE b e;D.bin o x y
 |.cmp o a b,e=>do let x<-evE a e;let y<-evE b e;D.cmp o x y
 |.chain o p a b c,e=>do
  let x<-evE a e
  let y<-evE b e
  match<-D.cmp o x y with
  |.bl true=>do let z<-evE c e;D.cmp p y z
  |.bl false=>.ok (.bl false)
  |_=>.no
 |.and a b,e=>do let x<-evE a e;let k<-x.truth;if k then evE b e else .ok x
 |.or a b,e=>do let x<-evE a e;let k<-x.truth;if k then .ok x else evE b e
 |.not a,e=>do let x<-evE a e;let k<-x.truth;.ok (.bl (!k))
 |.ife c a b,e=>do let x<-evE c e;let k<-x.truth;if k then evE a e else evE b e
 |.ix a b,e=>do let x<-evE a e;let y<-evE b e;D.ix x y
 |.sl a lo hi,e=>do let x<-evE a e;let l<-evE lo e;let l<-l.part;let h<-evE hi e;let h<-h.part;D.sl x l h
 |.omit,_=>.ok .non
 |.tup a,e=>do let xs<-evA a e;.ok (.tup xs)
 |.lst a,e=>do let xs<-evA a e;.ok (.lst xs)
 |.call f a,e=>do let xs<-evA a e;cf f xs
 |.srtT a,e=>do let x<-evE a e;oW x
 |.bt b a,e=>do let xs<-evA a e;b.run xs
 |.mth m a b,e=>do let x<-evE a e;let y<-evE b e;m.run x y
 |.callT fs k a,e=>do let x<-evE k e;let f<-kI fs x;let xs<-evA a e;cf f xs
 |.gidx ss a,e=>do let x<-evE a e;kJ ss x
 |.lset a,e=>do let x<-evE a e;x.setN
 |.comp own caps g elt src cond,e=>do
  let ds<-evI src e
  let ys<-aU (λd=>do
   let e1<-g.put d (bT own caps e)
   let c<-evE cond e1
   let k<-c.truth
   if k then do let y<-evE elt e1;.ok (some y)else .ok none) ds
  aC (decide (ds.length<=big)) (.ok (.lst ys))
 |_,_=>.no
noncomputable def evA:E->Nv->Res (List D)
 |.anil,_=>.ok []
 |.acons a r,e=>do let x<-evE a e;let q<-evA r e;aC (decide (q.length<1000)) (.ok (x::q))
 |_,_=>.no
noncomputable def evI:E->Nv->Res (List D)
 |.seq a,e=>do let x<-evE a e;x.items
 |.rng a,e=>do
  match<-evE a e with
  |.int n=>aC (eU n) (.ok (cU 0 n.toNat))
  |_=>.no
 |.rng2 a b,e=>do
  match<-evE a e with
  |.int n=>do
   match<-evE b e with
   |.int m=>aC (eU n&&eU m) (.ok (cU n (m-n).toNat))
   |_=>.no
  |_=>.no
 |.enum a,e=>do
  match<-evE a e with
  |.lst ds=>.ok (bX 0 ds)
  |.tup ds=>.ok (bX 0 ds)
  |_=>.no
 |.seqD a,e=>do let x<-evE a e;rU x
 |_,_=>.no
end
noncomputable def D.isInt:D->Bool
 |.int _=>true
 |_=>false
inductive Out where
 |nx (e:Nv)|rt (d:D) (fresh:Bool)|bk (e:Nv)|ct (e:Nv)|rr (d:D) (a:Nat) (j:List (Sum Int Str×D)) (b:Nat) (k:List (Sum Int Str×D))
 deriving Inhabited
noncomputable def bH(f:D->Nv->Res Out):List D->Nv->Res Out
 |[],e=>.ok (.nx e)
 |d::r,e=>do
  match<-f d e with
  |.nx e1=>bH f r e1
  |.ct e1=>bH f r e1
  |.bk e1=>.ok (.nx e1)
  |.rt x k=>.ok (.rt x k)
  |.rr x a j b k=>.ok (.rr x a j b k)
noncomputable def vQ(c:Nv->Res Bool)(f:Nv->Res Out):Nat->Nv->Res Out
 |0,_=>.no
 |n+1,e=>do
  if<-c e then
   match<-f e with
   |.nx e1=>vQ c f n e1
   |.ct e1=>vQ c f n e1
   |.bk e1=>.ok (.nx e1)
   |.rt x k=>.ok (.rt x k)
   |.rr x a j b k=>.ok (.rr x a j b k)
  else .ok (.nx e)
noncomputable def kL(f:Nat)(j k:List D)(y:D):Res (List D×List D):=
 open Classical in if h:∃r:List D×List D,∀a b:Nat,a≠b->cf f [.tup [.int a,.lst j],.tup [.int b,.lst k],y]=.ok (.tup [.lst r.1,.lst r.2])then .ok h.choose else .no
noncomputable def exS:S->Nv->Res Out
 |.nil,e=>.ok (.nx e)
 |.cons a r,e=>do
  match<-exS a e with
  |.nx e1=>exS r e1
  |o=>.ok o
 |.ret x,e=>do let d<-evE T cf x e;.ok (.rt d (cI T x&&!eI d))
 |.retO i,e=>do let a<-(e.at i).ownA;.ok (.rt a (!a.isDct))
 |.asg g x,e=>do let d<-evE T cf x e;let e1<-g.put d e;.ok (.nx e1)
 |.asgO i x,e=>do
  match<-evE T cf x e with
  |.lst a=>aC (cI T x) (.ok (.nx (e.set i (.o (.lst a)))))
  |_=>.no
 |.sealed i,e=>do let a<-(e.at i).ownA;.ok (.nx (e.set i (.v a)))
 |.ite c a b,e=>do let x<-evE T cf c e;let k<-x.truth;if k then exS a e else exS b e
 |.forS g src b,e=>do
  let ds<-evI T cf src e
  bH (λd e0=>do let e1<-g.put d e0;exS b e1) ds e
 |.app i x,e=>do
  let d<-evE T cf x e
  let a<-(e.at i).own
  aC (decide (a.length<big)) (.ok (.nx (e.set i (.o (.lst (a++[d]))))))
 |.ext i x,e=>do
  match<-evE T cf x e with
  |.lst b=>do
   let a<-(e.at i).own
   aC (cI T x&&decide (a.length+b.length<=big)) (.ok (.nx (e.set i (.o (.lst (a++b))))))
  |_=>.no
 |.never,_=>.no
 |.exp x,e=>do let _<-evE T cf x e;.ok (.nx e)
 |.appR i x,e=>do
  let d<-evE T cf x e
  let a<-(e.at i).refL
  aC (decide (a.2.length<big)) (.ok (.nx (e.set i (.r a.1 (.lst (a.2++[d]))))))
 |.remR i x,e=>do
  let d<-evE T cf x e
  let a<-(e.at i).refL
  aC (D.pl 29 d&&D.pls 30 a.2&&D.mem d a.2) (.ok (.nx (e.set i (.r a.1 (.lst (a.2.eraseIdx (plD d a.2)))))))
 |.laid f i j x,e=>aC (decide (T.mv f=some 1000)&&decide (i≠j)) (do
  let a<-(e.at i).own
  let b<-(e.at j).own
  let d<-evE T cf x e
  let r<-kL cf f a b d
  .ok (.nx ((e.set i (.o (.lst r.1))).set j (.o (.lst r.2)))))
noncomputable def exX(T:Tab)(cf:Nat->List D->Res D)(_:S)(_:Nv):Option (Str×D):=none
end
structure Told where
 b:S
 c:Str
 yes:D
 thr:D
 ini:D:=.non
 num:Bool:=false
 deriving Inhabited
set_option genInjectivity false in
structure Df where
 names:Nat
 pars:Nat
 body:S
 told:Option Told:=none
 deriving Inhabited
noncomputable def eJ(mv:Option Nat)(ds:List D):Nv:=match mv with
 |none=>ds.map Sl.v
 |some j=>(ds.map Sl.v).set j (.n (ds.getD j .non))
noncomputable def BS:List D->Option (Nat×Nat×Nv)
 |[.tup [.int a,.lst j],.tup [.int b,.lst k],y]=>some (a.toNat,b.toNat,[.r a.toNat (.lst j),.r b.toNat (.lst k),.v y])
 |_=>none
noncomputable def kM(a b:Nat)(e:Nv):Res D:=match e.at 0,e.at 1 with
 |.r a' (.lst j),.r b' (.lst k)=>aC (a'==a&&b'==b) (.ok (.tup [.lst j,.lst k]))
 |_,_=>.no
noncomputable def aA(T:Tab)(defs:List Df):Nat->Nat->List D->Res D
 |0,_,_=>.no
 |n+1,f,ds=>
  match defs[f]? with
  |none=>.no
  |some d=>
   aC (ds.length==d.pars) (match d.told with
    |none=>if T.mv f=some 1000 then(match BS ds with
     |none=>.no
     |some z=>match exS T (aA T defs n) d.body (z.2.2++aZ (d.names-d.pars) Sl.no)with
      |.ok (.nx e)=>kM z.1 z.2.1 e
      |_=>.no)else match exX T (aA T defs n) d.body (eJ (T.mv f) ds++aZ (d.names-d.pars) Sl.no)with
     |some z=>.err z.1 z.2
     |none=>match exS T (aA T defs n) d.body (eJ (T.mv f) ds++aZ (d.names-d.pars) Sl.no)with
      |.ok (.rt x k)=>aC (k||!T.fresh f) (.ok x)
      |.ok (.nx _)=>aC (!T.fresh f) (.ok .non)
      |_=>.no
    |some t=>match exX T (aA T defs n) t.b (ds.map Sl.v++[.v t.ini,.no])with
     |some z=>aC (z.1==t.c&&!T.fresh f) (if t.num then(match z.2 with | .int v=>.ok (.int v)|_=>.no)else .ok t.yes)
     |none=>match exS T (aA T defs n) t.b (ds.map Sl.v++[.v t.ini,.no])with
      |.ok (.nx _)=>aC (!T.fresh f) (.ok t.thr)
      |_=>.no)
theorem mZ{T:Tab}{defs:List Df}{n f:Nat}{ds:List D}:aA T defs (n+1) f ds=(
 match defs[f]? with
 |none=>.no
 |some d=>
  aC (ds.length==d.pars) (match d.told with
   |none=>if T.mv f=some 1000 then(match BS ds with
    |none=>.no
    |some z=>match exS T (aA T defs n) d.body (z.2.2++aZ (d.names-d.pars) Sl.no)with
     |.ok (.nx e)=>kM z.1 z.2.1 e
     |_=>.no)else match exX T (aA T defs n) d.body (eJ (T.mv f) ds++aZ (d.names-d.pars) Sl.no)with
    |some z=>.err z.1 z.2
    |none=>match exS T (aA T defs n) d.body (eJ (T.mv f) ds++aZ (d.names-d.pars) Sl.no)with
     |.ok (.rt x k)=>aC (k||!T.fresh f) (.ok x)
     |.ok (.nx _)=>aC (!T.fresh f) (.ok .non)
     |_=>.no
   |some t=>match exX T (aA T defs n) t.b (ds.map Sl.v++[.v t.ini,.no])with
    |some z=>aC (z.1==t.c&&!T.fresh f) (if t.num then(match z.2 with | .int v=>.ok (.int v)|_=>.no)else .ok t.yes)
    |none=>match exS T (aA T defs n) t.b (ds.map Sl.v++[.v t.ini,.no])with
     |.ok (.nx _)=>aC (!T.fresh f) (.ok t.thr)
     |_=>.no)):=rfl
variable{o:CmpOp}{y:D}{a b c src x:E}{g:G}{j k:List D}{r:List D×List D}{f i:Nat}
section
variable{T:Tab}{cf:Nat->List D->Res D}{e:Nv}
theorem xE_var:evE T cf (.var i) e=((e.at i).val):=rfl
theorem oY:evE T cf (.rd i) e=((e.at i).any):=rfl
theorem vS{d:D}:evE T cf (.con d) e=(.ok d):=rfl
theorem II{g:Nat}:evE T cf (.glob g) e=(.ok (T.glob g)):=rfl
theorem BU:evE T cf (.cmp o a b) e=(do let x<-evE T cf a e;let y<-evE T cf b e;D.cmp o x y):=rfl
theorem vT{p:CmpOp}:evE T cf (.chain o p a b c) e=(do
 let x<-evE T cf a e
 let y<-evE T cf b e
 match<-D.cmp o x y with
 |.bl true=>do let z<-evE T cf c e;D.cmp p y z
 |.bl false=>.ok (.bl false)
 |_=>.no):=rfl
theorem BV:evE T cf (.and a b) e=(do let x<-evE T cf a e;let k<-x.truth;if k then evE T cf b e else .ok x):=rfl
theorem BW:evE T cf (.or a b) e=(do let x<-evE T cf a e;let k<-x.truth;if k then .ok x else evE T cf b e):=rfl
theorem BX:evE T cf (.not a) e=(do let x<-evE T cf a e;let k<-x.truth;.ok (.bl (!k))):=rfl
theorem BY:evE T cf (.ife c a b) e=(do let x<-evE T cf c e;let k<-x.truth;if k then evE T cf a e else evE T cf b e):=rfl
theorem xE_sl{lo:E}{hi:E}:evE T cf (.sl a lo hi) e=(do let x<-evE T cf a e;let l<-evE T cf lo e;let l<-l.part;let h<-evE T cf hi e;let h<-h.part;D.sl x l h):=rfl
theorem IJ  : evE T cf (.«omit») e=(.ok .non):=rfl
theorem BZ:evE T cf (.tup a) e=(do let xs<-evA T cf a e;.ok (.tup xs)):=rfl
theorem lN:evE T cf (.lst a) e=(do let xs<-evA T cf a e;.ok (.lst xs)):=rfl
theorem B0:evE T cf (.call f a) e=(do let xs<-evA T cf a e;cf f xs):=rfl
theorem B3:evI T cf (.seqD a) e=(do let x<-evE T cf a e;rU x):=rfl
theorem B4:evE T cf (.srtT a) e=(do let x<-evE T cf a e;oW x):=rfl
theorem xE_bt{b:Bt}:evE T cf (.bt b a) e=(do let xs<-evA T cf a e;b.run xs):=rfl
theorem B5{m:Mt}:evE T cf (.mth m a b) e=(do let x<-evE T cf a e;let y<-evE T cf b e;m.run x y):=rfl
theorem IK{fs:List Nat}{k:E}:evE T cf (.callT fs k a) e=(do let x<-evE T cf k e;let f<-kI fs x;let xs<-evA T cf a e;cf f xs):=rfl
theorem IL{ss:List Str}:evE T cf (.gidx ss a) e=(do let x<-evE T cf a e;kJ ss x):=rfl
theorem IM:evE T cf (.lset a) e=(do let x<-evE T cf a e;x.setN):=rfl
theorem B6{own:Nat}{caps:List Nat}{elt:E}{cond:E}:evE T cf (.comp own caps g elt src cond) e=(do
 let ds<-evI T cf src e
 let ys<-aU (λd=>do
  let e1<-g.put d (bT own caps e)
  let c<-evE T cf cond e1
  let k<-c.truth
  if k then do let y<-evE T cf elt e1;.ok (some y)else .ok none) ds
 aC (decide (ds.length<=big)) (.ok (.lst ys))):=rfl
theorem rV  : evA T cf (.anil) e=(.ok []):=rfl
theorem rW{r:E}:evA T cf (.acons a r) e=(do let x<-evE T cf a e;let q<-evA T cf r e;aC (decide (q.length<1000)) (.ok (x::q))):=rfl
theorem xI_seq:evI T cf (.seq a) e=(do let x<-evE T cf a e;x.items):=rfl
theorem B7:evI T cf (.rng a) e=(do
 match<-evE T cf a e with
 |.int n=>aC (eU n) (.ok (cU 0 n.toNat))
 |_=>.no):=rfl
theorem B8:evI T cf (.rng2 a b) e=(do
 match<-evE T cf a e with
 |.int n=>do
  match<-evE T cf b e with
  |.int m=>aC (eU n&&eU m) (.ok (cU n (m-n).toNat))
  |_=>.no
 |_=>.no):=rfl
theorem B9:evI T cf (.enum a) e=(do
 match<-evE T cf a e with
 |.lst ds=>.ok (bX 0 ds)
 |.tup ds=>.ok (bX 0 ds)
 |_=>.no):=rfl
theorem B_  : exS T cf (.nil) e=(.ok (.nx e)):=rfl
theorem rX{a:S}{r:S}:exS T cf (.cons a r) e=(do
 match<-exS T cf a e with
 |.nx e1=>exS T cf r e1
 |o=>.ok o):=rfl
theorem xS_ret:exS T cf (.ret x) e=(do let d<-evE T cf x e;.ok (.rt d (cI T x&&!eI d))):=rfl
theorem IP:exS T cf (.retO i) e=(do let a<-(e.at i).ownA;.ok (.rt a (!a.isDct))):=rfl
theorem rY:exS T cf (.asg g x) e=(do let d<-evE T cf x e;let e1<-g.put d e;.ok (.nx e1)):=rfl
theorem rZ:exS T cf (.asgO i x) e=(do
 match<-evE T cf x e with
 |.lst a=>aC (cI T x) (.ok (.nx (e.set i (.o (.lst a)))))
 |_=>.no):=rfl
theorem Ba:exS T cf (.«sealed» i) e=(do let a<-(e.at i).ownA;.ok (.nx (e.set i (.v a)))):=rfl
theorem xS_ite{a:S}{b:S}:exS T cf (.ite c a b) e=(do let x<-evE T cf c e;let k<-x.truth;if k then exS T cf a e else exS T cf b e):=rfl
theorem IQ{b:S}:exS T cf (.forS g src b) e=(do
 let ds<-evI T cf src e
 bH (λd e0=>do let e1<-g.put d e0;exS T cf b e1) ds e):=rfl
theorem xS_app:exS T cf (.app i x) e=(do
 let d<-evE T cf x e
 let a<-(e.at i).own
 aC (decide (a.length<big)) (.ok (.nx (e.set i (.o (.lst (a++[d]))))))):=rfl
theorem IR(h:kL cf f j k y=.ok r):∀a b:Nat,a≠b->cf f [.tup [.int a,.lst j],.tup [.int b,.lst k],y]=.ok (.tup [.lst r.1,.lst r.2]):=by
 unfold kL at h
 split at h
 ·rename_i hx
  injection h with h
  rw[<-h]
  exact hx.choose_spec
 ·cases h
theorem IS(h:∀a b:Nat,a≠b->cf f [.tup [.int a,.lst j],.tup [.int b,.lst k],y]=.ok (.tup [.lst r.1,.lst r.2])):kL cf f j k y=.ok r:=by
 unfold kL
 have hx:∃r:List D×List D,∀a b:Nat,a≠b->cf f [.tup [.int a,.lst j],.tup [.int b,.lst k],y]=.ok (.tup [.lst r.1,.lst r.2]):=⟨r,h⟩
 rw[dif_pos hx]
 have h1:=hx.choose_spec 0 1 (by lia)
 rw[h 0 1 (by lia)]at h1
 injection h1 with h1
 injection h1 with h1
 injection h1 with a1 h1
 injection h1 with a2 _
 injection a1 with a1
 injection a2 with a2
 have:hx.choose=r:=Prod.ext a1.symm a2.symm
 rw[this]
theorem Bb:exS T cf (.appR i x) e=(do
 let d<-evE T cf x e
 let a<-(e.at i).refL
 aC (decide (a.2.length<big)) (.ok (.nx (e.set i (.r a.1 (.lst (a.2++[d]))))))):=rfl
theorem Bc:exS T cf (.remR i x) e=(do
 let d<-evE T cf x e
 let a<-(e.at i).refL
 aC (D.pl 29 d&&D.pls 30 a.2&&D.mem d a.2) (.ok (.nx (e.set i (.r a.1 (.lst (a.2.eraseIdx (plD d a.2)))))))):=rfl
theorem Bd{j:Nat}:exS T cf (.laid f i j x) e=aC (decide (T.mv f=some 1000)&&decide (i≠j)) (do
 let a<-(e.at i).own
 let b<-(e.at j).own
 let d<-evE T cf x e
 let r<-kL cf f a b d
 .ok (.nx ((e.set i (.o (.lst r.1))).set j (.o (.lst r.2))))):=rfl
theorem Be:exS T cf (.ext i x) e=(do
 match<-evE T cf x e with
 |.lst b=>do
  let a<-(e.at i).own
  aC (cI T x&&decide (a.length+b.length<=big)) (.ok (.nx (e.set i (.o (.lst (a++b))))))
 |_=>.no):=rfl
theorem IT  : exS T cf (.never) e=(.no):=rfl
theorem xS_exp:exS T cf (.exp x) e=(do let _<-evE T cf x e;.ok (.nx e)):=rfl
end
section
variable{T:Tab}{cf:Nat->List D->Res D}{e:Nv}
end
section
variable{T:Tab}{cf:Nat->List D->Res D}
theorem Bf{x:S}{e:Nv}{z:Str×D}(h:exX T cf x e=some z):∀o,exS T cf x e≠.ok o:=nomatch h
end
end Tr
namespace Tr
open PySem PySem.Spec PyProof.Rows L2 Builtin.Str
variable{x y:Str}
theorem nA(h:x.cps.toList=y.cps.toList):x=y:=by
 cases x;cases y
 simp only[Str.mk.injEq]
 exact A9.mp h
theorem IU{α:Type}(xs:List α)(a b:Nat)(hb:b<=xs.length):((aI (b-a)).map λk=>a+k).filterMap (xs[·]?)=(xs.drop a).take (b-a):=by
 generalize hn:b-a=n
 induction n generalizing a with
 |zero=>simp
 |succ n ih=>
  have ha:a<xs.length:=by lia
  rw[rE,aG,mL,bB,rF ha,List.take_succ_cons]
  simp only[Nat.add_zero,aR ha]
  congr 1
  rw[<-ih (a+1) (by lia)]
  congr 1
  apply gH
  intro k _
  simp only[Function.comp]
  lia
theorem IV{a b:Int}{p q:Nat}(ha:a=p)(hb:b=q):sliceRange a b 1=(aI (q-p)).map λk=>p+k:=by
 subst ha hb
 unfold sliceRange
 simp only[show(1:Int)>0 by decide,if_true]
 have hc:(if(p:Int)<(q:Int)then((q:Int)-(p:Int)+1-1)/1 else 0).toNat=q-p:=by
  rw[Int.ediv_one]
  split<;>lia
 rw[hc]
 apply gH
 intro k _
 lia
theorem IW(n:Nat)(lo hi:Option Int):strSliceIndices lo hi 1 n=(aI (sIx n n hi-sIx n 0 lo)).map λk=>sIx n 0 lo+k:=by
 unfold strSliceIndices
 refine IV ?_ ?_
 ·cases lo with
  |none=>rfl
  |some v=>
   simp only[show(1:Int)>0 by decide,if_true,sIx]
   split<;>lia
 ·cases hi with
  |none=>rfl
  |some v=>
   simp only[show(1:Int)>0 by decide,if_true,sIx]
   split<;>lia
theorem Bg(n d:Nat)(hd:d<=n)(o:Option Int):sIx n d o<=n:=by
 cases o with
 |none=>exact hd
 |some v=>
  simp only[sIx]
  split<;>lia
theorem IX(x:Str)(lo hi:Option Int):Txt.slice x lo hi=jM x lo hi:=by
 have hl:x.cps.toList.length=x.length:=by simp[Str.length]
 unfold Txt.slice
 rw[IW]
 have e:(List.filterMap (x.cps[·]?) ((aI (sIx x.length x.length hi-sIx x.length 0 lo)).map λk=>sIx x.length 0 lo+k))=cut x.cps.toList lo hi:=by
  have:=IU x.cps.toList (sIx x.length 0 lo) (sIx x.length x.length hi) (by rw[hl];exact Bg _ _ (aN _) _)
  unfold cut
  rw[hl,<-this]
  congr 1
  funext k
  simp
 split
 ·rename_i c
  simp only[beq_self_eq_true,A_,aD,eS,beq_iff_eq]at c
  refine nA ?_
  show _=(cut x.cps.toList lo hi).toArray.toList
  have h1:=Bg x.length x.length (aN _) hi
  unfold cut
  by_cases hz:x.length=0
  ·have:x.cps.toList=[]:=Aa (by lia)
   rw[this];simp
  ·have h0:sIx x.length 0 lo=0:=by lia
   have h2:sIx x.length x.length hi=x.length:=by lia
   rw[hl,h0,h2,uS,uT,<-hl,kD (aN _)]
 ·rw[e];rfl
theorem Bh{b:Bool}(h:vN x y=.ok b):(!(occurrences y x 0 y.length 1).isEmpty)=b:=by
 unfold vN at h
 split at h
 ·rename_i c hc
  cases h
  have ex:x=⟨#[c]⟩:=nA (by rw[hc])
  rw[ex]
  exact StrLaws.found_one y c
 ·cases h
noncomputable def eW(c:Nat)(k:Nat):List Nat->List Nat
 |[]=>[]
 |x::r=>if x=c then k::eW c (k+1) r else eW c (k+1) r
theorem IY(x:Str)(c:Nat):occurrences x ⟨#[c]⟩ 0 x.length (x.length+1)=eW c 0 x.cps.toList:=by
 rw[StrLaws.occ_eq]
 have hl:x.cps.toList.length=x.length:=by simp[Str.length]
 have key:∀(r k:Nat)(found:Array Nat)(free:Nat),k+r=x.length->found.size<=k->free<=k ->
  (forIn (iA k (r+1)) (found,free) (StrLaws.occBody x ⟨#[c]⟩ x.length (x.length+1)):Id (Array Nat×Nat)).run.fst.toList=found.toList++eW c k (x.cps.toList.drop k):=by
  intro r
  induction r with
  |zero=>
   intro k found free hk hf hfr
   rw[show iA k (0+1)=[k]from rfl,Gf,uU (by lia)]
   have hb:StrLaws.occBody x ⟨#[c]⟩ x.length (x.length+1) k (found,free)=pure (ForInStep.yield (found,free)):=by
    unfold StrLaws.occBody
    rw[if_neg]
    rintro⟨⟨_,h⟩,_⟩
    simp[Str.length]at h
    have:x.cps.size=x.length:=rfl
    lia
   rw[hb]
   simp[eW]
  |succ r ih=>
   intro k found free hk hf hfr
   have hk':k<x.cps.toList.length:=by lia
   rw[Gg,Gf,rF hk',eW]
   by_cases hc:x.cps.toList[k]=c
   ·have hs:subAt x ⟨#[c]⟩ k=true:=by
     have:=(StrLaws.subAt_one x c k).mpr (by rw[aR hk',hc])
     exact this.2
    have hb:StrLaws.occBody x ⟨#[c]⟩ x.length (x.length+1) k (found,free)=pure (ForInStep.yield (found.push k,k+1)):=by
     unfold StrLaws.occBody
     rw[if_pos ⟨⟨⟨by show found.size<x.length+1;lia,hfr⟩,by show k+1<=x.length;lia⟩,hs⟩]
     rfl
    rw[hb,if_pos hc]
    have:=ih (k+1) (found.push k) (k+1) (by lia) (by rw[Array.size_push];lia) (aN _)
    refine Eq.trans this ?_
    simp
   ·have hs:¬subAt x ⟨#[c]⟩ k=true:=λh=>by
     have:=(StrLaws.subAt_one x c k).mp ⟨by show k+1<=x.length;lia,h⟩
     rw[aR hk']at this
     exact hc (fW.inj this)
    have hb:StrLaws.occBody x ⟨#[c]⟩ x.length (x.length+1) k (found,free)=pure (ForInStep.yield (found,free)):=by
     unfold StrLaws.occBody
     rw[if_neg λh=>hs h.2]
    rw[hb,if_neg hc]
    exact ih (k+1) found free (by lia) (by lia) (by lia)
 have:=key x.length 0 #[] 0 (by lia) (aN _) (aN _)
 simpa using this
theorem Bi(c:Nat):∀cs,cM c cs≠[]
 |[]=>by simp[cM]
 |x::r=>by
  rw[cM]
  split
  ·simp
  ·split<;>simp
theorem Bj(x:Str)(c:Nat):partsBetween x (eW c 0 x.cps.toList) 1=cT x c:=by
 have hl:x.cps.toList.length=x.length:=by simp[Str.length]
 have key:∀(cs:List Nat)(a k:Nat),a<=k->k+cs.length=x.length->x.cps.toList.drop k=cs ->
  ((a::(eW c k cs).map (·+1)).zip (eW c k cs++[x.length])).map (λp=>(x.cps.toList.drop p.1).take (p.2-p.1)) =
   (match cM c cs with|h::t=>((x.cps.toList.drop a).take (k-a)++h)::t|[]=>[]):=by
  intro cs
  induction cs with
  |nil=>
   intro a k ha hk hd
   simp only[eW,cM,dQ,eF,Oa,List.zip_nil_right,aG,fF]
   rw[show x.length=k by simpa using hk.symm]
  |cons d r ih=>
   intro a k ha hk hd
   have hk':k<x.cps.toList.length:=by simp at hk;lia
   rw[rF hk']at hd
   injection hd with hd1 hd2
   rw[eW,cM]
   by_cases hc:d=c
   ·rw[if_pos hc,if_pos hc]
    have:=ih (k+1) (k+1) (aN _) (by simp at hk;lia) hd2
    simp only[aG,Gh,Oa,fF]
    rw[this]
    simp only[Nat.sub_self,Ob,eF]
    cases hsp:cM c r with
    |nil=>exact absurd hsp (Bi c r)
    |cons h t=>rfl
   ·rw[if_neg hc,if_neg hc]
    have:=ih a (k+1) (by lia) (by simp at hk;lia) hd2
    rw[this]
    cases hsp:cM c r with
    |nil=>exact absurd hsp (Bi c r)
    |cons h t=>
     simp only
     congr 1
     rw[show k+1-a=(k-a)+1 by lia,List.take_add_one,List.getElem?_drop,show a+(k-a)=k by lia,aR hk',hd1]
     simp
 have h0:=key x.cps.toList 0 0 (aN _) (by lia) (by simp)
 unfold partsBetween cT
 have e:∀p:Nat×Nat,strSub x p.1 p.2=⟨((x.cps.toList.drop p.1).take (p.2-p.1)).toArray⟩:=λp=>nA (by
  show(x.cps.extract p.1 p.2).toList=_
  rw[Array.toList_extract,List.extract_eq_take_drop])
 have h1:cM c x.cps.toList=(((0::(eW c 0 x.cps.toList).map (·+1)).zip (eW c 0 x.cps.toList++[x.length])).map (λp=>(x.cps.toList.drop p.1).take (p.2-p.1))):=by
  rw[h0]
  cases cM c x.cps.toList<;>simp
 rw[h1,bB]
 apply gH
 rintro⟨i,j⟩ _
 exact e (i,j)
theorem Bl(c:Nat):∀cs,(cM c cs).length<=cs.length+1
 |[]=>by simp[cM]
 |x::r=>by
  have:=Bl c r
  rw[cM]
  split
  ·simp;lia
  ·split
   ·rename_i h t e
    rw[e]at this
    simp at this⊢
    lia
   ·simp
theorem Bm(c:Nat):∀cs,eW c k cs=[]->cM c cs=[cs]
 |[],_=>rfl
 |x::r,h=>by
  rw[eW]at h
  split at h
  ·cases h
  ·rename_i hc
   rw[cM,if_neg hc,Bm c r h]
end Tr
namespace Tr
open PySem PySem.Spec PyProof.Rows L2 Builtin.Str
variable{H:Hp}{σ:L2.St}{pins:List (Addr×Obj)}{s:Shared}
section
variable{X:Cx}
theorem Bo{v:Value}{o:Option Int}(h:IsPart v o):∃p:Option (Int×Tok),v=partValue p/\p.map (·.1)=o:=by
 cases h with
 |none=>exact⟨none,rfl,rfl⟩
 |int i t=>exact⟨some (i,t),rfl,rfl⟩
theorem sl_str:SlR X (λx lo hi H Q=>∃z,x=.str z/\z.length<=sizeLine/\Q (.str (jM z lo hi)) H):=by
 intro pins s σ H x v vl vu lo hi sl Q I rx hs pl pu h
 obtain⟨z,rfl,hz,q⟩:=h
 obtain⟨t,rfl⟩:=rx
 obtain⟨p,rfl,rfl⟩:=Bo pl
 obtain⟨p',rfl,rfl⟩:=Bo pu
 refine⟨"str", _,PySem.F.slot_str_getitem.lookup,typeIs_str _ _ _,wpAny_getItem_str_slice (l:=p) (u:=p') (st:=none) hs rfl ?_⟩
 refine post_val_or_str ⟨eQ (Txt.slice_le z _ _) hz,λt' k=>?_⟩
 refine⟨.str _,H,I.tok k,⟨t',?_⟩,q⟩
 rw[<-IX]
 rfl
theorem Bp:∀{xs:List Str} {us:List Value},Vals (xs.map V.str) us->StrsAre us xs
 |[],_,h=>by cases h;exact .nil
 |x::r,_,h=>by
  rw[aG]at h
  cases h with
  |cons r1 r2=>
   obtain⟨t,rfl⟩:=r1
   exact .cons x t (Bp r2)
theorem Bq:∀(t:Nat)(xs:List Str),Vals (xs.map V.str) (strsFrom t xs)
 |_,[]=>.nil
 |t,x::r=>.cons ⟨t,rfl⟩ (Bq (t+1) r)
theorem I_:MtR X "str.split" (λx vs H Q=>∃z c,x=.str z/\vs=[.str ⟨#[c]⟩]/\z.length<sizeLine/\c<256/\∀p,H p=none->Q (.ref p) (upd H p (.lst ((cT z c).map V.str)))):=by
 intro pins s σ H x vs v us Q I rx rv h
 obtain⟨z,c,rfl,rfl,hz,hc,q⟩:=h
 obtain⟨t,rfl⟩:=rx
 obtain⟨u,rfl,ru⟩:=fY rv
 obtain⟨t2,rfl⟩:=ru
 have hsp:=Bl c z.cps.toList
 have hl:z.cps.toList.length=z.length:=by simp[Str.length]
 have fin:∀(its:List Value) (tk:Nat),Vals ((cT z c).map V.str) its->EP X pins σ Q (.ref s.heap.objs.size) {s with heap:=s.heap.push {cls:=.type "list", data:=.seq its.toArray},toks:=tk}:=λits tk r=>
  ⟨.ref _,_,I.lnew (t':=tk) r (by rw[aD,cT,aD];lia),rfl,q _ I.fresh⟩
 have one:cT z c=[z]->EP X pins σ Q (.ref s.heap.objs.size) {s with heap:=s.heap.push {cls:=.type "list", data:=.seq #[.str z t] } }:=λe=>by
  have:=fin [.str z t] s.toks (by rw[e];exact .cons ⟨t,rfl⟩ .nil)
  simpa using this
 have occ:=IY z c
 by_cases h1:(decide (z.length<(⟨#[c]⟩:Str).length)||decide (Builtin.Str.strKind z<Builtin.Str.strKind ⟨#[c]⟩))=true
 ·refine call_meets PySem.F.slot_str_split (typeIs_str _ _ _) PySem.F.entry_str_split (PySem.F.args_str_split_2 _ _) (meets_str_split_cannot_occur z ⟨#[c]⟩ t t2 h1) ?_
  refine one ?_
  have hk:Builtin.Str.strKind ⟨#[c]⟩=1:=by
   unfold Builtin.Str.strKind
   rw[if_pos]
   simpa using hc
  have hk2:1<=Builtin.Str.strKind z:=by
   unfold Builtin.Str.strKind
   split
   ·exact aN _
   ·split<;>lia
  have h0:z.length<1:=by
   rw[hk,iR,decide_eq_true_eq,decide_eq_true_eq]at h1
   rcases h1 with h1|h1
   ·exact h1
   ·lia
  have hn:z.cps.toList=[]:=Aa (by lia)
  unfold cT
  rw[hn,cM,aG,dQ]
  exact congrArg (λy=>[y]) (nA (by rw[hn]))
 ·have h1':(decide (z.length<(⟨#[c]⟩:Str).length)||decide (Builtin.Str.strKind z<Builtin.Str.strKind ⟨#[c]⟩))=false:=by simpa using h1
  by_cases hf:(occurrences z ⟨#[c]⟩ 0 z.length (z.length+1)).isEmpty=true
  ·refine call_meets PySem.F.slot_str_split (typeIs_str _ _ _) PySem.F.entry_str_split (PySem.F.args_str_split_2 _ _) (meets_str_split_not_found z ⟨#[c]⟩ t t2 h1' rfl hf) ?_
   refine one ?_
   rw[occ,Gi]at hf
   unfold cT
   rw[Bm c _ hf]
   rfl
  ·have hf':(occurrences z ⟨#[c]⟩ 0 z.length (z.length+1)).isEmpty=false:=by simpa using hf
   refine call_meets PySem.F.slot_str_split (typeIs_str _ _ _) PySem.F.entry_str_split (PySem.F.args_str_split_2 _ _) (meets_str_split_sep z ⟨#[c]⟩ t t2 h1' rfl hf' (by lia) ?_) ?_
   ·rw[occ]
    show(partsBetween z (eW c 0 z.cps.toList) 1).length<=sizeLine
    rw[Bj,cT,aD];lia
   ·have e:partsBetween z (occurrences z ⟨#[c]⟩ 0 z.length (z.length+1)) (⟨#[c]⟩:Str).length=cT z c:=by rw[occ];exact Bj z c
    show EP X pins σ Q _ _
    rw[e]
    exact fin _ _ (Bq _ _)
theorem Br(g:List Nat):∀(xs:List (List Nat))(acc:List Nat),xs.foldl (λacc p=>acc++g++p) acc=acc++(match xs with|[]=>[]|x::r=>g++dH g (x::r))
 |[],acc=>by simp
 |[x],acc=>by simp[dH,dG]
 |x::y::r,acc=>by
  rw[lB,Br g (y::r)]
  simp[dH,dG]
theorem Ia(g:Str)(xs:List Str):Builtin.Str.glued g xs=iU g xs:=by
 refine nA ?_
 unfold Builtin.Str.glued iU
 have fold:∀(ys:List Str)(acc:Array Nat),(ys.foldl (λacc p=>acc++g.cps++p.cps) acc).toList=(ys.map λx=>x.cps.toList).foldl (λacc p=>acc++g.cps.toList++p) acc.toList:=by
  intro ys
  induction ys with
  |nil=>intro acc;rfl
  |cons y r ih=>intro acc;rw[lB,ih,aG,lB];simp
 show(Gd (λacc p=>acc++g.cps++p.cps) (xs.headD Str.empty).cps (xs.drop 1)).toList=(dH g.cps.toList (xs.map λx=>x.cps.toList)).toArray.toList
 rw[fold,Br]
 cases xs with
 |nil=>rfl
 |cons x r=>
  cases r with
  |nil=>simp[dH]
  |cons y r=>simp[dH]
theorem Ib:MtR X "str.join" (λx vs H Q=>∃g a xs,x=.str g/\vs=[.ref a]/\SqL X.K H a (xs.map V.str)/\g.length<=64/\(xs.map (·.length)).sum+xs.length*64<=16777216/\Q (.str (iU g xs)) H):=by
 intro pins s σ H x vs v us Q I rx rv h
 obtain⟨g,a,xs,rfl,rfl,hq,hg,hz,q⟩:=h
 obtain⟨t,rfl⟩:=rx
 obtain⟨u,rfl,ru⟩:=fY rv
 cases ru
 obtain⟨its,r,pl,hz'⟩:=I.list hq
 refine join_listC pl.isList (ys:=xs) (by simpa using Bp r) hg hz λt' k=>?_
 refine⟨.str _,H,I.tok k,⟨t',?_⟩,q⟩
 rw[<-Ia]
 rfl
theorem Ie:dB X (.type "int") (λxs H Q=>∃z,xs=[.str z]/\mY z.cps.toList=true/\z.length<=640/\Q (.int (lM z.cps.toList)) H):=by
 intro pins s σ H xs us Q I r h
 obtain⟨z,rfl,hd,hl,q⟩:=h
 obtain⟨u,rfl,rx⟩:=fY r
 obtain⟨t,rfl⟩:=rx
 unfold mY at hd
 rw[aM,gO]at hd
 have had:PySem.NumText.AllDigits z.cps.toList:=λc hc=>by
  have:=hd.2 c hc
  simpa using this
 have hne:z.cps.toList≠[]:=by
  have:=hd.1
  intro e
  rw[e]at this
  cases this
 have hn:=PySem.intText_digits had hne (by lia)
 exact PySem.W.KIN.call_text (n:=((lM z.cps.toList:Nat):Int)) hn hl ⟨.int _,H,I.tok _,⟨_,rfl⟩,q⟩
theorem Bs{a:Addr}{bs:List Bool}{its:List Value}(I:Inv X pins σ H s)(r':Vals (bs.map V.bl) its)(pl:PlainL s.heap a its.toArray) :
 (s.heap.push {cls:=.type "list_iterator", data:=.fields #[.ref a,.int 0 0] }).IsList a its.toArray/\TruthOf X.prog X.w X.A.in1 (λi v=>its.toArray[i]?=some v) (λi=>(bs[i]?).getD true):=by
 refine⟨pl.isList.at λo e=>Heap.get?_push_of_some _ e,?_⟩
 intro i v s' Q' E' hv hQ'
 have hv':its[i]?=some v:=by simpa using hv
 obtain⟨hi,_⟩:=fE.mp hv'
 have hib:i<bs.length:=by have:=r'.length;rw[aD]at this;lia
 obtain⟨w,hw,rw'⟩:=r'.get (i:=i) (by rw[cE,aR hib];rfl)
 rw[hv']at hw
 cases hw
 have:v=.bool bs[i]:=rw'
 subst this
 have e:(bs[i]?).getD true=bs[i]:=by rw[aR hib];rfl
 dsimp only at hQ'
 rw[e]at hQ'
 exact wpAny_truthy_bool hQ'
theorem Ig(bs:List Bool):(aI bs.length).all (λi=>(bs[i]?).getD true)=bs.all id:=by
 induction bs with
 |nil=>rfl
 |cons b r ih=>
  rw[aW,rE,lC,Gj,lC,<-ih]
  rfl
theorem Ih(bs:List Bool):(aI bs.length).any (λi=>(bs[i]?).getD true)=bs.any id:=by
 induction bs with
 |nil=>rfl
 |cons b r ih=>
  rw[aW,rE,Ab,List.any_map,Ab,<-ih]
  rfl
theorem Ij:dB X (.builtin "all") (λxs H Q=>∃(a:Addr) (bs:List Bool),xs=[.ref a]/\SqL X.K H a (bs.map V.bl)/\X.calm=true/\Q (.bl (bs.all id)) H):=by
 intro pins s σ H xs us Q I r h
 obtain⟨a,bs,rfl,hq,hc,q⟩:=h
 obtain⟨u,rfl,rx⟩:=fY r
 cases rx
 obtain⟨its,r',pl,hz⟩:=I.list hq
 refine call_all_walk (wpAny_pyIter_list pl.isList ?_)
 have hlt:a<s.heap.objs.size:=by obtain⟨o,e,_⟩:=pl.isList;exact Heap.lt_size e
 obtain⟨w1,w2⟩:=Bs I r' pl
 refine⟨s.heap.objs.size,[s.heap.objs.size,a],[s.heap.objs.size],its.toArray.size,(λi v=>its.toArray[i]?=some v),(λi h=>h.IsListIter s.heap.objs.size a i/\h.IsList a its.toArray),λi=>(bs[i]?).getD true,rfl,Walks.list (A:=X.A.in1) (I.ok.hd hc) s.heap.objs.size a (cC hlt) its.toArray,⟨⟨_,Heap.get?_push_size _ rfl,rfl,rfl⟩,w1⟩,w2,λh' tk hk=>?_⟩
 refine⟨.bl (bs.all id),H,I.kept (h':=h') (t':=tk) λb o e=>hk b o (by simp;exact λz=>absurd (z▸Heap.lt_size e) (iM _)) (Heap.get?_push_of_some _ e),?_,q⟩
 have hl:=r'.length
 rw[aD]at hl
 show Value.bool _=Value.bool _
 rw[bQ,<-hl,Ig]
theorem Ik:dB X (.builtin "any") (λxs H Q=>∃(a:Addr) (bs:List Bool),xs=[.ref a]/\SqL X.K H a (bs.map V.bl)/\X.calm=true/\Q (.bl (bs.any id)) H):=by
 intro pins s σ H xs us Q I r h
 obtain⟨a,bs,rfl,hq,hc,q⟩:=h
 obtain⟨u,rfl,rx⟩:=fY r
 cases rx
 obtain⟨its,r',pl,hz⟩:=I.list hq
 refine call_any_walk (wpAny_pyIter_list pl.isList ?_)
 have hlt:a<s.heap.objs.size:=by obtain⟨o,e,_⟩:=pl.isList;exact Heap.lt_size e
 obtain⟨w1,w2⟩:=Bs I r' pl
 refine⟨s.heap.objs.size,[s.heap.objs.size,a],[s.heap.objs.size],its.toArray.size,(λi v=>its.toArray[i]?=some v),(λi h=>h.IsListIter s.heap.objs.size a i/\h.IsList a its.toArray),λi=>(bs[i]?).getD true,rfl,Walks.list (A:=X.A.in1) (I.ok.hd hc) s.heap.objs.size a (cC hlt) its.toArray,⟨⟨_,Heap.get?_push_size _ rfl,rfl,rfl⟩,w1⟩,w2,λh' tk hk=>?_⟩
 refine⟨.bl (bs.any id),H,I.kept (h':=h') (t':=tk) λb o e=>hk b o (by simp;exact λz=>absurd (z▸Heap.lt_size e) (iM _)) (Heap.get?_push_of_some _ e),?_,q⟩
 have hl:=r'.length
 rw[aD]at hl
 show Value.bool _=Value.bool _
 rw[bQ,<-hl,Ih]
noncomputable def Its(x:Str):It:=⟨λi _=>i<x.cps.size,λi H v H'=>H'=H/\∃c,x.cps[i]?=some c/\v=.str ⟨#[c]⟩,λi _=>x.cps.size<=i⟩
theorem Bu{P:Program}{w:World}{K:PySem.W.Frag}{tg:Expr}(ty:String)(it:Addr)(x:Str)(t:Tok)
 (hty:["enumerate", "zip", "dict_itemiterator", "dict_reverseitemiterator", "odict_iterator", "itertools.zip_longest", "itertools.pairwise"].contains ty=false)
 (W:∀A:Around,A.handled=none->Walks P w A it [it] [it] x.cps.size (SignAt x) (λi h=>h.IsStrIter it ty x t i))
 (en:∀(A:Around)(s:Shared)(i:Nat)(Q:Option Value->Shared->Prop)(E:Value->Shared->Prop),A.handled=none->s.heap.IsStrIter it ty x t i->x.cps[i]?=none->(∀h',Heap.ExtBut it s.heap h'->Q none {s with heap:=h' })->wpAny (model P w) A (pyNext (.ref it)) Q E s)
 (sf:∀(A:Around)(s:Shared)(i:Nat)(Q:Value->Shared->Prop)(E:Value->Shared->Prop),s.heap.IsStrIter it ty x t i->Q (.ref it) s->wpAny (model P w) A (pyIter (.ref it)) Q E s) :
 Turn P w K tg (Its x) [it] it (λi h=>h.IsStrIter it ty x t i) where
 mem:=by simp
 obj:=λi h st b hb=>by
  have e:b=it:=by simpa using hb
  subst e
  obtain⟨o,e,c,d⟩:=st
  exact⟨o,e,λv z=>by rw[d]at z;cases z⟩
 keep:=λi h h' st k=>let ⟨o,e,c⟩:=st;⟨o,k it (by simp) o e,c⟩
 item:=by
  intro X hP hw hK hc i pins s σ H E I hf st hg
  subst hP hw hK
  obtain⟨f0,f1,f2,f3,f4,f5⟩:=hf it (by simp)
  refine(W X.A (I.ok.hd hc)).item i s _ _ hg st λv h' tk hv st' kk=>?_
  obtain⟨c,u,hx,rfl⟩:=hv
  have I1:Inv X pins σ H {s with heap:=h',toks:=tk}:=I.turned (λb o hb e=>kk b o (by simpa using hb) e) f0 f1 f3 f4 f5
  obtain⟨o,e,cc,d⟩:=id st'
  exact⟨_,rfl,oU (s:={s with heap:=h',toks:=tk}) e cc d hty ⟨.str ⟨#[c]⟩,H,I1,⟨u,rfl⟩,⟨rfl,c,hx,rfl⟩,st',λb hb=>(hf b hb).1⟩⟩
 done:=by
  intro X hP hw hK hc i pins s σ H E I hf st hg
  subst hP hw hK
  obtain⟨f0,f1,f2,f3,f4,f5⟩:=hf it (by simp)
  have hn:x.cps[i]?=none:=by
   have:x.cps.size<=i:=hg
   simpa using this
  exact en X.A s i _ _ (I.ok.hd hc) st hn λh' eb=>⟨rfl,I.turned (t':=s.toks) (λb o hb e=>eb b o hb e) f0 f1 f3 f4 f5⟩
 self:=λA i s Q E st h=>sf A s i Q E st h
theorem pi_str{tg:Expr}{R:It->Hp->Prop}{x:Str}{t:Tok}(I:Inv X pins σ H s)(h:R (Its x) H) :
 wpAny (model X.prog X.w) X.A (pyIter (.str x t)) (PIE X pins σ tg R) X.xe s:=by
 have fp:∀b∈[s.heap.objs.size],iC X pins H b:=λb hb=>by
  rcases bL.mp hb with rfl|hb
  ·exact I.fpOk (aN _) (I.hok.fresh (aN _))
  ·cases hb
 cases ha:x.cps.all (· < 128)
 ·refine wpAny_pyIter_wide ha ?_
  exact⟨s.heap.objs.size,[s.heap.objs.size],_,Its x,H,rfl,I.kept (t':=s.toks) λb u e=>Heap.get?_push_of_some _ e,Bu "str_iterator" _ x t (by decide) (λA hA=>Walks.strWide hA _ x t) (λA s i Q E hA st hx k=>wpAny_pyNext_wide_end hA st hx k) (λA s i Q E st k=>wpAny_pyIter_striter_wide st k),⟨_,Heap.get?_push_size _ rfl,rfl,rfl⟩,fp,h⟩
 ·refine wpAny_pyIter_ascii ha ?_
  exact⟨s.heap.objs.size,[s.heap.objs.size],_,Its x,H,rfl,I.kept (t':=s.toks) λb u e=>Heap.get?_push_of_some _ e,Bu "str_ascii_iterator" _ x t (by decide) (λA hA=>Walks.strAscii hA _ x t) (λA s i Q E hA st hx k=>wpAny_pyNext_ascii_end hA st hx k) (λA s i Q E st k=>wpAny_pyIter_striter_ascii st k),⟨_,Heap.get?_push_size _ rfl,rfl,rfl⟩,fp,h⟩
end
end Tr
namespace Tr
open PySem PySem.Spec PyProof.Rows L2
section
variable{prog:Program}{w:World}{A:Around}{E:Value->Shared->Prop}{s:Shared}
theorem Il{it t:Addr}{i:Nat}{items:Array Value}{x:Value}{Q:Value->Shared->Prop}(hit:s.heap.IsTupleIter it t i)(ht:s.heap.IsTuple t items)(hx:items[i]?=some x)
 (hQ:∀h',h'.IsTupleIter it t (i+1)->Heap.SameBut it s.heap h'->Q x {s with heap:=h' }):wpAny (model prog w) A (Builtin.SmallTypes.nextOf (.ref it)) Q E s:=by
 obtain⟨o,ho,hc,hd⟩:=id hit
 obtain⟨ol,hol,_,nl,hdl⟩:=ht
 unfold Builtin.SmallTypes.nextOf
 refine wpAny_bind (wpAny_callSpecial?_slot (name:=Str.ofString "__next__") hit.typeIs F.slot_tuple_iterator_next
  (wpAny_call_entry F.slot_tuple_iterator_next hit.typeIs F.entry_tuple_iterator_next ?_ (F.args_tuple_iterator_next_1 _)))
 show wpAny _ _ (field (.ref it) 0>>=_) _ _ s
 refine wpAny_bind (wpAny_field ho hd (x:=.ref t) rfl ?_)
 show wpAny _ _ (if(Value.ref t==Value.none)=true then _ else _) _ _ s
 rw[if_neg (show ¬((Value.ref t==Value.none)=true)from bR)]
 show wpAny _ _ (field (.ref it) 1>>=_) _ _ s
 refine wpAny_bind (wpAny_field ho hd (x:=.int i 0) rfl ?_)
 show wpAny _ _ (seqItems? (.ref t)>>=_) _ _ s
 refine wpAny_bind (wpAny_seqItems hol hdl ?_)
 simp only[kE,hx]
 refine wpAny_bind (wpAny_setField ho hd (by simp) (wpAny_pure ⟨x,rfl,wpAny_pure (hQ _ ?_ (Heap.SameBut.update ..))⟩))
 exact⟨_,Heap.get?_update_self _ ho (Obj.isFreed_of_fields (Obj.data_mapFields hd _)),(Obj.cls_mapFields ..).trans hc,by
  rw[Obj.data_mapFields hd];simp[rawInt]⟩
theorem Bv{it t:Addr}{i:Nat}{items:Array Value}{Q:Value->Shared->Prop}(hh:A.handled=none)(hit:s.heap.IsTupleIter it t i)(ht:s.heap.IsTuple t items)(hx:items[i]?=none)
 (hE:∀h' e,Heap.ExtBut it s.heap h'->(∃o,h'.get? e=some o/\o.cls=.type "StopIteration")->E (.ref e) {s with heap:=h' }):wpAny (model prog w) A (Builtin.SmallTypes.nextOf (.ref it)) Q E s:=by
 obtain⟨o,ho,hc,hd⟩:=id hit
 obtain⟨ol,hol,_,nl,hdl⟩:=ht
 unfold Builtin.SmallTypes.nextOf
 refine wpAny_bind (wpAny_callSpecial?_slot (name:=Str.ofString "__next__") hit.typeIs F.slot_tuple_iterator_next
  (wpAny_call_entry F.slot_tuple_iterator_next hit.typeIs F.entry_tuple_iterator_next ?_ (F.args_tuple_iterator_next_1 _)))
 show wpAny _ _ (field (.ref it) 0>>=_) _ _ s
 refine wpAny_bind (wpAny_field ho hd (x:=.ref t) rfl ?_)
 show wpAny _ _ (if(Value.ref t==Value.none)=true then _ else _) _ _ s
 rw[if_neg (show ¬((Value.ref t==Value.none)=true)from bR)]
 show wpAny _ _ (field (.ref it) 1>>=_) _ _ s
 refine wpAny_bind (wpAny_field ho hd (x:=.int i 0) rfl ?_)
 show wpAny _ _ (seqItems? (.ref t)>>=_) _ _ s
 refine wpAny_bind (wpAny_seqItems hol hdl ?_)
 simp only[kE,hx]
 refine wpAny_bind (wpAny_rule (wpAny_bind (wpAny_setField ho hd (by simp) ?_)))
 show wpAny _ _ (newExc (.type "StopIteration") []>>=_) _ _ _
 refine wpAny_bind ?_
 simp only[newExc,newTuple]
 refine wpAny_bind (wpAny_newObj_type ?_ (by size_fits))
 refine wpAny_bind (m:=firstArgMember _ _) (wpAny_of_eq (a:=Value.none) (by first|rfl|(simp only[firstArgMember];rfl)) ?_)
 refine wpAny_newObj_type ?_ (by size_fits)
 simp only[raiseNew]
 refine wpAny_bind (wpAny_handled ?_)
 first|rw[show A.in1.handled=none from hh]|rw[hh]
 refine wpAny_bind (wpAny_pure (wpAny_throw ?_))
 exact hE _ _ (((Heap.SameBut.update ..).extBut.push _).push _) ⟨_,Heap.get?_push_size _ rfl,rfl⟩
end
theorem tup_at{h h':Heap}{a:Addr}{items:Array Value}(x:h.IsTuple a items)(e:∀o,h.get? a=some o->h'.get? a=some o):h'.IsTuple a items:=let ⟨o,ho,r⟩:=x;⟨o,e _ ho,r⟩
theorem Im{prog:Program}{w:World}{A:Around}(hh:A.handled=none)(it t:Addr)(hne:t≠it)(items:Array Value) :
 Draws prog w A it [it,t] items.size (λi v=>items[i]?=some v) (λi h=>h.IsTupleIter it t i/\h.IsTuple t items) where
 live:=λ_ _ st=>let ⟨o,ho,_⟩:=st.1;⟨o,ho⟩
 frame:=λ_ _ _ st hk=>⟨st.1.at λo e=>hk it (by simp) o e,tup_at st.2 λo e=>hk t (by simp) o e⟩
 item:=λi s Q E hi st hQ=>Il st.1 st.2 (x:=items[i]) (by simp[hi]) λh' hit' hs'=>hQ _ h' s.toks (by simp[hi]) ⟨hit',st.2.extBut hs'.extBut hne⟩ hs'
 done:=λs Q E st hE=>Bv hh st.1 st.2 (by simp) hE
theorem Io(l:Addr)(items:Array Value)(n:Nat)(dct:Option Addr)(sl:Array (Option Value)) :
 Meets (Builtin.«enumerate.__new__» ⟨[.type "enumerate", .ref l],[]⟩) (λ_ R s=>s.heap.get? l=some {cls:=.type "tuple", dict:=dct,data:=.seq items n,slots:=sl} /\
  R (.ok (.ret (.ref (s.heap.push {cls:=.type "tuple_iterator", data:=.fields #[.ref l,.int 0 0] }).objs.size)))
   {s with heap:=(s.heap.push {cls:=.type "tuple_iterator", data:=.fields #[.ref l,.int 0 0] }).push {cls:=.type "enumerate", data:=.fields #[.none,.bool false,.ref s.heap.objs.size,rawInt 0,.none,.none] } }):=
 .of_wp λprog w A R s h=>by
  obtain⟨hp,g,d,tk,os⟩:=s;obtain⟨hl,h⟩:=h
  have hsub:=sub_enumerate
  have hL:Heap.IsTuple (Shared.heap ⟨hp,g,d,tk,os⟩) l items:=⟨_,hl,rfl,n,rfl⟩
  wp_walk using AutoSeq1.wpAny_loadPart' hl
  refine wpAny_stack_any λst=>wpAny_pure ?_
  split
  ·rename_i c _ _ _ _ _
   cases (c==Value.type "enumerate")
   ·wp_walk using AutoSeq1.wpAny_loadPart' hl,wpAny_pyIter_tuple hL
    exact⟨_,rfl,h⟩
   ·wp_walk using AutoSeq1.wpAny_loadPart' hl,wpAny_pyIter_tuple hL
    exact⟨_,rfl,h⟩
  ·wp_walk using AutoSeq1.wpAny_loadPart' hl,wpAny_pyIter_tuple hL
   exact⟨_,rfl,h⟩
theorem Ip{prog:Program}{w:World}{A:Around}{E:Value->Shared->Prop}{s:Shared}{l:Addr}{items:Array Value}{Q:Value->Shared->Prop}(hL:s.heap.IsTuple l items)
 (h:∀h',IsEnum h' (s.heap.objs.size+1) s.heap.objs.size 0 .none->h'.IsTupleIter s.heap.objs.size l 0->h'.objs.size=s.heap.objs.size+2 ->
  (∀b o,s.heap.get? b=some o->h'.get? b=some o)->Q (.ref (s.heap.objs.size+1)) {s with heap:=h' }) :
 wpAny (model prog w) A (call (.type "enumerate") [.ref l]) Q E s:=by
 obtain⟨⟨c,dct,dt,sl⟩,hl,hc,n,hd⟩:=hL
 replace hc:c=.type "tuple" := hc
 replace hd:dt=.seq items n:=hd
 subst hc hd
 refine callType_new F.called_enumerate (by decide) (F.typeCall_enumerate_1 _) (F.newCall_enumerate_1 _) (λobj=>F.args_object_init_2 obj _) F.entry_enumerate_new
  (Io l items n dct sl) ⟨hl,?_⟩
 have hz:(s.heap.push {cls:=.type "tuple_iterator", data:=.fields #[.ref l,.int 0 0] }).objs.size=s.heap.objs.size+1:=Heap.size_push ..
 show _/\_
 rw[hz]
 have he:IsEnum ((s.heap.push {cls:=.type "tuple_iterator", data:=.fields #[.ref l,.int 0 0] }).push
  {cls:=.type "enumerate", data:=.fields #[.none,.bool false,.ref s.heap.objs.size,rawInt 0,.none,.none] }) (s.heap.objs.size+1) s.heap.objs.size 0 .none:=by
  have:=Heap.get?_push_size (s.heap.push {cls:=.type "tuple_iterator", data:=.fields #[.ref l,.int 0 0] })
   (o:={cls:=.type "enumerate", data:=.fields #[.none,.bool false,.ref s.heap.objs.size,rawInt 0,.none,.none] }) rfl
  rw[hz]at this;exact this
 refine⟨⟨_,he,rfl⟩,h _ he ⟨_,Heap.get?_push_of_some _ (Heap.get?_push_size _ rfl),rfl,rfl⟩ (by rw[Heap.size_push,hz]) λb o x=>Heap.get?_push_of_some _ (Heap.get?_push_of_some _ x)⟩
end Tr
namespace Tr
open PySem PySem.Spec PyProof.Rows L2 PySem.SeqAt
theorem Iq{M:Model}{A:Around}{E:Value->Shared->Prop}{s:Shared}{β:Type}{a b:Nat}(f:Nat->β->Sem (ForInStep β))(I:Nat->β->Shared->Prop)(Q:β->Shared->Prop)
 (turn:∀i c s,a<=i->i<b->I i c s->wpAny M A (f i c) (λr s'=>match r with | .yield c'=>I (i+1) c' s' | .done c'=>Q c' s') E s)
 (fin:∀c s,I (max a b) c s->Q c s) (c:β) (h:I a c s):wpAny M A (forIn [a:b] c f) Q E s:=by
 rw[Std.Legacy.Range.forIn_eq_forIn_range']
 have hsz:([a:b]:Std.Legacy.Range).size=b-a:=by simp[Std.Legacy.Range.size]
 show wpAny M A (forIn (iA a ([a:b]:Std.Legacy.Range).size 1) c f) Q E s
 rw[hsz]
 refine wpAny_forIn_list f (λl c s=>∃i,a<=i/\i<=max a b/\l=iA i (max a b-i) 1/\I i c s) Q ?_ ?_ _ c ⟨a,aN _,by lia,by congr 1;lia,h⟩
 ·rintro x rest c s ⟨i,hai,hib,hl,hI⟩
  have hlt:i<max a b:=by
   rcases Ac i (max a b)with h'|h'
   ·exact h'
   ·rw[show max a b-i=0 by lia]at hl;simp at hl
  obtain⟨n,hn⟩:∃n,max a b-i=n+1:=⟨max a b-i-1,by lia⟩
  rw[hn,Gg]at hl
  obtain⟨rfl,rfl⟩:=List.cons.inj hl
  refine wpAny_mono (turn x c s hai (by lia) hI) (λr s' h'=>?_) λ_ _ h'=>h'
  cases r with
  |done c'=>exact h'
  |yield c'=>exact⟨x+1,by lia,by lia,by congr 1;lia,h'⟩
 ·rintro c s ⟨i,hai,hib,hl,hI⟩
  have:i=max a b:=by
   rcases Ac i (max a b)with h'|h'
   ·obtain⟨n,hn⟩:∃n,max a b-i=n+1:=⟨max a b-i-1,by lia⟩
    rw[hn,Gg]at hl;simp at hl
   ·lia
  subst this;exact fin _ _ hI
theorem Ir(l:Addr)(items:Array Value)(n:Nat)(dd:Option Addr)(sl:Array (Option Value))(x:Value)(e:Value->Bool)(j:Nat)(hj:j<items.size)(h1:e items[j]=true)(h2:∀i (h:i<items.size),i<j->e items[i]=false) :
 Meets (Builtin.«tuple.index» ⟨[.ref l,x],[]⟩)
  (λA R s=>s.heap.get? l=some {cls:=.type "tuple", dict:=dd,data:=.seq items n,slots:=sl}/\(∀y,y∈items->EqAt A.in1 s y x (e y))/\R (.ok (.ret (.int j s.toks))) {s with toks:=s.toks+1}):=
 .of_wp λprog w A R s h=>by
  obtain⟨hp,g,d,tk,os⟩:=s;obtain⟨hl,he,h⟩:=h
  wp_walk using AutoSeq1.wpAny_loadPart' hl,Iq _ (λi b s'=>b.1=none/\s'=⟨hp,g,d,tk,os⟩/\i<=j) _
  case turn=>
   rintro i b s'-hi ⟨hb,rfl,hij⟩
   have hi':i<items.size:=by lia
   have e1:items[i]?=some items[i]:=by simp[hi']
   rw[e1]
   refine wpAny_bind (he items[i] (by simp) prog w _ _ ?_)
   by_cases hy:i=j
   ·subst hy
    rw[h1]
    wp_walk
    exact⟨_,rfl,by simpa using h⟩
   ·rw[h2 i hi' (by lia)]
    wp_walk
    exact⟨rfl,rfl,by lia⟩
  case fin=>
   rintro⟨b1,b2⟩ s' ⟨hb,rfl,hij⟩
   lia
  case h=>
   exact⟨rfl,rfl,eT _⟩
noncomputable def sA (K:PySem.W.Frag) (a:Addr) (ss:List Str):Prop:=∃(o:Obj) (its:Array Value) (n:Nat),K.lookup a=some o/\o.cls=.type "tuple" /\ o.dict=none/\o.data=.seq its n/\Vals (ss.map V.str) its.toList
noncomputable def rIdx(K:PySem.W.Frag):V->List V->Hp->VK->Prop:=λx vs H Q=>∃a ss z,x=.ref a/\vs=[.str z]/\sA K a ss/\z∈ss/\Q (.int (ss.idxOf z:Nat)) H
noncomputable def isStrV(z:Str):Value->Bool
 |.str y _=>y==z
 |_=>false
theorem Bw{z:Str}:∀{ss:List Str} {i:Nat} {y:Str},i<ss.idxOf z->ss[i]?=some y->(y==z)=false
 |n::r,0,y,h,e=>by
  by_cases q:n=z
  ·subst q;simp at h
  ·simp at e;subst e;simpa using q
 |n::r,i+1,y,h,e=>by
  by_cases q:n=z
  ·subst q;simp at h
  ·have hb:(n==z)=false:=by simpa using q
   rw[List.idxOf_cons,hb]at h
   exact Bw (uV h) (by simpa using e)
theorem Iu {X:Cx}:MtR X "tuple.index" (rIdx X.K):=by
 intro pins s σ H x vs v us Q I rx rv h
 obtain⟨a,ss,z,rfl,rfl,⟨⟨cls,dd,dt,sl⟩,its,n,hk,hc,hd,hs,hv⟩,hz,q⟩:=h
 cases rx
 obtain⟨u,rfl,ru⟩:=rv.one
 obtain⟨t,rfl⟩:=ru
 have ho:=I.kIn a _ hk
 replace hc:cls=.type "tuple" := hc
 replace hs:dt=.seq its n:=hs
 subst hc hs
 have hl:its.size=ss.length:=by rw[<-qY,<-hv.length,aD]
 have hj:ss.idxOf z<ss.length:=List.idxOf_lt_length_iff.mpr hz
 have at_:∀i (hi:i<its.size),∃y t',ss[i]?=some y/\its[i]=.str y t':=λi hi=>by
  have h1:(ss.map V.str)[i]?=some (.str ss[i]):=by rw[cE,aR (by lia)];rfl
  obtain⟨u,h2,t',h3⟩:=hv.get h1
  have h4:its[i]?=some u:=by rw[<-Gk];exact h2
  have h5:its[i]=u:=by
   have:=Array.getElem?_eq_getElem hi
   rw[this]at h4;cases h4;rfl
  exact⟨ss[i],t',aR (by lia),by rw[h5,h3]⟩
 refine call_meets PySem.F.slot_tuple_index ⟨_,ho,rfl⟩ PySem.F.entry_tuple_index (PySem.F.args_tuple_index_2 _ _)
  (Ir a its n dd sl (.str z t) (isStrV z) (ss.idxOf z) (by lia) ?_ ?_) ⟨ho,λy hy=>?_,?_⟩
 ·obtain⟨y,t',h1,h2⟩:=at_ (ss.idxOf z) (by lia)
  rw[h2]
  rw[aR hj,List.getElem_idxOf hj]at h1
  cases h1
  show(z==z)=true
  simp
 ·intro i hi hlt
  obtain⟨y,t',h1,h2⟩:=at_ i hi
  rw[h2]
  exact Bw hlt h1
 ·obtain⟨i,hi,rfl⟩:=Array.mem_iff_getElem.mp hy
  obtain⟨y,t',h1,h2⟩:=at_ i hi
  rw[h2]
  exact EqAt.str_str y t' z t
 ·exact⟨.int _,H,I.kept (t':=s.toks+1) (λb o e=>e),⟨_,rfl⟩,q⟩
end Tr
namespace Tr
open PySem PySem.Spec PyProof.Rows L2
noncomputable def met(val:Nat->Key):Nat->List Key
 |0=>[]
 |i+1=>if(met val i).any (λx=>decide (x=val i))then met val i else met val i++[val i]
theorem Bx(val:Nat->Key):∀i,(met val i).length<=i
 |0=>aN _
 |i+1=>by
  have ih:=Bx val i
  rw[met]
  split
  ·lia
  ·rw[cP,iQ];lia
theorem Iv(val:Nat->Key)(i:Nat)(k:Key):(met val (i+1)).any (λx=>decide (x=k))=((met val i).any (λx=>decide (x=k))||decide (k=val i)):=by
 rw[met]
 split
 ·rename_i h
  by_cases e:k=val i
  ·subst e;rw[h];simp
  ·simp[e]
 ·rw[List.any_append]
  by_cases e:k=val i
  ·subst e;simp
  ·have e':¬val i=k:=λh=>e h.symm
   simp[e,e']
theorem Iw(val:Nat->Key)(i:Nat):(met val (i+1)).length=if(met val i).any (λx=>decide (x=val i))then(met val i).length else(met val i).length+1:=by
 rw[met];split<;>simp
section
variable{prog:Program}{w:World}{A:Around}{R:Result->Shared->Prop}{I:Addr}{fp wr:List Addr}{G:Array GenState->Array GenState->Prop}{n:Nat}{P:Nat->Value->Prop}{St:Nat->Shared->Prop}
theorem vU(W:WalksS prog w A.in1 I fp wr G n P St)(S:Addr)(hSf:S∉fp)(val:Nat->Key)(hval:∀i v,P i v->(cG prog w).is (val i) v=true/\v.scannable=true)(hb:n+1<scanBound) :
 ∀(k i:Nat)(s:Shared),n-i=k->i<=n->St i s ->
  s.heap.SetOf (cG prog w) S (λk'=>(met val i).any (λx=>decide (x=k'))) (met val i).length ->
  (∀s',Moved (S::wr) G s s'->s'.heap.SetOf (cG prog w) S (λk'=>(met val n).any (λx=>decide (x=k'))) (met val n).length->R (.ok (.ret .none)) s') ->
  codeAny (model prog w) A (.builtin "set.update.loop" ⟨[.ref S,.ref I],[]⟩) R s:=by
 have hSw:S∉wr:=λh=>hSf (W.sub _ h)
 have hsub:∀b∈wr,b∈S::wr:=λb hb=>aY _ hb
 intro k
 induction k with
 |zero=>
  intro i s hk hi hst hS hR
  have hin:i=n:=by lia
  subst hin
  refine codeAny_builtin PyProof.Rows.F.entry_set_update_loop ?_
  rw[Around.under_plainId PyProof.Rows.F.plain_set_update_loop _]
  show wpAny _ A.in1 (pyNext (.ref I)>>=_) _ _ s
  refine wpAny_bind (W.done s _ _ hst λs' hm=>?_)
  show wpAny _ A.in1 (ret Value.none) _ _ s'
  exact wpAny_pure (hR s' (hm.mono hsub) (by
   obtain⟨o,es,ep,t,ho,rest⟩:=hS
   exact⟨o,es,ep,t,hm.heap S _ hSw ho,rest⟩))
 |succ k ih=>
  intro i s hk hi hst hS hR
  have hlt:i<n:=by lia
  refine codeAny_builtin PyProof.Rows.F.entry_set_update_loop ?_
  rw[Around.under_plainId PyProof.Rows.F.plain_set_update_loop _]
  show wpAny _ A.in1 (pyNext (.ref I)>>=_) _ _ s
  refine wpAny_bind (W.item i s _ _ hlt hst λv s' hP hst' hm=>?_)
  obtain⟨hv,hsc⟩:=hval i v hP
  have hS':s'.heap.SetOf (cG prog w) S (λk'=>(met val i).any (λx=>decide (x=k'))) (met val i).length:=by
   obtain⟨o,es,ep,tb,ho,rest⟩:=hS
   exact⟨o,es,ep,tb,hm.heap S _ hSw ho,rest⟩
  show wpAny _ A.in1 (holding [v] (setAdd S v)>>=_) _ _ s'
  refine wpAny_bind (wpAny_holding ?_)
  unfold setAdd
  refine wpAny_holding ?_
  refine wpAny_bind ((cG prog w).pyHash (k:=val i) hv ?_)
  have hroom:(met val i).length+1<scanBound:=by have:=Bx val i;lia
  refine wpAny_setAddHashed_of (knd:=cG prog w) (s:={s' with toks:=s'.toks+1}) hv hsc hS' hroom λh' hsb hS2=>?_
  have hSi:h'.SetOf (cG prog w) S (λk'=>(met val (i+1)).any (λx=>decide (x=k'))) (met val (i+1)).length:=by
   have e1:(λk'=>(met val (i+1)).any (λx=>decide (x=k')))=(λk'=>(met val i).any (λx=>decide (x=k'))||decide (k'=val i)):=funext λk'=>Iv val i k'
   rw[e1,Iw]
   exact hS2
  refine wpAny_pure ⟨plainId_quiet PyProof.Rows.F.plain_set_update_loop _,ih (i+1) _ (by lia) hlt (W.frame _ s' _ _ hst' (oS _) λb hb o e=>?_) hSi λs'' hm'' hS''=>?_⟩
  ·rw[hsb.2 b (λh:b=S=>hSf (by rw[<-h];exact hb))];exact e
  ·refine hR s'' (Moved.trans W.gtrans ((hm.mono hsub).then_heap (oS _) λb o hb e=>?_) hm'') hS''
   rw[hsb.2 b (λh:b=S=>hb (by rw[h];exact bA))];exact e
end
section
variable{prog:Program}{w:World}{A:Around}{E:Value->Shared->Prop}{s:Shared}
set_option maxHeartbeats 3200000 in
theorem Iy{l:Addr}{items:Array Value}{val:Nat->Key}{Q:Value->Shared->Prop}(hh:A.handled=none)(hl:s.heap.IsList l items)(hval:∀i v,items[i]?=some v->(cG prog w).is (val i) v=true/\v.scannable=true)(hb:items.size+1<scanBound)
 (h:∀(h':Heap)(tk:Nat),h'.SetOf (cG prog w) s.heap.objs.size (λk'=>(met val items.size).any (λx=>decide (x=k'))) (met val items.size).length ->
  (∀b o,b<s.heap.objs.size->s.heap.get? b=some o->h'.get? b=some o)->Q (.ref s.heap.objs.size) {s with heap:=h',toks:=tk}) :
 wpAny (model prog w) A (call (.type "set") [.ref l]) Q E s:=by
 obtain⟨c,tl,hmro⟩:=F.called_set.mro
 have hmade:=F.called_set.made
 have hsub:=F.called_set.sub
 refine wpAny_call (codeAny_of_tree ?_)
 show wpAny _ _ (callAny (.type "set") _) _ _ _
 refine wpAny_pure ⟨Code.quiet_builtin _ (by decide +kernel),codeAny_builtin F.entry_type_call ?_⟩
 rw[Around.under_plain (weight_type_call_type "set" [.ref l] []) rfl]
 have h1:=F.called_set.notType
 have h2:=F.called_set.canCreate
 have hct:=F.typeCall_set_1 (.ref l)
 repeat(any_goals(first|assumption|wp_step))
 refine codeAny_mono (code_set_new_1 (.ref l) (E:=E) (Q₁:=λobj su=>∃led:Bool,obj=.ref s.heap.objs.size/\su={s with heap:=s.heap.push {cls:=.type "set", dict:=none,data:=.set #[] 0 (.fresh 0 0 led) } }) λled=>⟨led,rfl,rfl⟩) λr su hr=>?_
 cases r with
 |error e=>exact hr
 |ok fl=>
  cases fl with
  |ret obj=>
   obtain⟨led,rfl,rfl⟩:=hr
   have hS:(s.heap.push {cls:=.type "set", dict:=none,data:=.set #[] 0 (.fresh 0 0 led) }).get? s.heap.objs.size=some {cls:=.type "set", dict:=none,data:=.set #[] 0 (.fresh 0 0 led) }:=Heap.get?_push_size _ rfl
   have hT:Shared.TypeIs {s with heap:=s.heap.push {cls:=.type "set", dict:=none,data:=.set #[] 0 (.fresh 0 0 led) } } (.ref s.heap.objs.size) "set" := ⟨_,hS,rfl⟩
   have hli:=F.called_set.init.lookup
   have hbi:=F.called_set.init.bind (.ref s.heap.objs.size)
   repeat(any_goals(first|assumption|wp_step))
   refine codeAny_mono (codeAny_call_builtin (R:=wants (λr sv=>r=.none/\∃h' tk,sv={s with heap:=h',toks:=tk} /\
    h'.SetOf (cG prog w) s.heap.objs.size (λk'=>(met val items.size).any (λx=>decide (x=k'))) (met val items.size).length /\
    (∀b o,b<s.heap.objs.size->s.heap.get? b=some o->h'.get? b=some o)) E) F.called_set.init.plain F.entry_set_init (check_set_init_1 hT ?_)) λrh sv hrh=>?_
   ·generalize hpu:s.heap.push {cls:=.type "set", dict:=none,data:=.set #[] 0 (.fresh 0 0 led) }=hp1 at *
    have hz:hp1.objs.size=s.heap.objs.size+1:=by rw[<-hpu];exact Heap.size_push ..
    have hold:∀b o,s.heap.get? b=some o->hp1.get? b=some o:=λb o e=>by rw[<-hpu];exact Heap.get?_push_of_some _ e
    obtain⟨ol,hol,hcl,nl,hdl⟩:=hl
    obtain⟨ocls,odict,odata,oslots⟩:=ol
    simp only at hcl hdl
    subst hcl;subst hdl
    have hol':hp1.get? l=some {cls:=.type "list", dict:=odict,data:=.seq items nl,slots:=oslots}:=hold _ _ hol
    have hsls:=F.sub_list_set
    have hslf:=F.sub_list_frozenset
    have hne:(Value.type "list" == Value.type "dict")=false:=by decide
    have hl1:hp1.IsList l items:=⟨_,hol',rfl,nl,rfl⟩
    have hlS:l<s.heap.objs.size:=Heap.lt_size hol
    have hneI:l≠hp1.objs.size:=by rw[hz];exact cC (rG hlS)
    unfold Builtin.«set.__init__» noKeywords Builtin.Frozenset.updateFrom
    generalize hPI:pyIter=PI
    wp_walk
    subst hPI
    refine wpAny_pyIter_list hl1 ?_
    refine wpAny_bind (wpAny_runValue ?_)
    have hh3:A.in1.in1.in1.handled=none:=by simp[hh]
    refine vU ((Walks.list hh3 _ l hneI items).toS) s.heap.objs.size (by rw[hz];simp only[bL,fX,iS,or_false,not_or];exact⟨cC (Ad _),qZ hlS⟩) val hval hb (items.size-0) 0 _ (by lia) (eT _) ⟨⟨_,Heap.get?_push_size _ rfl,rfl,rfl⟩,(hl1.push _)⟩ ?hS0 ?hR
    case hS0=>
     have hget:(hp1.push {cls:=.type "list_iterator", data:=.fields #[.ref l,.int 0 0] }).get? s.heap.objs.size
      = some {cls:=.type "set", dict:=none,data:=.set #[] 0 (.fresh 0 0 led) }:=Heap.get?_push_of_some _ hS
     letI:BEq Key:=instBEqOfDecidableEq
     haveI:LawfulBEq Key:=inferInstance
     exact(PyProof.Rows.setObjOf_fresh (knd:=cG prog w) led).setOf hget (by unfold scanBound;lia)
    case hR=>
     intro s' hm hS'
     obtain⟨h',g',d',tk',os'⟩:=s'
     have eg:g'=s.gens:=hm.gens
     have ed:d'=s.drawn:=hm.drawn
     have eo:os'=s.os:=hm.os
     subst eg;subst ed;subst eo
     show wpAny _ _ _ _ _ _
     refine wpAny_pure ?_
     show wpAny _ _ (ret Value.none) _ _ _
     refine wpAny_pure ⟨rfl,h',tk',rfl,hS',λb o hb e=>?_⟩
     have hb1:b≠s.heap.objs.size:=cC hb
     have hb2:b≠hp1.objs.size:=by rw[hz];exact cC (rG hb)
     exact hm.heap b o (by simp only[bL,fX,iS,or_false,not_or];exact⟨hb1,hb2⟩) (Heap.get?_push_of_some _ (hold _ _ e))
   ·cases rh with
    |error e=>exact hrh
    |ok fl2=>
     cases fl2 with
     |ret r=>
      obtain⟨rfl,h',tk,rfl,hS',hk'⟩:=hrh
      repeat(any_goals(first|assumption|wp_step))
      exact h _ _ hS' hk'
     |_=>exact hrh.elim
  |_=>exact hr.elim
end
section
variable{prog:Program}{w:World}{A:Around}{E:Value->Shared->Prop}{s:Shared}
set_option maxHeartbeats 3200000 in
theorem Iz{x:Str}{t:Tok}{val:Nat->Key}{Q:Value->Shared->Prop}(hh:A.handled=none)(hval:∀i v,SignAt x i v->(cG prog w).is (val i) v=true/\v.scannable=true)(hb:x.cps.size+1<scanBound)
 (h:∀(h':Heap)(tk:Nat),h'.SetOf (cG prog w) s.heap.objs.size (λk'=>(met val x.cps.size).any (λx=>decide (x=k'))) (met val x.cps.size).length ->
  (∀b o,b<s.heap.objs.size->s.heap.get? b=some o->h'.get? b=some o)->Q (.ref s.heap.objs.size) {s with heap:=h',toks:=tk}) :
 wpAny (model prog w) A (call (.type "set") [.str x t]) Q E s:=by
 obtain⟨c,tl,hmro⟩:=F.called_set.mro
 have hmade:=F.called_set.made
 have hsub:=F.called_set.sub
 refine wpAny_call (codeAny_of_tree ?_)
 show wpAny _ _ (callAny (.type "set") _) _ _ _
 refine wpAny_pure ⟨Code.quiet_builtin _ (by decide +kernel),codeAny_builtin F.entry_type_call ?_⟩
 rw[Around.under_plain (weight_type_call_type "set" [.str x t] []) rfl]
 have h1:=F.called_set.notType
 have h2:=F.called_set.canCreate
 have hct:=F.typeCall_set_1 (.str x t)
 repeat(any_goals(first|assumption|wp_step))
 refine codeAny_mono (code_set_new_1 (.str x t) (E:=E) (Q₁:=λobj su=>∃led:Bool,obj=.ref s.heap.objs.size/\su={s with heap:=s.heap.push {cls:=.type "set", dict:=none,data:=.set #[] 0 (.fresh 0 0 led) } }) λled=>⟨led,rfl,rfl⟩) λr su hr=>?_
 cases r with
 |error e=>exact hr
 |ok fl=>
  cases fl with
  |ret obj=>
   obtain⟨led,rfl,rfl⟩:=hr
   have hS:(s.heap.push {cls:=.type "set", dict:=none,data:=.set #[] 0 (.fresh 0 0 led) }).get? s.heap.objs.size=some {cls:=.type "set", dict:=none,data:=.set #[] 0 (.fresh 0 0 led) }:=Heap.get?_push_size _ rfl
   have hT:Shared.TypeIs {s with heap:=s.heap.push {cls:=.type "set", dict:=none,data:=.set #[] 0 (.fresh 0 0 led) } } (.ref s.heap.objs.size) "set" := ⟨_,hS,rfl⟩
   have hli:=F.called_set.init.lookup
   have hbi:=F.called_set.init.bind (.ref s.heap.objs.size)
   repeat(any_goals(first|assumption|wp_step))
   refine codeAny_mono (codeAny_call_builtin (R:=wants (λr sv=>r=.none/\∃h' tk,sv={s with heap:=h',toks:=tk} /\
    h'.SetOf (cG prog w) s.heap.objs.size (λk'=>(met val x.cps.size).any (λx=>decide (x=k'))) (met val x.cps.size).length /\
    (∀b o,b<s.heap.objs.size->s.heap.get? b=some o->h'.get? b=some o)) E) F.called_set.init.plain F.entry_set_init (check_set_init_1 hT ?_)) λrh sv hrh=>?_
   ·generalize hpu:s.heap.push {cls:=.type "set", dict:=none,data:=.set #[] 0 (.fresh 0 0 led) }=hp1 at *
    have hz:hp1.objs.size=s.heap.objs.size+1:=by rw[<-hpu];exact Heap.size_push ..
    have hold:∀b o,s.heap.get? b=some o->hp1.get? b=some o:=λb o e=>by rw[<-hpu];exact Heap.get?_push_of_some _ e
    have hsls:=PySem.F.sub_str_set
    have hslf:=PySem.F.sub_str_frozenset
    have hne:(Value.type "str" == Value.type "dict")=false:=by decide
    unfold Builtin.«set.__init__» noKeywords Builtin.Frozenset.updateFrom
    generalize hPI:pyIter=PI
    wp_walk
    subst hPI
    refine wpAny_pyIter_str λito St hW st0=>?_
    refine wpAny_bind (wpAny_runValue ?_)
    have hh3:A.in1.in1.in1.handled=none:=by simp[hh]
    refine vU ((hW _ hh3).toS) s.heap.objs.size (by show s.heap.objs.size∉[hp1.objs.size];rw[hz];simp only[fX];exact cC (Ad _)) val hval hb (x.cps.size-0) 0 _ (by lia) (eT _) st0 ?hS0 ?hR
    case hS0=>
     have hget:(hp1.push ito).get? s.heap.objs.size
      = some {cls:=.type "set", dict:=none,data:=.set #[] 0 (.fresh 0 0 led) }:=Heap.get?_push_of_some _ hS
     letI:BEq Key:=instBEqOfDecidableEq
     haveI:LawfulBEq Key:=inferInstance
     exact(PyProof.Rows.setObjOf_fresh (knd:=cG prog w) led).setOf hget (by unfold scanBound;lia)
    case hR=>
     intro s' hm hS'
     obtain⟨h',g',d',tk',os'⟩:=s'
     have eg:g'=s.gens:=hm.gens
     have ed:d'=s.drawn:=hm.drawn
     have eo:os'=s.os:=hm.os
     subst eg;subst ed;subst eo
     show wpAny _ _ _ _ _ _
     refine wpAny_pure ?_
     show wpAny _ _ (ret Value.none) _ _ _
     refine wpAny_pure ⟨rfl,h',tk',rfl,hS',λb o hb e=>?_⟩
     have hb1:b≠s.heap.objs.size:=cC hb
     have hb2:b≠hp1.objs.size:=by rw[hz];exact cC (rG hb)
     exact hm.heap b o (by simp only[bL,fX,iS,or_false,not_or];exact⟨hb1,hb2⟩) (Heap.get?_push_of_some _ (hold _ _ e))
   ·cases rh with
    |error e=>exact hrh
    |ok fl2=>
     cases fl2 with
     |ret r=>
      obtain⟨rfl,h',tk,rfl,hS',hk'⟩:=hrh
      repeat(any_goals(first|assumption|wp_step))
      exact h _ _ hS' hk'
     |_=>exact hrh.elim
  |_=>exact hr.elim
end
noncomputable def KeysV(K:PySem.W.Frag)(H:Hp)(v:V)(ks:List Key):Prop:=(∃a,v=.ref a/\SqL K H a (ks.map kV))\/∃x:Str,v=.str x/\ks=x.cps.toList.map λc=>.inr ⟨#[c]⟩
theorem By(ks:List Key):∀n,n<=ks.length->met (λi=>ks.getD i (.inl 0)) n=iD (ks.take n)
 |0,_=>by rw[Ob];rfl
 |n+1,h=>by
  have ih:=By ks n (by lia)
  have e:ks.take (n+1)=ks.take n++[ks.getD n (.inl 0)]:=by
   rw[List.take_succ,gI,aR (by lia:n<ks.length)]
   rfl
  rw[met,ih,e]
  unfold iD
  rw[Oc]
  rfl
theorem vV(ks:List Key):met (λi=>ks.getD i (.inl 0)) ks.length=iD ks:=by rw[By ks _ (aN _),Od]
theorem Bz{P:Program}{w:World}{k:Key}{v:Value}(r:RelV (kV k) v):(cG P w).is k v=true/\v.scannable=true:=by
 cases k with
 |inl i=>obtain⟨t,rfl⟩:=(show ∃t,v=.int i t from r);exact⟨Gz P w i t,rfl⟩
 |inr x=>obtain⟨t,rfl⟩:=(show ∃t,v=.str x t from r);exact⟨Al P w x t,rfl⟩
section
variable{prog:Program}{w:World}{A:Around}{R:Result->Shared->Prop}{it:Addr}{fp wr:List Addr}{n:Nat}{P:Nat->Value->Prop}{St:Nat->Heap->Prop}
end
section
variable{prog:Program}{w:World}{A:Around}{E:Value->Shared->Prop}{s:Shared}
end
section
variable{prog:Program}{w:World}{A:Around}{R:Result->Shared->Prop}{I:Addr}{fp wr:List Addr}{G:Array GenState->Array GenState->Prop}{n:Nat}{P:Nat->Value->Prop}{St:Nat->Shared->Prop}
end
section
variable{prog:Program}{w:World}{A:Around}{E:Value->Shared->Prop}{s:Shared}
end
section
variable{prog:Program}{w:World}{A:Around}{E:Value->Shared->Prop}{s:Shared}
end
section
variable{prog:Program}{w:World}{A:Around}{E:Value->Shared->Prop}{s:Shared}
end
section
variable{prog:Program}{w:World}{A:Around}{E:Value->Shared->Prop}{s:Shared}
end
section
variable{prog:Program}{w:World}{A:Around}{E:Value->Shared->Prop}{s:Shared}
end
section
variable{prog:Program}{w:World}{A:Around}{E:Value->Shared->Prop}{s:Shared}{l:Addr}{xs:Array (Int×Tok)}
end
section
variable{prog:Program}{w:World}{A:Around}{E:Value->Shared->Prop}{s:Shared}{l:Addr}{its:List Value}
end
end Tr
namespace Tr
open PySem
noncomputable def JA(k:List Nat):Int:=reduceHash (Builtin.Tuple.tupleHashOf ((k.map λa:Nat=>(a:Int)).map hashInt))
end Tr
namespace Tr
open PySem PySem.Spec PyProof.Rows L2
noncomputable def PSet(h:Heap)(S:Addr)(ks:List (List Nat)):Prop:=
 ∃o es ep t,h.get? S=some o/\o.ExactSet/\o.data=.set es ep t/\t.dummies=#[]/\t.place.size=es.size/\es.size=ks.length/\(∀e∈es.toList,e.1∈ks.map λk=>JA k)/\(t.mask=7/\es.size<5\/t.mask=31/\es.size<19\/t.mask=127)
section
variable{prog:Program}{w:World}{A:Around}{E:Value->Shared->Prop}{s:Shared}
end
section
variable{prog:Program}{w:World}{A:Around}{E:Value->Shared->Prop}{s:Shared}
end
section
variable{prog:Program}{w:World}{A:Around}{E:Value->Shared->Prop}{s:Shared}
end
section
variable{prog:Program}{w:World}{A:Around}{R:Result->Shared->Prop}{I:Addr}{fp wr:List Addr}{G:Array GenState->Array GenState->Prop}{n:Nat}{P:Nat->Value->Prop}{St:Nat->Shared->Prop}
end
section
variable{prog:Program}{w:World}{A:Around}{E:Value->Shared->Prop}{s:Shared}
end
section
variable{prog:Program}{w:World}{A:Around}{E:Value->Shared->Prop}{s:Shared}
set_option maxHeartbeats 3200000 in
theorem JB{l:Addr}{items:Array Value}{val:Nat->Key}{Q:Value->Shared->Prop}(hh:A.handled=none)(hl:s.heap.IsTuple l items)(hval:∀i v,items[i]?=some v->(cG prog w).is (val i) v=true/\v.scannable=true)(hb:items.size+1<scanBound)
 (h:∀(h':Heap)(tk:Nat),h'.SetOf (cG prog w) s.heap.objs.size (λk'=>(met val items.size).any (λx=>decide (x=k'))) (met val items.size).length ->
  (∀b o,b<s.heap.objs.size->s.heap.get? b=some o->h'.get? b=some o)->Q (.ref s.heap.objs.size) {s with heap:=h',toks:=tk}) :
 wpAny (model prog w) A (call (.type "set") [.ref l]) Q E s:=by
 obtain⟨c,tl,hmro⟩:=F.called_set.mro
 have hmade:=F.called_set.made
 have hsub:=F.called_set.sub
 refine wpAny_call (codeAny_of_tree ?_)
 show wpAny _ _ (callAny (.type "set") _) _ _ _
 refine wpAny_pure ⟨Code.quiet_builtin _ (by decide +kernel),codeAny_builtin F.entry_type_call ?_⟩
 rw[Around.under_plain (weight_type_call_type "set" [.ref l] []) rfl]
 have h1:=F.called_set.notType
 have h2:=F.called_set.canCreate
 have hct:=F.typeCall_set_1 (.ref l)
 repeat(any_goals(first|assumption|wp_step))
 refine codeAny_mono (code_set_new_1 (.ref l) (E:=E) (Q₁:=λobj su=>∃led:Bool,obj=.ref s.heap.objs.size/\su={s with heap:=s.heap.push {cls:=.type "set", dict:=none,data:=.set #[] 0 (.fresh 0 0 led) } }) λled=>⟨led,rfl,rfl⟩) λr su hr=>?_
 cases r with
 |error e=>exact hr
 |ok fl=>
  cases fl with
  |ret obj=>
   obtain⟨led,rfl,rfl⟩:=hr
   have hS:(s.heap.push {cls:=.type "set", dict:=none,data:=.set #[] 0 (.fresh 0 0 led) }).get? s.heap.objs.size=some {cls:=.type "set", dict:=none,data:=.set #[] 0 (.fresh 0 0 led) }:=Heap.get?_push_size _ rfl
   have hT:Shared.TypeIs {s with heap:=s.heap.push {cls:=.type "set", dict:=none,data:=.set #[] 0 (.fresh 0 0 led) } } (.ref s.heap.objs.size) "set" := ⟨_,hS,rfl⟩
   have hli:=F.called_set.init.lookup
   have hbi:=F.called_set.init.bind (.ref s.heap.objs.size)
   repeat(any_goals(first|assumption|wp_step))
   refine codeAny_mono (codeAny_call_builtin (R:=wants (λr sv=>r=.none/\∃h' tk,sv={s with heap:=h',toks:=tk} /\
    h'.SetOf (cG prog w) s.heap.objs.size (λk'=>(met val items.size).any (λx=>decide (x=k'))) (met val items.size).length /\
    (∀b o,b<s.heap.objs.size->s.heap.get? b=some o->h'.get? b=some o)) E) F.called_set.init.plain F.entry_set_init (check_set_init_1 hT ?_)) λrh sv hrh=>?_
   ·generalize hpu:s.heap.push {cls:=.type "set", dict:=none,data:=.set #[] 0 (.fresh 0 0 led) }=hp1 at *
    have hz:hp1.objs.size=s.heap.objs.size+1:=by rw[<-hpu];exact Heap.size_push ..
    have hold:∀b o,s.heap.get? b=some o->hp1.get? b=some o:=λb o e=>by rw[<-hpu];exact Heap.get?_push_of_some _ e
    obtain⟨ol,hol,hcl,nl,hdl⟩:=hl
    obtain⟨ocls,odict,odata,oslots⟩:=ol
    simp only at hcl hdl
    subst hcl;subst hdl
    have hol':hp1.get? l=some {cls:=.type "tuple", dict:=odict,data:=.seq items nl,slots:=oslots}:=hold _ _ hol
    have hsls:=PySem.F.sub_tuple_set
    have hslf:=PySem.F.sub_tuple_frozenset
    have hne:(Value.type "tuple" == Value.type "dict")=false:=by decide
    have hl1:hp1.IsTuple l items:=⟨_,hol',rfl,nl,rfl⟩
    have hlS:l<s.heap.objs.size:=Heap.lt_size hol
    have hneI:l≠hp1.objs.size:=by rw[hz];exact cC (rG hlS)
    unfold Builtin.«set.__init__» noKeywords Builtin.Frozenset.updateFrom
    generalize hPI:pyIter=PI
    wp_walk
    subst hPI
    refine wpAny_pyIter_tuple hl1 ?_
    refine wpAny_bind (wpAny_runValue ?_)
    have hh3:A.in1.in1.in1.handled=none:=by simp[hh]
    refine vU ((Walks.tuple hh3 _ l hneI items).toS) s.heap.objs.size (by rw[hz];simp only[bL,fX,iS,or_false,not_or];exact⟨cC (Ad _),qZ hlS⟩) val hval hb (items.size-0) 0 _ (by lia) (eT _) ⟨⟨_,Heap.get?_push_size _ rfl,rfl,rfl⟩,(hl1.push _)⟩ ?hS0 ?hR
    case hS0=>
     have hget:(hp1.push {cls:=.type "tuple_iterator", data:=.fields #[.ref l,.int 0 0] }).get? s.heap.objs.size
      = some {cls:=.type "set", dict:=none,data:=.set #[] 0 (.fresh 0 0 led) }:=Heap.get?_push_of_some _ hS
     letI:BEq Key:=instBEqOfDecidableEq
     haveI:LawfulBEq Key:=inferInstance
     exact(PyProof.Rows.setObjOf_fresh (knd:=cG prog w) led).setOf hget (by unfold scanBound;lia)
    case hR=>
     intro s' hm hS'
     obtain⟨h',g',d',tk',os'⟩:=s'
     have eg:g'=s.gens:=hm.gens
     have ed:d'=s.drawn:=hm.drawn
     have eo:os'=s.os:=hm.os
     subst eg;subst ed;subst eo
     show wpAny _ _ _ _ _ _
     refine wpAny_pure ?_
     show wpAny _ _ (ret Value.none) _ _ _
     refine wpAny_pure ⟨rfl,h',tk',rfl,hS',λb o hb e=>?_⟩
     have hb1:b≠s.heap.objs.size:=cC hb
     have hb2:b≠hp1.objs.size:=by rw[hz];exact cC (rG hb)
     exact hm.heap b o (by simp only[bL,fX,iS,or_false,not_or];exact⟨hb1,hb2⟩) (Heap.get?_push_of_some _ (hold _ _ e))
   ·cases rh with
    |error e=>exact hrh
    |ok fl2=>
     cases fl2 with
     |ret r=>
      obtain⟨rfl,h',tk,rfl,hS',hk'⟩:=hrh
      repeat(any_goals(first|assumption|wp_step))
      exact h _ _ hS' hk'
     |_=>exact hrh.elim
  |_=>exact hr.elim
end
variable{X:Cx}
noncomputable def SetY(P:Program)(w:World)(p:Addr)(n:Nat):HO:=.ext λh=>(∃S,h.SetOf (cG P w) p S n)\/∃ks,PSet h p ks/\ks.length=n/\n<=72
noncomputable def CA(K:PySem.W.Frag)(H:Hp)(v:V)(n:Nat):Prop:=
 (∃ks,KeysV K H v ks/\ks.length+1<scanBound/\n=(iD ks).length)\/(∃a ks,v=.ref a/\SqT K H a (ks.map kV)/\ks.length+1<scanBound/\n=(iD ks).length)
theorem JC (hc:X.calm=true) (hr:X.A.units+64<cLine):dB X (.type "set") (λvs H Q=>∃v n,vs=[v]/\CA X.K H v n/\∀p,H p=none->Q (.ref p) (upd H p (SetY X.prog X.w p n))):=by
 intro pins s σ H vs us Q I rv h
 obtain⟨v,n,rfl,hk,q⟩:=h
 obtain⟨u,rfl,ru⟩:=rv.one
 have fin:∀(h':Heap)(tk:Nat),((∃S,h'.SetOf (cG X.prog X.w) s.heap.objs.size S n)\/∃ks,PSet h' s.heap.objs.size ks/\ks.length=n/\n<=72)->(∀b o,b<s.heap.objs.size->s.heap.get? b=some o->h'.get? b=some o)->EP X pins σ Q (.ref s.heap.objs.size) {s with heap:=h',toks:=tk}:=by
  intro h' tk hS hkeep
  have fr:H s.heap.objs.size=none:=I.hok.fresh (aN _)
  refine⟨.ref s.heap.objs.size,_,I.laid (t':=tk) (λb o e=>hkeep b o (Heap.lt_size e) e) (aN _) ?_,rfl,q _ fr⟩
  refine⟨hS,?_,λh1 h2 p1 k=>?_⟩
  ·rcases hS with⟨S,o,_,_,_,e,_⟩|⟨ks,⟨o,_,_,_,e,_⟩,_⟩
   ·exact⟨o,e⟩
   ·exact⟨o,e⟩
  ·rcases p1 with⟨S,o,es,ep,t,e,r⟩|⟨ks,⟨o,es,ep,t,e,r⟩,r2⟩
   ·exact .inl ⟨S,o,es,ep,t,k o e,r⟩
   ·exact .inr ⟨ks,⟨o,es,ep,t,k o e,r⟩,r2⟩
 rcases hk with⟨ks,⟨a,rfl,hS⟩|⟨x,rfl,rfl⟩,hb,rfl⟩|⟨a,ks,rfl,hS,hb,rfl⟩
 ·cases ru
  obtain⟨its,r,pl,hz⟩:=I.list hS
  have hl:its.toArray.size=ks.length:=by rw[bQ,<-r.length,aD]
  refine Iy (val:=λi=>ks.getD i (.inl 0)) (I.ok.hd hc) pl.isList (λi v hv=>?_) (by rw[hl];exact hb) λh' tk hS' hkeep=>?_
  ·have hi:i<ks.length:=by
    rw[<-hl]
    rcases Ac i its.toArray.size with z|z
    ·exact z
    ·rw[Oe z]at hv;cases hv
   have h1:(ks.map kV)[i]?=some (kV ks[i]):=by rw[cE,aR hi];rfl
   obtain⟨u,h2,h3⟩:=r.get h1
   have h4:u=v:=by
    have:its[i]?=some v:=by simpa using hv
    rw[h2]at this;cases this;rfl
   subst h4
   show(cG X.prog X.w).is (ks.getD i (.inl 0)) u=true/\_
   rw[gI,aR hi]
   exact Bz h3
  ·rw[hl,vV]at hS'
   exact fin h' tk (.inl ⟨_,hS'⟩) hkeep
 ·obtain⟨t,rfl⟩:=ru
  have hl:x.cps.size=(x.cps.toList.map λc=>(Sum.inr ⟨#[c]⟩:Key)).length:=by rw[aD,qY]
  refine Iz (val:=λi=>(x.cps.toList.map λc=>(Sum.inr ⟨#[c]⟩:Key)).getD i (.inl 0)) (I.ok.hd hc) (λi v hv=>?_) (by rw[hl];exact hb) λh' tk hS' hkeep=>?_
  ·obtain⟨c,u,h1,rfl⟩:=hv
   have h2:x.cps.toList[i]?=some c:=by rw[Gk];exact h1
   show(cG X.prog X.w).is ((x.cps.toList.map λc=>(Sum.inr ⟨#[c]⟩:Key)).getD i (.inl 0)) _=true/\_
   rw[gI,cE,h2]
   exact⟨Al _ _ _ _,rfl⟩
  ·rw[hl,vV]at hS'
   exact fin h' tk (.inl ⟨_,hS'⟩) hkeep
 ·cases ru
  obtain⟨its,r,pl,hz⟩:=I.tuple hS
  have hl:its.toArray.size=ks.length:=by rw[bQ,<-r.length,aD]
  refine JB (val:=λi=>ks.getD i (.inl 0)) (I.ok.hd hc) pl (λi v hv=>?_) (by rw[hl];exact hb) λh' tk hS' hkeep=>?_
  ·have hi:i<ks.length:=by
    rw[<-hl]
    rcases Ac i its.toArray.size with z|z
    ·exact z
    ·rw[Oe z]at hv;cases hv
   have h1:(ks.map kV)[i]?=some (kV ks[i]):=by rw[cE,aR hi];rfl
   obtain⟨u,h2,h3⟩:=r.get h1
   have h4:u=v:=by
    have:its[i]?=some v:=by simpa using hv
    rw[h2]at this;cases this;rfl
   subst h4
   show(cG X.prog X.w).is (ks.getD i (.inl 0)) u=true/\_
   rw[gI,aR hi]
   exact Bz h3
  ·rw[hl,vV]at hS'
   exact fin h' tk (.inl ⟨_,hS'⟩) hkeep
theorem JD:dB X (.builtin "len") (λvs H Q=>∃p n,vs=[.ref p]/\H p=some (SetY X.prog X.w p n)/\Q (.int (n:Nat)) H):=by
 intro pins s σ H vs us Q I rv h
 obtain⟨p,n,rfl,hH,q⟩:=h
 obtain⟨u,rfl,ru⟩:=rv.one
 cases ru
 obtain⟨hz,_⟩:=I.hok p _ hH
 rcases hz with⟨S,o,es,ep,t,e,hex,hd,_,_,hb,hf,hn⟩|⟨ks,⟨o,es,ep,t,e,hex,hd,hdm,hp,hn,_,hm⟩,hl,hle⟩
 ·refine call_len_set e hex hd hf (by unfold scanBound at hb;lia) ?_
  exact⟨.int (n:Nat),H,I.kept (t':=s.toks+1+1) (λb o e=>e),⟨_,by rw[hn]⟩,q⟩
 ·have hfl:t.fill=es.size:=by unfold SetTable.fill;rw[hdm,hp];rfl
  have hmk:es.size<=t.mask:=by rcases hm with⟨e,z⟩|⟨e,z⟩|e<;>rw[e]<;>lia
  have hf:t.fits es.size=true:=by unfold SetTable.fits;rw[hfl,hp];simp[hmk]
  refine call_len_set e hex hd hf (by lia) ?_
  exact⟨.int (n:Nat),H,I.kept (t':=s.toks+1+1) (λb o e=>e),⟨_,by rw[hn,hl]⟩,q⟩
end Tr
namespace Tr
open PySem PySem.Spec PyProof.Rows L2 PySem.SeqAt
end Tr
namespace Tr
open PySem PySem.Spec PyProof.Rows L2
theorem CB:∀{ns:List Int} {vs:List Value},Vals (ns.map V.int) vs->IntsAre vs ns
 |[],vs,r=>by cases r;exact .nil
 |n::ns,vs,r=>by
  cases r with
  |cons r1 r=>
   obtain⟨t,rfl⟩:=r1
   exact .cons _ _ (CB r)
section
variable{prog:Program}{w:World}{A:Around}{E:Value->Shared->Prop}{s:Shared}{d it:Addr}{es:Array DictEntry}{ep i:Nat}
end
section
variable{X:Cx}{pins:List (Addr×Obj)}{σ:L2.St}{H:Hp}{s:Shared}{a:Addr}{o:Obj}{es:Array DictEntry}{ep:Nat}
end
section
variable{prog:Program}{w:World}{A:Around}{E:Value->Shared->Prop}{s:Shared}{l:Addr}{its:List Value}{n:Nat}
theorem JE {k:Int} {t:Tok} {Q:Value->Shared->Prop} {dd:Option Addr} {sl:Array (Option Value)} (hl:s.heap.get? l=some {cls:=.type "list", dict:=dd,data:=.seq its.toArray n,slots:=sl}) (h1:its.length=1) (hk:0<=k/\k<=1000)
 (h:Q (.ref s.heap.objs.size) {s with heap:=s.heap.push {cls:=.type "list", data:=.seq (aZ k.toNat its).flatten.toArray} }):wpAny (model prog w) A (binaryOp .Mult (.ref l) (.int k t)) Q E s:=by
 have hsz:its.toArray.size=1:=by rw[bQ];exact h1
 have hne:its.toArray.isEmpty=false:=by
  cases its with
  |nil=>cases h1
  |cons _ _=>rfl
 have hf:Gd (λx1 x2=>x1++x2) #[] (aZ (if its.toArray.isEmpty=true then 0 else k.toNat) its.toArray)=(aZ k.toNat its).flatten.toArray:=by
  rw[hne,if_neg bR]
  have:=BM its k.toNat []
  rw[eF]at this
  exact this
 have ty:s.TypeIs (.ref l) "list" := ⟨_,hl,rfl⟩
 apply wpAny_binaryOp_repeat_ref (T := "list") (U := "int") (by decide) ty (λs'=>typeIs_int s' k t) PySem.noFill_list_mul PySem.F.fills_int_mul PySem.F.slot_int_rmul PySem.repeat_list PySem.F.slot_int_index.lookup
 apply call_meets PySem.F.slot_int_rmul (typeIs_int s k t) PySem.F.entry_int_rmul (PySem.F.args_int_rmul_2 _ _) (lm_int_rmul_list_any k t l its.toArray n dd sl)
 refine⟨hl,rfl,ty,call_meets PySem.F.slot_list_mul ty PySem.F.entry_list_mul (PySem.F.args_list_mul_2 _ _) (lm_list_mul_any l its.toArray n dd sl k t (by simp[Builtin.List.listFitsIndex];lia) (by rw[hsz];lia) (by rw[hsz];simp[Builtin.List.listTooLong,sizeLine];lia)) ⟨hl,?_⟩⟩
 rw[hf]
 exact h
end
section
variable{prog:Program}{w:World}{A:Around}{E:Value->Shared->Prop}{s:Shared}{r:Addr}{a b c:Int}{t u v:Tok}{n:Nat}
end
end Tr
namespace Tr
open PySem PySem.Spec PyProof.Rows L2 PySem.W
section
variable{α β:Type}
end
section
variable{P:Program}{w:World}{H H':Hp}{h h':Heap}{a:Addr}{o:HO}
end
noncomputable def CXE(P:Program)(w:World):CXT:=λouter H s E ev s'=>∃(ea:Addr)(cls a0:Value)(H':Hp)(B:Heap),ev=.ref ea/\s'.os=s.os/\AllBare s'.gens/\Un (frs outer) [] H H' s.heap s'.heap/\HOk P w H' s'.heap /\
 s.heap.get? ea=none/\H' ea=none/\Heap.FlyingW B outer ea cls a0 s'.heap/\(∀b o,s.heap.get? b=some o->b∉frs outer->∃u,B.get? b=some u)/\(∀b o,H' b=some o->∃u,B.get? b=some u)/\∃od,(∃oe,s'.heap.get? ea=some oe/\oe.dict=od)/\E cls od H'
theorem sC{P:Program}{w:World}{X:Cx}:rQ (CXE P w) X E0:=by
 intro _ _ _ _ _ _ _ h
 obtain⟨_,_,_,_,_,_,_,_,_,_,_,_,_,_,_,_,_,z⟩:=h
 exact z.elim
section
variable{P:Program}{w:World}{K:PySem.W.Frag}{mg:Str->Option Value}{base:Heap}{N:List Str}{qual:Str}{scope:Scope}{f:Addr}{cd:Value}{A:Around}{outer:List Env}{sy:Shared}{H_h:Hp}{E:XK}
end
noncomputable abbrev bmV:List Value:=[.type "ValueError", .type "Exception", .type "BaseException", .type "object"]
section
variable{M:Model}{A:Around}{E:Value->Shared->Prop}{h:Heap}{g:Array GenState}{d:Drawn}{t:Nat}{os:OsState}
variable{nm q:Str}{C N:Addr}{bs bm:List Value}{hdct:Bool}{sn:List Str}{sub:List Value}{ab:Bool}{col:Option Bool}{dd:Option Addr}{k0 k1 k2 k3 k5:Option Value}{newId:String}
variable{nm' q':Str}{C' N':Addr}{bs' bm':List Value}{hdct':Bool}{sn':List Str}{sub':List Value}{ab':Bool}{col':Option Bool}{dd':Option Addr}{k0' k1' k2' k3' k5':Option Value}{newId':String}
end
section
variable{X:Cx}{pins:List (Addr×Obj)}{σ:L2.St}{H:Hp}{s:Shared}
end
section
variable{X:Cx}{pins:List (Addr×Obj)}{σ:L2.St}{H:Hp}{s s':Shared}
end
noncomputable abbrev newV:String := "ValueError.__new__"
noncomputable def cvK(K:PySem.W.Frag)(c:Str):Value:=match nsIn K mainGlobals c with
 |some (some v)=>v
 |_=>.none
structure ClsIs(K:PySem.W.Frag)(mg:Str->Option Value)(c:Str)(C:Addr):Prop where
 bound:mg c=some (.ref C)
 cv:cvK K c=.ref C
 exc:excIn K C bmV newV=true
end Tr
namespace Tr
open PySem PySem.Spec PyProof.Rows L2 PySem.W Builtin Builtin.ObjectAttr Builtin.Getset_descriptor
section
variable{prog:Program}{w:World}{A:Around}{E:Value->Shared->Prop}{K:PySem.W.Frag}{a C:Addr}{o:Obj}
end
end Tr
namespace Tr
open PySem PySem.Spec PyProof.Rows L2 PySem.W
section
variable{X:Cx}{pins:List (Addr×Obj)}{σ:L2.St}{H:Hp}{s:Shared}
end
section
variable{X:Cx}{body:List Stmt}{pos:Pos}{h₀:ExceptHandler}{hs:List ExceptHandler}
end
section
variable{prog:Program}{w:World}{A:Around}{E:Value->Shared->Prop}{h:Heap}{g:Array GenState}{d:Drawn}{t:Nat}{os:OsState}
variable{nm q:Str}{C N:Addr}{bs bm bmB:List Value}{hdct:Bool}{sn:List Str}{sub:List Value}{ab:Bool}{col:Option Bool}{dd:Option Addr}{k0 k1 k2 k3 k5:Option Value}{B Bn newId nid initId inN:String}{bmN:List Value}
end
section
variable{prog:Program}{w:World}{A:Around}{E:Value->Shared->Prop}{s:Shared}{env:Env}
variable{nm q:Str}{C N:Addr}{bs bm bmB:List Value}{hdct:Bool}{sn:List Str}{sub:List Value}{ab:Bool}{col:Option Bool}{dd:Option Addr}{k0 k1 k2 k3 k5:Option Value}{B Bn newId nid initId inN:String}{bmN:List Value}
end
end Tr
namespace Tr
open PySem PySem.Spec PyProof.Rows L2 PySem.W Builtin Builtin.ObjectAttr
section
variable{prog:Program}{w:World}{A:Around}{E:Value->Shared->Prop}{K:PySem.W.Frag}{h:Heap}{g:Array GenState}{d:Drawn}{tok:Nat}{os:OsState}
variable{nm q:Str}{C N x t:Addr}{bs bm:List Value}{sn:List Str}{sub:List Value}{ab:Bool}{col:Option Bool}{dd:Option Addr}{k0 k1 k2 k3 k5:Option Value}{newId:String}{name:Str}{v:Value}
end
end Tr
namespace Tr
open PySem PySem.Spec PyProof.Rows L2 PySem.W Builtin Builtin.ObjectAttr Builtin.Getset_descriptor
section
variable{prog:Program}{w:World}{A:Around}{E:Value->Shared->Prop}{K:PySem.W.Frag}{a C dx:Addr}{o:Obj}{name:Str}{v:Value}{m:Str->Option Value}
variable{nm q:Str}{N:Addr}{bs bm:List Value}{sn:List Str}{sub:List Value}{ab:Bool}{col:Option Bool}{dd:Option Addr}{k0 k1 k2 k3 k5:Option Value}{newId:String}
end
end Tr
namespace Tr
open PySem PySem.Spec PyProof.Rows L2 PySem.W
noncomputable def initIn(K:PySem.W.Frag)(C fI:Addr):Bool:=match K.lookup C with
 |some ⟨.type "type", _,.cls cd,sl⟩=>(match cd.mro,sl.toList with
  |.ref C'::bm,[_,_,_,_,some (.builtin n),_]=>C'==C&&(n==newV&&(!cd.hasDel&&(tailIn K bmV bm&&(nsOkIn K cd.ns&&(nsIn K cd.ns "__init__" == some (some (.ref fI))&&cd.hasDict)))))
  |_,_=>false)
 |_=>false
structure InitCls(K:PySem.W.Frag)(C fI:Addr)(f:Str):Prop where
 obj:initIn K C fI=true
 sa:findIn K (.ref C) "__setattr__" = some (some (.builtin "object.__setattr__"))
 no:findIn K (.ref C) f=some none
section
variable{X:Cx}
end
end Tr
namespace Tr
open PySem PySem.Spec PyProof.Rows L2
variable{a:Addr}{O:Addr->Prop}{d:D}{o o' u:HO}{H H':Hp}{ds:List D}{xs ys zs:List V}{K:PySem.W.Frag}{v:V}
noncomputable def ModL(K:PySem.W.Frag)(a:Addr)(xs:List V):Prop:=
 ∃(o:Obj) (its:Array Value) (n:Nat),K.lookup a=some o/\o.cls=.type "list" /\ o.dict=none/\o.data=.seq its n/\its.size<=sizeLine/\Vals xs its.toList
noncomputable def ModT(K:PySem.W.Frag)(a:Addr)(xs:List V):Prop:=(∃ss:List Str,ss≠[]/\xs=ss.map V.str) /\
 ∃(o:Obj) (its:Array Value) (n:Nat),K.lookup a=some o/\o.cls=.type "tuple" /\ o.data=.seq its n/\its.size<=sizeLine/\Vals xs its.toList
noncomputable def TupV(K:PySem.W.Frag)(H:Hp)(a:Addr)(xs:List V):Prop:=H a=some (.tup xs)\/ModT K a xs
theorem TupV.sq(h:TupV K H a xs):SqT K H a xs:=h.imp (λq=>.inl q) λq=>q.2
mutual
noncomputable def RD(K:PySem.W.Frag)(H:Hp)(O:Addr->Prop):D->V->Prop
 |.non,v=>v=.non
 |.bl b,v=>v=.bl b
 |.int i,v=>v=.int i
 |.str x,v=>v=.str x
 |.tup ds,v=>∃a xs,v=.ref a/\TupV K H a xs/\RDs K H O ds xs
 |.lst ds,v=>∃a xs,v=.ref a/\((¬O a/\Rd H a (.lst xs))\/ModL K a xs)/\RDs K H O ds xs
noncomputable def RDs(K:PySem.W.Frag)(H:Hp)(O:Addr->Prop):List D->List V->Prop
 |[],xs=>xs=[]
 |d::ds,xs=>∃v r,xs=v::r/\RD K H O d v/\RDs K H O ds r
end
noncomputable def OwnAt(K:PySem.W.Frag)(H:Hp)(O:Addr->Prop)(a:Addr):D->Prop
 |.lst ds=>∃xs,H a=some (.lst xs)/\RDs K H O ds xs
 |_=>False
noncomputable def RR(K:PySem.W.Frag)(H:Hp)(O:Addr->Prop)(d:D)(v:V):Prop:=
 RD K H O d v\/∃a,v=.ref a/\OwnAt K H O a d
noncomputable def RRs(K:PySem.W.Frag)(H:Hp)(O:Addr->Prop):List D->List V->Prop
 |[],xs=>xs=[]
 |d::ds,xs=>∃v r,xs=v::r/\RR K H O d v/\RRs K H O ds r
section
variable{K:PySem.W.Frag}{H H':Hp}{O O':Addr->Prop}
mutual
theorem RD.map(ht:∀a xs,TupV K H a xs->TupV K H' a xs)(hl:∀a xs,¬O a->Rd H a (.lst xs)->¬O' a/\Rd H' a (.lst xs))(hd:∀a o u,H a=some (.frz o u)->H' a=some (.frz o u)):∀{d:D} {v:V},RD K H O d v->RD K H' O' d v
 |.non,_,h=>h
 |.bl _,_,h=>h
 |.int _,_,h=>h
 |.str _,_,h=>h
 |.tup ds,v,h=>by
  obtain⟨a,xs,e,s,r⟩:=h
  exact⟨a,xs,e,ht a xs s,RDs.map ht hl hd r⟩
 |.lst ds,v,h=>by
  obtain⟨a,xs,e,s,r⟩:=h
  refine⟨a,xs,e,?_,RDs.map ht hl hd r⟩
  rcases s with⟨s1,s2⟩|s
  ·exact .inl (hl a xs s1 s2)
  ·exact .inr s
theorem RDs.map(ht:∀a xs,TupV K H a xs->TupV K H' a xs)(hl:∀a xs,¬O a->Rd H a (.lst xs)->¬O' a/\Rd H' a (.lst xs))(hd:∀a o u,H a=some (.frz o u)->H' a=some (.frz o u)):∀{ds:List D} {vs:List V},RDs K H O ds vs->RDs K H' O' ds vs
 |[],_,h=>h
 |d::ds,vs,h=>by
  obtain⟨v,r,e,h1,h2⟩:=h
  exact⟨v,r,e,RD.map ht hl hd h1,RDs.map ht hl hd h2⟩
end
theorem Rd.same(s:Same H H')(h:Rd H a u):Rd H' a u:=by
 rcases h with h|⟨o,h⟩
 ·exact .inl (s _ _ h)
 ·exact .inr ⟨o,s _ _ h⟩
theorem TupV.same(s:Same H H')(h:TupV K H a xs):TupV K H' a xs:=h.imp (λq=>s _ _ q) id
theorem RD.same(s:Same H H')(h:RD K H O d v):RD K H' O d v:=RD.map (λ_ _ q=>TupV.same s q) (λ_ _ n q=>⟨n,Rd.same s q⟩) (λ_ _ _ q=>s _ _ q) h
theorem RDs.same(s:Same H H'){d:List D}{v:List V}(h:RDs K H O d v):RDs K H' O d v:=RDs.map (λ_ _ q=>TupV.same s q) (λ_ _ n q=>⟨n,Rd.same s q⟩) (λ_ _ _ q=>s _ _ q) h
theorem RD.weak(s:∀a,O' a->O a)(h:RD K H O d v):RD K H O' d v:=RD.map (λ_ _ q=>q) (λa _ n q=>⟨λz=>n (s a z),q⟩) (λ_ _ _ q=>q) h
theorem RDs.weak(s:∀a,O' a->O a){d:List D}{v:List V}(h:RDs K H O d v):RDs K H O' d v:=RDs.map (λ_ _ q=>q) (λa _ n q=>⟨λz=>n (s a z),q⟩) (λ_ _ _ q=>q) h
noncomputable def eK(O:Addr->Prop)(p:Addr):Addr->Prop:=λa=>O a\/a=p
noncomputable def minus(O:Addr->Prop)(p:Addr):Addr->Prop:=λa=>O a/\a≠p
theorem Rd.ne{p:Addr}(hp:H p=none)(h:Rd H a u):a≠p:=by
 rcases h with h|⟨o,h⟩<;>exact iB h hp
theorem RD.new{p:Addr}(hp:H p=none)(h:RD K H O d v):RD K H (eK O p) d v:=
 RD.map (λ_ _ q=>q) (λa _ n q=>⟨λz=>z.elim n (Rd.ne hp q),q⟩) (λ_ _ _ q=>q) h
theorem RDs.new{p:Addr}(hp:H p=none){d:List D}{v:List V}(h:RDs K H O d v):RDs K H (eK O p) d v:=
 RDs.map (λ_ _ q=>q) (λa _ n q=>⟨λz=>z.elim n (Rd.ne hp q),q⟩) (λ_ _ _ q=>q) h
noncomputable def kN:HO->Prop
 |.lst _=>True
 |.dK _=>True
 |.dT _=>True
 |_=>False
theorem iW{p:Addr}(hO:O p)(hp:H p=some o)(hm:kN o):(∀a xs,TupV K H a xs->TupV K (upd H p o') a xs)/\(∀a xs,¬O a->Rd H a (.lst xs)->¬O a/\Rd (upd H p o') a (.lst xs))/\∀a o1 u,H a=some (.frz o1 u)->upd H p o' a=some (.frz o1 u):=by
 refine⟨λa xs h=>?_,λa xs n h=>⟨n,?_⟩,λa o1 u h=>?_⟩
 ·rcases h with h|h
  ·exact .inl (by rw[bC (uZ h hp (by intro z;subst z;exact hm))];exact h)
  ·exact .inr h
 ·have e:a≠p:=λz=>n (z▸hO)
  rcases h with h|⟨o,h⟩
  ·exact .inl (by rw[bC e];exact h)
  ·exact .inr ⟨o,by rw[bC e];exact h⟩
 ·rw[bC (uZ h hp (by intro z;subst z;exact hm))];exact h
theorem RD.updM{p:Addr}(hO:O p)(hp:H p=some o)(hm:kN o)(h:RD K H O d v):RD K (L2.upd H p o') O d v:=RD.map (iW (K:=K) hO hp hm).1 (iW (K:=K) hO hp hm).2.1 (iW (K:=K) hO hp hm).2.2 h
theorem RDs.updM{p:Addr}(hO:O p)(hp:H p=some o)(hm:kN o){d:List D}{v:List V}(h:RDs K H O d v):RDs K (L2.upd H p o') O d v:=RDs.map (iW (K:=K) hO hp hm).1 (iW (K:=K) hO hp hm).2.1 (iW (K:=K) hO hp hm).2.2 h
theorem RD.upd{p:Addr}(hO:O p)(hp:H p=some (.lst ys))(h:RD K H O d v):RD K (L2.upd H p (.lst zs)) O d v:=RD.updM hO hp trivial h
theorem RDs.upd{p:Addr}(hO:O p)(hp:H p=some (.lst ys)){d:List D}{v:List V}(h:RDs K H O d v):RDs K (L2.upd H p (.lst zs)) O d v:=RDs.updM hO hp trivial h
mutual
theorem RD.flat:∀{d:D} {v:V},d.flat=true->RD K H O d v->RD K H O' d v
 |.non,_,_,h=>h
 |.bl _,_,_,h=>h
 |.int _,_,_,h=>h
 |.str _,_,_,h=>h
 |.tup ds,v,f,h=>by
  obtain⟨a,xs,e,s,r⟩:=h
  rw[D.flat]at f
  exact⟨a,xs,e,s,RDs.flat f r⟩
 |.lst ds,v,f,_=>by rw[D.flat]at f;cases f
theorem RDs.flat:∀{ds:List D} {vs:List V},D.flats ds=true->RDs K H O ds vs->RDs K H O' ds vs
 |[],_,_,h=>h
 |d::ds,vs,f,h=>by
  obtain⟨v,r,e,h1,h2⟩:=h
  rw[D.flats,aM]at f
  exact⟨v,r,e,RD.flat f.1 h1,RDs.flat f.2 h2⟩
end
theorem RDs.length:∀{ds:List D} {vs:List V},RDs K H O ds vs->vs.length=ds.length
 |[],_,h=>by rw[RDs]at h;rw[h];rfl
 |d::ds,vs,h=>by
  obtain⟨v,r,e,_,h2⟩:=h
  rw[e,aW,aW,RDs.length h2]
theorem RDs.get:∀{ds:List D} {vs:List V} {i:Nat} {d:D},RDs K H O ds vs->ds[i]?=some d->∃v,vs[i]?=some v/\RD K H O d v
 |[],_,_,_,_,e=>by simp at e
 |d::ds,vs,0,d',h,e=>by
  obtain⟨v,r,rfl,h1,_⟩:=h
  simp at e;subst e
  exact⟨v,rfl,h1⟩
 |d::ds,vs,i+1,d',h,e=>by
  obtain⟨v,r,rfl,_,h2⟩:=h
  obtain⟨w,h3,h4⟩:=RDs.get (i:=i) h2 (by simpa using e)
  exact⟨w,by simpa using h3,h4⟩
theorem RDs.append:∀{ds es:List D} {vs ws:List V},RDs K H O ds vs->RDs K H O es ws->RDs K H O (ds++es) (vs++ws)
 |[],_,_,_,h,g=>by rw[RDs]at h;subst h;exact g
 |d::ds,es,vs,ws,h,g=>by
  obtain⟨v,r,rfl,h1,h2⟩:=h
  exact⟨v,r++ws,rfl,h1,RDs.append h2 g⟩
theorem RDs.drop:∀{ds:List D} {vs:List V} (n:Nat),RDs K H O ds vs->RDs K H O (ds.drop n) (vs.drop n)
 |_,_,0,h=>h
 |[],_,n+1,h=>by rw[RDs]at h;subst h;exact rfl
 |d::ds,vs,n+1,h=>by
  obtain⟨v,r,rfl,_,h2⟩:=h
  exact RDs.drop n h2
theorem RDs.take:∀{ds:List D} {vs:List V} (n:Nat),RDs K H O ds vs->RDs K H O (ds.take n) (vs.take n)
 |_,_,0,_=>by simp[RDs]
 |[],_,n+1,h=>by rw[RDs]at h;subst h;simp[RDs]
 |d::ds,vs,n+1,h=>by
  obtain⟨v,r,rfl,h1,h2⟩:=h
  exact⟨v,r.take n,rfl,h1,RDs.take n h2⟩
theorem RDs.cut{vs:List V}(lo hi:Option Int)(h:RDs K H O ds vs):RDs K H O (Tr.cut ds lo hi) (kH vs lo hi):=by
 have e:=RDs.length h
 unfold Tr.cut kH
 rw[e]
 exact RDs.take _ (RDs.drop _ h)
theorem RDs.cons{d:D}{v:V}{ds:List D}{vs:List V}(h:RD K H O d v)(r:RDs K H O ds vs):RDs K H O (d::ds) (v::vs):=⟨v,vs,rfl,h,r⟩
theorem RDs.nil:RDs K H O [] []:=rfl
theorem RD.rr(h:RD K H O d v):RR K H O d v:=.inl h
theorem RDs.rr:∀{ds:List D} {vs:List V},RDs K H O ds vs->RRs K H O ds vs
 |[],_,h=>h
 |d::ds,vs,h=>by
  obtain⟨v,r,e,h1,h2⟩:=h
  exact⟨v,r,e,.inl h1,RDs.rr h2⟩
theorem OwnAt.map(hs:∀{d v},RDs K H O d v->RDs K H' O' d v)(ho:∀o,kN o->H a=some o->H' a=some o):∀{d:D},OwnAt K H O a d->OwnAt K H' O' a d
 |.lst ds,⟨xs,h1,h2⟩=>⟨xs,ho _ trivial h1,hs h2⟩
 |.non,h | .bl _,h | .int _,h | .str _,h | .tup _,h=>h.elim
theorem OwnAt.same(s:Same H H')(h:OwnAt K H O a d):OwnAt K H' O a d:=OwnAt.map (λq=>q.same s) (λ_ _ q=>s _ _ q) h
theorem OwnAt.new{p:Addr}(hp:H p=none)(h:OwnAt K H O a d):OwnAt K H (eK O p) a d:=OwnAt.map (λq=>q.new hp) (λ_ _ q=>q) h
theorem OwnAt.weak(s:∀a,O' a->O a)(h:OwnAt K H O a d):OwnAt K H O' a d:=OwnAt.map (λq=>q.weak s) (λ_ _ q=>q) h
theorem OwnAt.updM{p:Addr}(hO:O p)(hp:H p=some o)(hm:kN o)(hne:a≠p)(h:OwnAt K H O a d):OwnAt K (L2.upd H p o') O a d:=OwnAt.map (λq=>q.updM hO hp hm) (λ_ _ q=>by rw[bC hne];exact q) h
theorem OwnAt.obj:∀{d:D},OwnAt K H O a d->∃o,H a=some o/\kN o
 |.lst ds,⟨xs,h1,h2⟩=>⟨_,h1,trivial⟩
 |.non,h | .bl _,h | .int _,h | .str _,h | .tup _,h=>h.elim
theorem OwnAt.rd(hn:¬O a):∀{d:D},d.isDct=false->OwnAt K H O a d->RD K H O d (.ref a)
 |.lst ds,_,⟨xs,h1,h2⟩=>⟨a,xs,rfl,.inl ⟨hn,.inl h1⟩,h2⟩
 |.non,_,h | .bl _,_,h | .int _,_,h | .str _,_,h | .tup _,_,h=>h.elim
theorem RR.same(s:Same H H')(h:RR K H O d v):RR K H' O d v:=by
 rcases h with h|⟨a,e,h⟩
 ·exact .inl (h.same s)
 ·exact .inr ⟨a,e,h.same s⟩
theorem RR.lst(h:RR K H O (.lst ds) v):∃a xs,v=.ref a/\SqL K H a xs/\RDs K H O ds xs:=by
 rcases h with⟨a,xs,e,s,r⟩|⟨a,e,xs,h1,h2⟩
 ·refine⟨a,xs,e,?_,r⟩
  rcases s with⟨_,s⟩|s
  ·exact .inl s
  ·exact .inr s
 ·exact⟨a,xs,e,.of h1,h2⟩
theorem RR.tupV(h:RR K H O (.tup ds) v):∃a xs,v=.ref a/\TupV K H a xs/\RDs K H O ds xs:=by
 rcases h with h|⟨a,e,h⟩
 ·exact h
 ·exact h.elim
theorem RR.tup(h:RR K H O (.tup ds) v):∃a xs,v=.ref a/\SqT K H a xs/\RDs K H O ds xs:=by
 obtain⟨a,xs,e,q,r⟩:=h.tupV
 exact⟨a,xs,e,q.sq,r⟩
noncomputable def D.still:D->Bool
 |.lst _=>false
 |_=>true
theorem RR.rd(h:RR K H O d v)(n:d.still=true):RD K H O d v:=by
 rcases h with h|⟨a,e,h⟩
 ·exact h
 ·cases d with
  |lst _=>cases n
  |non=>exact h.elim
  |bl _=>exact h.elim
  |int _=>exact h.elim
  |str _=>exact h.elim
  |tup _=>exact h.elim
end
noncomputable def NV(K:PySem.W.Frag)(H:Hp)(O:Addr->Prop)(d:D)(v:V):Prop:=(d=.non/\v=.non)\/∃ds a xs,d=.lst ds/\D.flats ds=true/\v=.ref a/\H a=some (.lst xs)/\¬O a/\RDs K H O ds xs
theorem NV.map{O':Addr->Prop}(hs:∀{d v},RDs K H O d v->RDs K H' O' d v)(hn:∀a xs,¬O a->H a=some (.lst xs)->¬O' a/\H' a=some (.lst xs))(h:NV K H O d v):NV K H' O' d v:=by
 rcases h with h|⟨ds,a,xs,h1,h2,h3,h4,h5,h6⟩
 ·exact .inl h
 ·obtain⟨h7,h8⟩:=hn a xs h5 h4
  exact .inr ⟨ds,a,xs,h1,h2,h3,h8,h7,hs h6⟩
theorem NV.rd(h:NV K H O d v):RD K H O d v:=by
 rcases h with⟨rfl,rfl⟩|⟨ds,a,xs,rfl,h2,rfl,h4,h5,h6⟩
 ·exact rfl
 ·exact⟨a,xs,rfl,.inl ⟨h5,.inl h4⟩,h6⟩
noncomputable def kV:Sum Int Str->V
 |.inl i=>.int i
 |.inr x=>.str x
noncomputable def RS(K:PySem.W.Frag)(H:Hp)(O:Addr->Prop)(own:Option Addr):Sl->Option V->Prop
 |.no,_=>True
 |.v d,ov=>∃v,ov=some v/\RD K H O d v
 |.o d,ov=>∃a,own=some a/\ov=some (.ref a)/\OwnAt K H O a d
 |.t ds,ov=>∃t p ys vs a r,own=some p/\ov=some (.ref t)/\(∃ks:List (Sum Int Str),ds=ks.map keyD++.lst a::r/\TupV K H t (ks.map kV++.ref p::vs))/\H p=some (.lst ys)/\RDs K H O a ys/\RDs K H O r vs
 |.n d,ov=>∃v,ov=some v/\NV K H O d v
 |.r a d,ov=>own=some a/\ov=some (.ref a)/\OwnAt K H O a d
noncomputable def cQ(σ:L2.St)(i:Nat):Option V:=(σ[i]?).join
noncomputable def retX:Stmt->Option Expr
 |.Return e _=>e
 |_=>none
noncomputable def kwX:Expr->Option Expr
 |.Call _ _ [k] _=>some k.value
 |_=>none
noncomputable def lamX:Expr->Option Pos
 |.Lambda _ _ _ p=>some p
 |_=>none
noncomputable def nB(b:List Stmt):Option Pos:=(b.getLast?.bind retX).bind λe=>(kwX e).bind lamX
noncomputable def sE(K:PySem.W.Frag)(c:Value):Option Addr:=match c with
 |.ref c=>match K.lookup c with
  |some o=>match o.data with
   |.fields vs=>match(vs[11]?:Option Value)with
    |some (.ref P)=>some P
    |_=>none
   |_=>none
  |none=>none
 |_=>none
noncomputable def CC:FuncBody->List Stmt
 |.stmts b=>b
 |_=>[]
noncomputable def lamTab(K:PySem.W.Frag)(o:Obj):Option (Addr×Pos×Str):=match o.data with
 |.func fd=>(nB (CC fd.body)).bind λp=>(sE K fd.code).map λP=>(P,p,fd.qualname ++ ".<locals>." ++ "<lambda>")
 |_=>none
noncomputable def oZ(K:PySem.W.Frag):List (Addr×Pos×Str):=K.filterMap λq=>lamTab K q.2
noncomputable def BmK (K:PySem.W.Frag) (H:Hp):Prop:=∃(bm:Addr) (ob:Obj),PySem.W.nsIn K mainGlobals "__builtins__" = some (some (.ref bm))/\H bm=some (.frz ob (.own bm))/\ob.cls=.type "module" /\ ob.dict=some builtinsNs/\ob.data=.plain/\bm≠builtinsNs
noncomputable def TabK(K:PySem.W.Frag)(H:Hp):Prop:=(∀t∈oZ K,H t.1=some (.ctab t.2.1 t.2.2))/\(oZ K≠[]->BmK K H)
theorem TabK.same(h:TabK K H)(s:Same H H'):TabK K H':=
 ⟨λt ht=>s _ _ (h.1 t ht),λn=>let ⟨bm,ob,h1,h2,h3⟩:=h.2 n;⟨bm,ob,h1,s _ _ h2,h3⟩⟩
theorem TabK.none(h:oZ K=[]):TabK K H:=⟨λt ht=>(by rw[h]at ht;cases ht),λn=>absurd h n⟩
noncomputable abbrev Trk(K:PySem.W.Frag)(H:Hp)(O:Addr->Prop):Prop:=(∀a,O a->∃o,H a=some o)/\TabK K H
set_option genInjectivity false in
structure Fm(K:PySem.W.Frag)(H_h:Hp)(O_h:Addr->Prop)(H:Hp)(O:Addr->Prop)(own:Nat->Option Addr)(e:Nv)(σ:L2.St):Prop where
 len:e.length=σ.length
 sl:∀i,RS K H O (own i) (e.at i) (cQ σ i)
 inj:∀i j a,own i=some a->own j=some a->i=j
 same:Same H_h H
 sub:∀a,O_h a->O a
 trk0:Trk K H_h O_h
 trk:∀a,O a->∃o,H a=some o
 new:∀i a,own i=some a->O a/\H_h a=none
 nw:∀i d a,e.at i=.n d->cQ σ i=some (.ref a)->H_h a=none
section
variable{K:PySem.W.Frag}{H_h H H':Hp}{O_h O O':Addr->Prop}{own:Nat->Option Addr}{e:Nv}{σ:L2.St}
theorem RS.same(s:Same H H'){o:Option Addr}{x:Sl}{ov:Option V}(h:RS K H O o x ov):RS K H' O o x ov:=by
 cases x with
 |no=>trivial
 |v d=>obtain⟨v,e,r⟩:=h;exact⟨v,e,r.same s⟩
 |o d=>obtain⟨a,e1,e2,h⟩:=h;exact⟨a,e1,e2,h.same s⟩
 |r a d=>exact⟨h.1,h.2.1,h.2.2.same s⟩
 |t ds=>obtain⟨t,p,ys,vs,a,r,e1,e2,⟨ks,e3,h1⟩,h2,h3,h4⟩:=h;exact⟨t,p,ys,vs,a,r,e1,e2,⟨ks,e3,TupV.same s h1⟩,s _ _ h2,h3.same s,h4.same s⟩
 |n d=>obtain⟨v,e,r⟩:=h;exact⟨v,e,r.map (λq=>q.same s) λa xs z q=>⟨z,s _ _ q⟩⟩
theorem Fm.tab(F:Fm K H_h O_h H O own e σ):TabK K H:=F.trk0.2.same F.same
theorem Fm.grow(F:Fm K H_h O_h H O own e σ)(s:Same H H'):Fm K H_h O_h H' O own e σ:=
 ⟨F.len,λi=>(F.sl i).same s,F.inj,F.same.trans s,F.sub,F.trk0,λa h=>let ⟨xs,q⟩:=F.trk a h;⟨xs,s _ _ q⟩,F.new,F.nw⟩
end
end Tr
namespace Tr
open PySem PySem.Spec PyProof.Rows L2
variable{O:Addr->Prop}{d:D}{H H' H1:Hp}{i j:Nat}{ov:Option V}{K:PySem.W.Frag}{x:Sl}{n:Str}{v:V}
section
variable{K:PySem.W.Frag}{H_h H H':Hp}{O_h O O':Addr->Prop}{own:Nat->Option Addr}{e:Nv}{σ:L2.St}
theorem kO{e:Nv}(h:i<e.length):Nv.at (e.set i x) i=x:=by
 unfold Nv.at;rw[uQ h];rfl
theorem gR{e:Nv}(h:i≠j):Nv.at (e.set i x) j=Nv.at e j:=by
 unfold Nv.at;rw[uR h]
theorem jN{e:Nv}(h:¬i<e.length):Nv.at e i=.no:=by
 unfold Nv.at;rw[uW (by lia)];rfl
theorem sF{σ:L2.St}(h:i<σ.length):cQ (σ.set i (some v)) i=some v:=by
 unfold cQ;rw[uQ h];rfl
theorem pA{σ:L2.St}{v:Option V}(h:i≠j):cQ (σ.set i v) j=cQ σ j:=by
 unfold cQ;rw[uR h]
theorem CD{H_h:Hp}{e:Nv}{σ:L2.St}(hx:∀d,x≠.n d)(h:∀j d a,e.at j=.n d->cQ σ j=some (.ref a)->H_h a=none):∀j d a,Nv.at (e.set i x) j=.n d->cQ (σ.set i ov) j=some (.ref a)->H_h a=none:=λj d a h1 h2=>by
 by_cases z:i=j
 ·subst z
  by_cases hi:i<e.length
  ·rw[kO hi]at h1;exact absurd h1 (hx d)
  ·rw[jN (by rw[fG];exact hi)]at h1;cases h1
 ·rw[gR z]at h1;rw[pA z]at h2;exact h j d a h1 h2
theorem vW{H_h:Hp}{e:Nv}{σ:L2.St}(hx:∀d,x≠.n d)(h:∀j d a,e.at j=.n d->cQ σ j=some (.ref a)->H_h a=none):∀j d a,Nv.at (e.set i x) j=.n d->cQ σ j=some (.ref a)->H_h a=none:=λj d a h1 h2=>by
 by_cases z:i=j
 ·subst z
  by_cases hi:i<e.length
  ·rw[kO hi]at h1;exact absurd h1 (hx d)
  ·rw[jN (by rw[fG];exact hi)]at h1;cases h1
 ·rw[gR z]at h1;exact h j d a h1 h2
theorem gA{σ:L2.St}(h:cQ σ i=some v):σ[i]?=some (some v):=by
 unfold cQ at h
 cases q:σ[i]? with
 |none=>rw[q]at h;cases h
 |some o=>rw[q]at h;cases o with
  |none=>cases h
  |some w=>cases h;rfl
theorem RS.map(ht:∀{d v},RD K H O d v->RD K H' O' d v)(hs:∀{d v},RDs K H O d v->RDs K H' O' d v){o:Option Addr}(ho:∀a u,o=some a->kN u->H a=some u->H' a=some u)(h:RS K H O o x ov)(hn:∀a xs,¬O a->H a=some (.lst xs)->¬O' a/\H' a=some (.lst xs))(hq:∀a xs,TupV K H a xs->TupV K H' a xs:=by first|exact λ_ _ q=>q|exact λ_ _ q=>TupV.same (by assumption) q):RS K H' O' o x ov:=by
 cases x with
 |no=>trivial
 |v d=>obtain⟨v,e,r⟩:=h;exact⟨v,e,ht r⟩
 |o d=>obtain⟨a,e1,e2,h⟩:=h;exact⟨a,e1,e2,h.map hs λu hm q=>ho a u e1 hm q⟩
 |t ds=>obtain⟨t,p,ys,vs,a,r,e1,e2,⟨ks,e3,h1⟩,h2,h3,h4⟩:=h;exact⟨t,p,ys,vs,a,r,e1,e2,⟨ks,e3,hq _ _ h1⟩,ho p _ e1 trivial h2,hs h3,hs h4⟩
 |n d=>obtain⟨v,e,r⟩:=h;exact⟨v,e,r.map hs hn⟩
 |r a d=>exact⟨h.1,h.2.1,h.2.2.map hs λu hm q=>ho a u h.1 hm q⟩
theorem CF{p:Addr}(hp:H p=none)(s:Same H H'):∀a xs,¬O a->H a=some (.lst xs)->¬eK O p a/\H' a=some (.lst xs):=λa xs n q=>⟨λz=>z.elim n (iB q hp),s _ _ q⟩
theorem vX{p:Addr}{o':HO}(hO:O p):∀a xs,¬O a->H a=some (.lst xs)->¬O a/\upd H p o' a=some (.lst xs):=λa xs n q=>⟨n,by
 have ne:a≠p:=λz=>n (z▸hO)
 rw[bC ne];exact q⟩
theorem JF(w:∀a,O' a->O a):∀a xs,¬O a->H a=some (.lst xs)->¬O' a/\H a=some (.lst xs):=λa xs n q=>⟨λz=>n (w a z),q⟩
theorem Fm.setV(F:Fm K H_h O_h H O own e σ)(i:Nat)(r:RD K H O d v):Fm K H_h O_h H O (λj=>if j=i then none else own j) (e.set i (.v d)) (σ.set i (some v)) where
 len:=by rw[fG,fG];exact F.len
 sl:=λj=>by
  by_cases h:i=j
  ·subst h
   by_cases hi:i<e.length
   ·rw[kO hi,sF (by rw[<-F.len];exact hi)];exact⟨v,rfl,r⟩
   ·rw[jN (by rw[fG];exact hi)];trivial
  ·rw[gR h,pA h,if_neg (Ne.symm h)];exact F.sl j
 inj:=λj k a h1 h2=>by
  by_cases h:j=i
  ·rw[if_pos h]at h1;cases h1
  ·by_cases h':k=i
   ·rw[if_pos h']at h2;cases h2
   ·rw[if_neg h]at h1;rw[if_neg h']at h2;exact F.inj j k a h1 h2
 same:=F.same
 sub:=F.sub
 trk0:=F.trk0
 trk:=F.trk
 new:=λj a h1=>by
  by_cases h:j=i
  ·rw[if_pos h]at h1;cases h1
  ·rw[if_neg h]at h1;exact F.new j a h1
 nw:=CD (λ_ z=>by cases z) F.nw
theorem Fm.setN(F:Fm K H_h O_h H O own e σ)(i:Nat)(r:NV K H O d v)(h0:∀a,v=.ref a->H_h a=none):Fm K H_h O_h H O (λj=>if j=i then none else own j) (e.set i (.n d)) (σ.set i (some v)) where
 len:=by rw[fG,fG];exact F.len
 sl:=λj=>by
  by_cases h:i=j
  ·subst h
   by_cases hi:i<e.length
   ·rw[kO hi,sF (by rw[<-F.len];exact hi)];exact⟨v,rfl,r⟩
   ·rw[jN (by rw[fG];exact hi)];trivial
  ·rw[gR h,pA h,if_neg (Ne.symm h)];exact F.sl j
 inj:=(F.setV i r.rd).inj
 same:=F.same
 sub:=F.sub
 trk0:=F.trk0
 trk:=F.trk
 new:=(F.setV i r.rd).new
 nw:=λj d' a h1 h2=>by
  by_cases z:i=j
  ·subst z
   by_cases hi:i<e.length
   ·rw[sF (by rw[<-F.len];exact hi)]at h2
    exact h0 a (fW.inj h2)
   ·rw[jN (by rw[fG];exact hi)]at h1;cases h1
  ·rw[gR z]at h1;rw[pA z]at h2;exact F.nw j d' a h1 h2
theorem Fm.setO(F:Fm K H_h O_h H O own e σ)(s:Same H H')(i:Nat){p:Addr}(hp:H p=none)(r:OwnAt K H' (eK O p) p d) :
 Fm K H_h O_h H' (eK O p) (λj=>if j=i then some p else own j) (e.set i (.o d)) (σ.set i (some (.ref p))) where
 len:=by rw[fG,fG];exact F.len
 sl:=λj=>by
  by_cases h:i=j
  ·subst h
   rw[if_pos rfl]
   by_cases hi:i<e.length
   ·rw[kO hi,sF (by rw[<-F.len];exact hi)];exact⟨p,rfl,rfl,r⟩
   ·rw[jN (by rw[fG];exact hi)];trivial
  ·rw[gR h,pA h,if_neg (Ne.symm h)]
   exact RS.map (λq=>(q.new hp).same s) (λq=>(q.new hp).same s) (λa u _ _ q=>s _ _ q) (F.sl j) (CF hp s)
 inj:=λj k a h1 h2=>by
  have no:∀j,own j≠some p:=λj q=>by
   obtain⟨xs,w⟩:=F.trk p (F.new j p q).1
   rw[hp]at w;cases w
  by_cases h:j=i
  ·rw[if_pos h]at h1
   cases h1
   by_cases h':k=i
   ·rw[h,h']
   ·rw[if_neg h']at h2;exact absurd h2 (no k)
  ·rw[if_neg h]at h1
   by_cases h':k=i
   ·rw[if_pos h']at h2;cases h2;exact absurd h1 (no j)
   ·rw[if_neg h']at h2;exact F.inj j k a h1 h2
 same:=F.same.trans s
 sub:=λa h=>.inl (F.sub a h)
 trk0:=F.trk0
 trk:=λa h=>by
  rcases h with h|h
  ·obtain⟨ys,q⟩:=F.trk a h
   exact⟨ys,s _ _ q⟩
  ·subst h
   obtain⟨o,h1,_⟩:=r.obj
   exact⟨o,h1⟩
 new:=λj a h1=>by
  by_cases h:j=i
  ·rw[if_pos h]at h1;cases h1;exact⟨.inr rfl,F.same.free hp⟩
  ·rw[if_neg h]at h1;exact⟨.inl (F.new j a h1).1,(F.new j a h1).2⟩
 nw:=CD (λ_ z=>by cases z) F.nw
theorem Fm.mutA(F:Fm K H_h O_h H O own e σ)(i:Nat)(hi:e.at i=.o d):∃p,cQ σ i=some (.ref p)/\OwnAt K H O p d/\O p /\
 ∀d' o',(∀o,H p=some o->OwnAt K (upd H p o') O p d')->Fm K H_h O_h (upd H p o') O own (e.set i (.o d')) σ:=by
 have q:=F.sl i
 rw[hi]at q
 obtain⟨p,e1,e2,h1⟩:=q
 obtain⟨o,ho,hm⟩:=h1.obj
 have hn:=F.new i p e1
 refine⟨p,e2,h1,hn.1,λd' o' r=>?_⟩
 have hlen:i<e.length:=by
  by_cases h:i<e.length
  ·exact h
  ·rw[jN h]at hi;cases hi
 refine⟨by rw[fG];exact F.len,λj=>?_,F.inj,λb u hb=>?_,F.sub,F.trk0,λa ha=>?_,F.new,vW (λ_ z=>by cases z) F.nw⟩
 ·by_cases h:i=j
  ·subst h
   rw[kO hlen,e2]
   exact⟨p,e1,rfl,r o ho⟩
  ·rw[gR h]
   refine RS.map (λq=>q.updM hn.1 ho hm) (λq=>q.updM hn.1 ho hm) (λa u ea _ q=>?_) (F.sl j) (vX hn.1) (iW (K:=K) hn.1 ho hm).1
   have:a≠p:=λz=>h (F.inj i j p e1 (z▸ea))
   rw[bC this];exact q
 ·rw[bC (λz=>by rw[z,hn.2]at hb;cases hb)];exact F.same b u hb
 ·by_cases h:a=p
  ·subst h;exact⟨_,cW⟩
  ·obtain⟨ys,q⟩:=F.trk a ha
   exact⟨ys,by rw[bC h];exact q⟩
theorem Fm.mut(F:Fm K H_h O_h H O own e σ)(i:Nat){ds:List D}(hi:e.at i=.o (.lst ds)):∃p xs,cQ σ i=some (.ref p)/\H p=some (.lst xs)/\RDs K H O ds xs/\O p /\
 ∀ds' xs',RDs K H O ds' xs'->Fm K H_h O_h (upd H p (.lst xs')) O own (e.set i (.o (.lst ds'))) σ:=by
 obtain⟨p,e2,⟨xs,h1,h2⟩,hO,k⟩:=F.mutA i hi
 exact⟨p,xs,e2,h1,h2,hO,λds' xs' r=>k (.lst ds') (.lst xs') λ_ _=>⟨xs',cW,r.upd hO h1⟩⟩
theorem Fm.seal(F:Fm K H_h O_h H O own e σ)(i:Nat)(hi:e.at i=.o d)(hd:d.isDct=false):∃O' own',Fm K H_h O_h H O' own' (e.set i (.v d)) σ/\∀a,O' a->O a:=by
 have q:=F.sl i
 rw[hi]at q
 obtain⟨p,e1,e2,h1⟩:=q
 have hn:=F.new i p e1
 have hlen:i<e.length:=by
  by_cases h:i<e.length
  ·exact h
  ·rw[jN h]at hi;cases hi
 refine⟨minus O p,λj=>if j=i then none else own j,⟨by rw[fG];exact F.len,λj=>?_,λj k a q1 q2=>?_,F.same,λa ha=>⟨F.sub a ha,λz=>?_⟩,F.trk0,λa ha=>F.trk a ha.1,λj a q1=>?_,vW (λ_ z=>by cases z) F.nw⟩,λa ha=>ha.1⟩
 ·by_cases h:i=j
  ·subst h
   rw[kO hlen,e2]
   exact⟨.ref p,rfl,OwnAt.rd (λz=>z.2 rfl) hd (h1.weak λ_ z=>z.1)⟩
  ·rw[gR h,if_neg (Ne.symm h)]
   exact RS.map (λq=>q.weak λ_ z=>z.1) (λq=>q.weak λ_ z=>z.1) (λa ys _ _ q=>q) (F.sl j) (JF λ_ z=>z.1)
 ·by_cases h:j=i
  ·rw[if_pos h]at q1;cases q1
  ·by_cases h':k=i
   ·rw[if_pos h']at q2;cases q2
   ·rw[if_neg h]at q1;rw[if_neg h']at q2;exact F.inj j k a q1 q2
 ·obtain⟨o,w⟩:=F.trk0.1 a ha
  rw[z,hn.2]at w;cases w
 ·by_cases h:j=i
  ·rw[if_pos h]at q1;cases q1
  ·rw[if_neg h]at q1
   exact⟨⟨(F.new j a q1).1,λz=>h (F.inj j i p (z▸q1) e1)⟩,(F.new j a q1).2⟩
theorem Fm.val(F:Fm K H_h O_h H O own e σ)(h:(e.at i).val=.ok d):∃v,σ[i]?=some (some v)/\RD K H O d v:=by
 have q:=F.sl i
 cases z:e.at i with
 |no=>rw[z]at h;cases h
 |o d=>rw[z]at h;cases h
 |t d=>rw[z]at h;cases h
 |r a d=>rw[z]at h;cases h
 |n d'=>
  rw[z]at h q
  cases h
  obtain⟨v,e1,r⟩:=q
  exact⟨v,gA e1,r.rd⟩
 |v d'=>
  rw[z]at h q
  cases h
  obtain⟨v,e1,r⟩:=q
  exact⟨v,gA e1,r⟩
theorem Fm.any(F:Fm K H_h O_h H O own e σ)(h:(e.at i).any=.ok d):∃v,σ[i]?=some (some v)/\RR K H O d v:=by
 have q:=F.sl i
 cases z:e.at i with
 |no=>rw[z]at h;cases h
 |t d=>rw[z]at h;cases h
 |o d'=>
  rw[z]at h q
  cases h
  obtain⟨a,e1,e2,h1⟩:=q
  exact⟨.ref a,gA e2,.inr ⟨a,rfl,h1⟩⟩
 |r a d'=>
  rw[z]at h q
  cases h
  exact⟨.ref a,gA q.2.1,.inr ⟨a,rfl,q.2.2⟩⟩
 |n d'=>
  rw[z]at h q
  cases h
  obtain⟨v,e1,r⟩:=q
  exact⟨v,gA e1,.inl r.rd⟩
 |v d'=>
  rw[z]at h q
  cases h
  obtain⟨v,e1,r⟩:=q
  exact⟨v,gA e1,.inl r⟩
theorem Sl.own_ok{a:List D}(h:x.own=.ok a):x=.o (.lst a):=by
 unfold Sl.own at h
 split at h
 ·cases h;rfl
 ·cases h
theorem Sl.ownA_ok{a:D}(h:x.ownA=.ok a):x=.o a:=by
 unfold Sl.ownA at h
 split at h
 ·cases h;rfl
 ·cases h
end
noncomputable def NewL(K:PySem.W.Frag)(H H':Hp)(O:Addr->Prop)(d:D)(v:V):Prop:=d.still=false->∃a,v=.ref a/\H a=none/\OwnAt K H' (eK O a) a d
theorem NewL.back(s:Same H1 H)(n:NewL K H H' O d v):NewL K H1 H' O d v:=λz=>by
 obtain⟨a,h1,h2,h3⟩:=n z
 exact⟨a,h1,s.free h2,h3⟩
theorem NewL.same(s:Same H1 H')(n:NewL K H H1 O d v):NewL K H H' O d v:=λz=>by
 obtain⟨a,h1,h2,h3⟩:=n z
 exact⟨a,h1,h2,h3.same s⟩
theorem NewL.weak{O':Addr->Prop}(s:∀a,O' a->O a)(n:NewL K H H' O d v):NewL K H H' O' d v:=λz=>by
 obtain⟨a,h1,h2,h3⟩:=n z
 exact⟨a,h1,h2,h3.weak λb hb=>hb.imp (s b) id⟩
theorem NewL.still(h:d.still=true):NewL K H H' O d v:=λz=>by rw[h]at z;cases z
noncomputable def NewR(K:PySem.W.Frag)(H H':Hp)(O:Addr->Prop)(d:D)(v:V):Prop:=NewL K H H' O d v/\∀(ks:List (Sum Int Str))(a r:List D),d=.tup (ks.map keyD++.lst a::r)->∃t p ys vs,v=.ref t/\TupV K H' t (ks.map kV++.ref p::vs)/\H p=none/\H' p=some (.lst ys)/\RDs K H' (eK O p) a ys/\RDs K H' (eK O p) r vs
theorem JG(ks:List (Sum Int Str))(a r:List D):oX (ks.map keyD++.lst a::r)=true:=by
 induction ks with
 |nil=>rfl
 |cons k ks ih=>cases k<;>exact ih
theorem NewR.of(n:NewL K H H' O d v)(h:eI d=false):NewR K H H' O d v:=⟨n,λks a r z=>by
 subst z
 have h:oX _=false:=h
 rw[JG]at h;cases h⟩
section
variable(T:Tab)(cf:Nat->List D->Res D)(K:PySem.W.Frag)(H_h:Hp)(O_h:Addr->Prop)
noncomputable def tE(x:E):TE:=λσ H Q=>∃O own e d,Fm K H_h O_h H O own e σ/\evE T cf x e=.ok d/\∀v H',Same H H'->RD K H' O d v->(cI T x=true->NewL K H H' O d v)->Q v H'
noncomputable def tR(x:E):TE:=λσ H Q=>∃O own e d,Fm K H_h O_h H O own e σ/\evE T cf x e=.ok d/\∀v H',Same H H'->RR K H' O d v->Q v H'
noncomputable def tT(x:E):TT:=λσ H Q=>∃O own e d k,Fm K H_h O_h H O own e σ/\evE T cf x e=.ok d/\d.truth=.ok k/\∀H',Same H H'->Q k H'
noncomputable def NewAs(H H':Hp)(O:Addr->Prop)(x:E)(ds:List D)(vs:List V):Prop:=∀j d v,cI T (BR x j)=true->ds[j]?=some d->vs[j]?=some v->NewL K H H' O d v
noncomputable def tAv(x:E):TA:=λσ H Q=>∃O own e ds,Fm K H_h O_h H O own e σ/\evA T cf x e=.ok ds/\∀vs H',Same H H'->RDs K H' O ds vs->NewAs T K H H' O x ds vs->Q vs H'
noncomputable def tAr(x:E):TA:=λσ H Q=>∃O own e ds,Fm K H_h O_h H O own e σ/\evA T cf x e=.ok ds/\∀vs H',Same H H'->RRs K H' O ds vs->Q vs H'
end
section
variable(T:Tab)(cf:Nat->List D->Res D)(X:Cx)
noncomputable def SE(x:E)(p:Expr):Prop:=∀H_h O_h,PE X p (tE T cf X.K H_h O_h x)
noncomputable def SR(x:E)(p:Expr):Prop:=∀H_h O_h,PE X p (tR T cf X.K H_h O_h x)
noncomputable def ST(x:E)(p:Expr):Prop:=∀H_h O_h,PT X p (tT T cf X.K H_h O_h x)
noncomputable def SAv(x:E)(p:List Expr):Prop:=∀H_h O_h,PA X p (tAv T cf X.K H_h O_h x)
noncomputable def SAr(x:E)(p:List Expr):Prop:=∀H_h O_h,PA X p (tAr T cf X.K H_h O_h x)
end
section
variable{T:Tab}{cf:Nat->List D->Res D}{X:Cx}{x y z:E}{p q r:Expr}{pos:Pos}
theorem PE.imp{t t':TE}(h:∀σ H Q,t' σ H Q->t σ H Q)(hp:PE X p t):PE X p t':=λpins s σ H Q I q=>hp pins s σ H Q I (h σ H Q q)
theorem PT.imp{t t':TT}(h:∀σ H Q,t' σ H Q->t σ H Q)(hp:PT X p t):PT X p t':=λpins s σ H Q I q=>hp pins s σ H Q I (h σ H Q q)
theorem SE.sr(h:SE T cf X x p):SR T cf X x p:=λH_h O_h=>PE.imp (λσ H Q ⟨O,own,e,d,F,ev,q⟩=>⟨O,own,e,d,F,ev,λv H' s r _=>q v H' s r.rr⟩) (h H_h O_h)
theorem SAv.sr{ps:List Expr}(h:SAv T cf X x ps):SAr T cf X x ps:=λH_h O_h pos pins s σ H Q I ⟨O,own,e,ds,F,ev,q⟩=>h H_h O_h pos pins s σ H Q I ⟨O,own,e,ds,F,ev,λvs H' s r _=>q vs H' s r.rr⟩
theorem se_var {i:Nat} (hN:X.N[i]?=some n) (hv:Vis X.env.scope n) (hd:(n==("__debug__" : Str))=false) (hc:(n==("__classdict__" : Str))=false):SE T cf X (.var i) (.Name n pos):=λH_h O_h=>
 PE.imp (λσ H Q ⟨O,own,e,d,F,ev,q⟩=>by
  obtain⟨v,h1,h2⟩:=F.val (i:=i) (by rw[xE_var]at ev;exact ev)
  exact⟨v,h1,q v H (Same.refl H) h2 (λz=>by cases z)⟩) (jL hN hv hd hc)
theorem CG {i:Nat} (hN:X.N[i]?=some n) (hv:Vis X.env.scope n) (hd:(n==("__debug__" : Str))=false) (hc:(n==("__classdict__" : Str))=false):SR T cf X (.rd i) (.Name n pos):=λH_h O_h=>
 PE.imp (λσ H Q ⟨O,own,e,d,F,ev,q⟩=>by
  obtain⟨v,h1,h2⟩:=F.any (i:=i) (by rw[oY]at ev;exact ev)
  exact⟨v,h1,q v H (Same.refl H) h2⟩) (jL hN hv hd hc)
noncomputable def vY:D->Const->Bool
 |.non,.none=>true
 |.bl a,.bool b=>a==b
 |.int i,.int j=>i==j
 |.str a,.str b=>a==b
 |_,_=>false
theorem se_con{c:Const}{k:Nat}(h:vY d c=true):SE T cf X (.con d) (.Constant c k pos):=λH_h O_h=>by
 have fin:∀{v:V} {σ:L2.St} {H:Hp} {Q:VK},(∀H O,RD X.K H O d v)->tE T cf X.K H_h O_h (.con d) σ H Q->Q v H:=λhv ⟨O,own,e,d',F,ev,q⟩=>by
  rw[vS]at ev;cases ev
  exact q _ _ (Same.refl _) (hv _ _) (λz=>by cases z)
 cases d<;>cases c<;>first
  |(exact absurd (show false=true from h) bR)
  |(exact PE.imp (λσ H Q w=>fin (v:=.non) (λ_ _=>rfl) w) pe_non)
  |(have e:=eq_of_beq (show _==_ from h);subst e;first
   |exact PE.imp (λσ H Q w=>fin (λ_ _=>rfl) w) pe_bl
   |exact PE.imp (λσ H Q w=>fin (λ_ _=>rfl) w) pe_int
   |exact PE.imp (λσ H Q w=>fin (λ_ _=>rfl) w) pe_str)
noncomputable def CH(X:Cx)(n:Str)(d:D):Prop:=∃v u,X.mg n=some u/\RelV v u/\∀H O,RD X.K H O d v
theorem JH {g:Nat} (hg:Gl X n) (h:CH X n (T.glob g)) (hd:(n==("__debug__" : Str))=false):SE T cf X (.glob g) (.Name n pos):=λH_h O_h=>by
 obtain⟨v,u,hm,r,hv⟩:=h
 refine PE.imp (λσ H Q hq=>?_) (vB (v:=v) hg hm r hd)
 obtain⟨O,own,e,d,F,ev,q⟩:=hq
 rw[II]at ev;cases ev
 exact q v H (Same.refl H) (hv H O) (λz=>by cases z)
noncomputable def rD2(K:PySem.W.Frag)(f:D->D->Res D)(fr:Bool):R2:=λx y H Q=>∃O d1 d2 d,RR K H O d1 x/\RR K H O d2 y/\f d1 d2=.ok d/\(∀a,O a->∃o,H a=some o)/\∀v H',Same H H'->RD K H' O d v->(fr=true->NewL K H H' O d v)->Q v H'
theorem vZ{w:E}{pe:Expr}{f:D->D->Res D}(hw:∀e,evE T cf w e=(do let a<-evE T cf x e;let b<-evE T cf y e;f a b))
 (hop:∀{ta tb:TE},PE X p ta->PE X q tb->PE X pe (tOp (rD2 X.K f (cI T w)) ta tb)) (ha:SR T cf X x p) (hb:SR T cf X y q):SE T cf X w pe:=λH_h O_h=>by
 refine PE.imp (λσ H Q hq=>?_) (hop (ha H_h O_h) (hb H_h O_h))
 obtain⟨O,own,e,d,F,ev,k⟩:=hq
 rw[hw]at ev
 obtain⟨d1,e1,ev⟩:=Res.bind_ok ev
 obtain⟨d2,e2,ev⟩:=Res.bind_ok ev
 refine⟨O,own,e,d1,F,e1,λv1 H1 s1 r1=>?_⟩
 refine⟨O,own,e,d2,F.grow s1,e2,λv2 H2 s2 r2=>?_⟩
 refine⟨O,d1,d2,d,r1.same s2,r2,ev,λa ha=>?_,λv H' s3 r3 n3=>?_⟩
 ·exact(F.grow (s1.trans s2)).trk a ha
 ·exact k v H' ((s1.trans s2).trans s3) r3 λfr=>(n3 fr).back (s1.trans s2)
end
end Tr
namespace Tr
open PySem PySem.Spec PyProof.Rows L2
variable{O:Addr->Prop}{d:D}{ds:List D}{xs:List V}{n:Nat}{v:V}{u:Value}
noncomputable abbrev no:Addr->Prop:=λ_=>False
section
variable{X:Cx}{pins:List (Addr×Obj)}{σ:L2.St}{H:Hp}{s:Shared}
theorem sG(I:Inv X pins σ H s){a:Addr}{ys:List V}(h1:SqL X.K H a xs)(h2:SqT X.K H a ys):False:=by
 obtain⟨its,_,pl,_⟩:=I.list h1
 obtain⟨its',_,pt,_⟩:=I.tuple h2
 exact SeqAt.ne_of_list_tuple pl.isList pt rfl
theorem RD.sql{K:PySem.W.Frag}(h:RD K H O (.lst ds) v):∃a xs,v=.ref a/\SqL K H a xs/\RDs K H O ds xs:=RR.lst (.inl h)
mutual
theorem RD.inj(I:Inv X pins σ H s):∀{d d':D} {v:V},RD X.K H no d v->RD X.K H no d' v->d=d'
 |.non,d',v,h,h'=>by cases (show v=.non from h);cases d'<;>first|(obtain⟨a,xs,e,_⟩:=h';cases e;done)|rfl|(cases h';done)
 |.bl b,d',v,h,h'=>by cases (show v=.bl b from h);cases d'<;>first|(obtain⟨a,xs,e,_⟩:=h';cases e;done)|rfl|(cases h';rfl)|(cases h';done)
 |.int b,d',v,h,h'=>by cases (show v=.int b from h);cases d'<;>first|(obtain⟨a,xs,e,_⟩:=h';cases e;done)|rfl|(cases h';rfl)|(cases h';done)
 |.str b,d',v,h,h'=>by cases (show v=.str b from h);cases d'<;>first|(obtain⟨a,xs,e,_⟩:=h';cases e;done)|rfl|(cases h';rfl)|(cases h';done)
 |.tup ds,d',v,h,h'=>by
  obtain⟨a,xs,e,q,r⟩:=h
  subst e
  cases d' with
  |tup ds'=>
   obtain⟨a',xs',e,q',r'⟩:=h'
   cases e
   have:=I.tuple_inj q.sq q'.sq
   subst this
   rw[RDs.inj I r r']
  |lst ds'=>
   obtain⟨a',xs',e,q',r'⟩:=RD.sql h'
   cases e
   exact(sG I q' q.sq).elim
  |non=>cases h'
  |bl _=>cases h'
  |int _=>cases h'
  |str _=>cases h'
 |.lst ds,d',v,h,h'=>by
  obtain⟨a,xs,e,q,r⟩:=RD.sql h
  subst e
  cases d' with
  |lst ds'=>
   obtain⟨a',xs',e,q',r'⟩:=RD.sql h'
   cases e
   have:=I.list_inj q q'
   subst this
   rw[RDs.inj I r r']
  |tup ds'=>
   obtain⟨a',xs',e,q',r'⟩:=h'
   cases e
   exact(sG I q q'.sq).elim
  |non=>cases h'
  |bl _=>cases h'
  |int _=>cases h'
  |str _=>cases h'
theorem RDs.inj(I:Inv X pins σ H s):∀{ds ds':List D} {vs:List V},RDs X.K H no ds vs->RDs X.K H no ds' vs->ds=ds'
 |[],[],_,_,_=>rfl
 |[],_::_,_,h,h'=>by
  rw[RDs]at h;subst h
  obtain⟨_,_,e,_⟩:=h';cases e
 |_::_,[],_,h,h'=>by
  rw[RDs]at h';subst h'
  obtain⟨_,_,e,_⟩:=h;cases e
 |d::ds,d'::ds',vs,h,h'=>by
  obtain⟨v,r,rfl,h1,h2⟩:=h
  obtain⟨v',r',e,h1',h2'⟩:=h'
  cases e
  rw[RD.inj I h1 h1',RDs.inj I h2 h2']
end
noncomputable def gS(xs ys:List D)(j:Nat):Bool:=match xs[j]?,ys[j]? with
 |some x,some y=>D.eqb x y
 |_,_=>false
theorem JI(x y:D)(xs ys:List D)(j:Nat):gS (x::xs) (y::ys) (j+1)=gS xs ys j:=by simp[gS]
theorem pB:∀xs ys:List D,xs.length=ys.length->(aI xs.length).all (gS xs ys)=D.eqs xs ys
 |[],[],_=>rfl
 |[],_::_,h=>by simp at h
 |_::_,[],h=>by simp at h
 |x::xs,y::ys,h=>by
  rw[aW,rE,lC,Gj,vJ,<-pB xs ys (by simpa using h)]
  congr 1
theorem pC:∀xs ys:List D,xs.length≠ys.length->D.eqs xs ys=false
 |[],[],h=>by simp at h
 |[],_::_,_=>rfl
 |_::_,[],_=>rfl
 |x::xs,y::ys,h=>by rw[vJ,pC xs ys (by simpa using h),O9]
theorem wA{xs ys:List D}:((aI (min xs.length ys.length)).all (gS xs ys)&&xs.length==ys.length)=D.eqs xs ys:=by
 by_cases h:xs.length=ys.length
 ·rw[<-pB xs ys h,h,Nat.min_self];simp
 ·rw[pC xs ys h];simp[h]
class Fr1 (u:HO):Prop where
 no:∀o v,u≠.frz o v
noncomputable instance{ps:List (Key×V)}:Fr1 (.dK ps):=⟨λo v z=>by cases z⟩
noncomputable instance{ps:List (List Key×V)}:Fr1 (.dT ps):=⟨λo v z=>by cases z⟩
inductive Sees(X:Cx)(H:Hp)(s:Shared):D->Value->Prop
 |non:Sees X H s .non .none
 |bl (b):Sees X H s (.bl b) (.bool b)
 |int (i t):Sees X H s (.int i) (.int i t)
 |str (x t):Sees X H s (.str x) (.str x t)
 |tup (ds:List D) (a:Addr) (xs:List V) (its:List Value):SqT X.K H a xs->RDs X.K H no ds xs->Vals xs its->IsTup s.heap a its.toArray->Sees X H s (.tup ds) (.ref a)
 |lst (ds:List D) (a:Addr) (xs:List V) (its:List Value):SqL X.K H a xs->RDs X.K H no ds xs->Vals xs its->PlainL s.heap a its.toArray->Sees X H s (.lst ds) (.ref a)
theorem lO(I:Inv X pins σ H s)(h:RD X.K H no d v)(r:RelV v u):Sees X H s d u:=by
 cases d with
 |non=>cases (show v=.non from h);cases r;exact .non
 |bl b=>cases (show v=.bl b from h);cases r;exact .bl b
 |int i=>cases (show v=.int i from h);obtain⟨t,rfl⟩:=r;exact .int i t
 |str x=>cases (show v=.str x from h);obtain⟨t,rfl⟩:=r;exact .str x t
 |tup ds=>
  obtain⟨a,xs,rfl,q,w⟩:=h
  cases r
  obtain⟨its,r1,p1,_⟩:=I.tuple q.sq
  exact .tup ds a xs its q.sq w r1 p1
 |lst ds=>
  obtain⟨a,xs,rfl,q,w⟩:=RD.sql h
  cases r
  obtain⟨its,r1,p1,_⟩:=I.list q
  exact .lst ds a xs its q w r1 p1
theorem CI(I:Inv X pins σ H s){O:Addr->Prop}(h:RR X.K H O d v)(r:RelV v u):Sees X H s d u:=by
 have w:∀{a:Addr},no a->O a:=λz=>z.elim
 rcases h with h|⟨a,rfl,h⟩
 ·exact lO I (h.weak λ_ z=>z.elim) r
 ·cases r
  cases d with
  |lst ds=>exact lO I (OwnAt.rd (O:=no) (λz=>z) rfl (h.weak λ_ z=>z.elim)) rfl
  |_=>exact h.elim
theorem gT{its:List Value}(w:RDs X.K H no ds xs)(r:Vals xs its):its.length=ds.length:=by rw[<-r.length,w.length]
noncomputable def pE(X:Cx)(H:Hp)(s:Shared)(n:Nat):Prop:=∀(ds1 ds2:List D)(A:Around)(us1 us2:List Value)(xs1 xs2:List V),RDs X.K H no ds1 xs1->Vals xs1 us1->RDs X.K H no ds2 xs2->Vals xs2 us2->D.pls n ds1=true->D.pls n ds2=true->A.units+n<cLine ->
 ∀j (h1:j<us1.length) (h2:j<us2.length),SeqAt.EqAt A.in1 s us1[j] us2[j] (gS ds1 ds2 j)
noncomputable def wB(X:Cx)(H:Hp)(s:Shared)(n:Nat):Prop:=∀(d1 d2:D)(A:Around)(u1 u2:Value),Sees X H s d1 u1->Sees X H s d2 u2->D.pl n d1=true->D.pl n d2=true->A.units+n<cLine->SeqAt.EqAt A s u1 u2 (D.eqb d1 d2)
theorem CJ(I:Inv X pins σ H s)(it:pE X H s n):wB X H s n:=by
 intro d1 d2 A u1 u2 h1 h2 f1 f2 hu
 have hu':A.units<cLine:=by lia
 cases h1 with
 |non=>cases h2 with
  |non=>exact SeqAt.EqAt.same _
  |bl b=>exact SeqAt.EqAt.none_bool b
  |int b t=>exact SeqAt.EqAt.none_int b t
  |str b t=>exact SeqAt.EqAt.none_str b t
  |tup ds a xs its q w r p=>exact SeqAt.EqAt.none_tuple p hu'
  |lst ds a xs its q w r p=>exact SeqAt.EqAt.none_list p.isList hu'
 |bl x=>cases h2 with
  |non=>exact SeqAt.EqAt.bool_none x
  |bl b=>exact SeqAt.EqAt.bool_bool x b
  |int b t=>exact SeqAt.EqAt.bool_int x b t
  |str b t=>exact SeqAt.EqAt.bool_str x b t
  |tup ds a xs its q w r p=>exact SeqAt.EqAt.bool_tuple x p hu'
  |lst ds a xs its q w r p=>exact SeqAt.EqAt.bool_list x p.isList hu'
 |int x t'=>cases h2 with
  |non=>exact SeqAt.EqAt.int_none x t'
  |bl b=>exact SeqAt.EqAt.int_bool x t' b
  |int b t=>exact SeqAt.EqAt.int_int x t' b t
  |str b t=>exact SeqAt.EqAt.int_str x t' b t
  |tup ds a xs its q w r p=>exact SeqAt.EqAt.int_tuple x t' p hu'
  |lst ds a xs its q w r p=>exact SeqAt.EqAt.int_list x t' p.isList hu'
 |str x t'=>cases h2 with
  |non=>exact SeqAt.EqAt.str_none x t'
  |bl b=>exact SeqAt.EqAt.str_bool x t' b
  |int b t=>exact SeqAt.EqAt.str_int x t' b t
  |str b t=>exact SeqAt.EqAt.str_str x t' b t
  |tup ds a xs its q w r p=>exact SeqAt.EqAt.str_tuple x t' p hu'
  |lst ds a xs its q w r p=>exact SeqAt.EqAt.str_list x t' p.isList hu'
 |tup ds1 a1 xs1 its1 q1 w1 r1 p1=>cases h2 with
  |non=>exact SeqAt.EqAt.tuple_none p1 hu'
  |bl b=>exact SeqAt.EqAt.tuple_bool b p1 hu'
  |int b t=>exact SeqAt.EqAt.tuple_int b t p1 hu'
  |str b t=>exact SeqAt.EqAt.tuple_str b t p1 hu'
  |lst ds a xs its q w r p=>exact SeqAt.EqAt.tuple_list p1 p.isList hu'
  |tup ds2 a2 xs2 its2 q2 w2 r2 p2=>
   by_cases ha:a1=a2
   ·subst ha
    have:=I.tuple_inj q1 q2
    subst this
    have:=RDs.inj I w1 w2
    subst this
    rw[D.eqb_refl n _ f1]
    exact SeqAt.EqAt.same _
   ·rw[rS,<-wA,<-gT w1 r1,<-gT w2 r2]
    have z:=SeqAt.EqAt.of_refs ha (SeqAt.RcAt.tuples (A:=A) (e:=gS ds1 ds2) p1 p2 hu' λj j1 j2=>by
     have:=it ds1 ds2 A its1 its2 xs1 xs2 w1 r1 w2 r2 f1 f2 hu j (by simpa using j1) (by simpa using j2)
     simpa using this)
    simpa using z
 |lst ds1 a1 xs1 its1 q1 w1 r1 p1=>cases h2 with
  |non=>exact SeqAt.EqAt.list_none p1.isList hu'
  |bl b=>exact SeqAt.EqAt.list_bool b p1.isList hu'
  |int b t=>exact SeqAt.EqAt.list_int b t p1.isList hu'
  |str b t=>exact SeqAt.EqAt.list_str b t p1.isList hu'
  |tup ds a xs its q w r p=>exact SeqAt.EqAt.list_tuple p1.isList p hu'
  |lst ds2 a2 xs2 its2 q2 w2 r2 p2=>
   by_cases ha:a1=a2
   ·subst ha
    have:=I.list_inj q1 q2
    subst this
    have:=RDs.inj I w1 w2
    subst this
    rw[D.eqb_refl n _ f1]
    exact SeqAt.EqAt.same _
   ·have l1:=gT w1 r1
    have l2:=gT w2 r2
    rw[rT]
    by_cases hl:ds1.length=ds2.length
    ·rw[<-pB ds1 ds2 hl,<-l1]
     have z:=SeqAt.EqAt.of_refs ha (SeqAt.RcAt.lists (A:=A) (e:=gS ds1 ds2) p1.isList p2.isList (by simp only[bQ];lia) hu' λj j1 j2=>by
      have:=it ds1 ds2 A its1 its2 xs1 xs2 w1 r1 w2 r2 f1 f2 hu j (by simpa using j1) (by simpa using j2)
      simpa using this)
     simpa using z
    ·rw[pC ds1 ds2 hl]
     exact SeqAt.EqAt.of_refs ha (SeqAt.RcAt.lists_lengths p1.isList p2.isList (by simp only[bQ,bne_iff_ne,ne_eq];lia) hu')
theorem JJ:pE X H s 0:=by
 intro ds1 ds2 A us1 us2 xs1 xs2 w1 r1 w2 r2 f1 f2 hu j h1 h2
 cases ds1 with
 |nil=>
  rw[RDs]at w1;subst w1
  cases r1
  exact absurd h1 (rH _)
 |cons d ds=>cases f1
theorem JK(I:Inv X pins σ H s)(ih:wB X H s n):pE X H s (n+1):=by
 intro ds1
 induction ds1 with
 |nil=>
  intro ds2 A us1 us2 xs1 xs2 w1 r1 w2 r2 f1 f2 hu j h1 h2
  rw[RDs]at w1;subst w1
  cases r1
  exact absurd h1 (rH _)
 |cons d1 ds1 ih2=>
  intro ds2 A us1 us2 xs1 xs2 w1 r1 w2 r2 f1 f2 hu j h1 h2
  cases ds2 with
  |nil=>
   rw[RDs]at w2;subst w2
   cases r2
   exact absurd h2 (rH _)
  |cons d2 ds2=>
   obtain⟨v1,y1,rfl,e1,w1⟩:=w1
   obtain⟨v2,y2,rfl,e2,w2⟩:=w2
   cases r1 with
   |cons a1 r1=>
    cases r2 with
    |cons a2 r2=>
     rw[vK,aM]at f1 f2
     cases j with
     |zero=>exact ih d1 d2 A.in1 _ _ (lO I e1 a1) (lO I e2 a2) f1.1 f2.1 (by show A.units+1+n<cLine;lia)
     |succ j=>
      rw[JI]
      exact ih2 ds2 A _ _ _ _ w1 r1 w2 r2 f1.2 f2.2 hu j (uV h1) (uV h2)
theorem wC(I:Inv X pins σ H s):∀n,pE X H s n
 |0=>JJ
 |n+1=>JK I (CJ I (wC I n))
theorem eqAt_D(I:Inv X pins σ H s)(n:Nat):wB X H s n:=CJ I (wC I n)
theorem sH(I:Inv X pins σ H s)(n:Nat):pE X H s n:=wC I n
end
end Tr
namespace Tr
open PySem PySem.Spec PyProof.Rows L2
variable{d1 d2:D}{n:Nat}{u1 u2:Value}
theorem dD{H:Hp}{p:Addr}(h:H p=none)(o:HO):Same H (upd H p o):=λb u q=>by rw[bC (iB q h)];exact q
section
variable{K:PySem.W.Frag}{H:Hp}{O:Addr->Prop}{p:Addr}{ds:List D}{xs:List V}
theorem nC(w:RDs K H O ds xs)(hp:H p=none)(tr:∀a,O a->∃o,H a=some o):RD K (upd H p (.lst xs)) O (.lst ds) (.ref p)/\NewL K H (upd H p (.lst xs)) O (.lst ds) (.ref p):=by
 have nO:¬O p:=λz=>by
  obtain⟨o,q⟩:=tr p z
  rw[hp]at q;cases q
 exact⟨⟨p,xs,rfl,.inl ⟨nO,.inl cW⟩,w.same (dD hp _)⟩,λ_=>⟨p,rfl,hp,xs,cW,(w.new hp).same (dD hp _)⟩⟩
theorem nD(w:RDs K H O ds xs)(hp:H p=none):RD K (upd H p (.tup xs)) O (.tup ds) (.ref p):=⟨p,xs,rfl,.inl cW,w.same (dD hp _)⟩
end
section
variable{X:Cx}{pins:List (Addr×Obj)}{σ:L2.St}{H:Hp}{s:Shared}
theorem rcAt_D(I:Inv X pins σ H s){A:Around}(h1:Sees X H s d1 u1)(h2:Sees X H s d2 u2)(f1:D.pl n d1=true)(f2:D.pl n d2=true)(hu:A.units+n<cLine):SeqAt.RcAt A s u1 u2 (D.eqb d1 d2):=by
 have hu':A.units<cLine:=by lia
 cases h1 with
 |non=>cases h2 with
  |non=>exact SeqAt.RcAt.none_none
  |bl b=>exact SeqAt.RcAt.none_bool b
  |int b t=>exact SeqAt.RcAt.none_int b t
  |str b t=>exact SeqAt.RcAt.none_str b t
  |tup ds a xs its q w r p=>exact SeqAt.RcAt.none_tuple p hu'
  |lst ds a xs its q w r p=>exact SeqAt.RcAt.none_list p.isList hu'
 |bl x=>cases h2 with
  |non=>exact SeqAt.RcAt.bool_none x
  |bl b=>exact SeqAt.RcAt.bool_bool x b
  |int b t=>exact SeqAt.RcAt.bool_int x b t
  |str b t=>exact SeqAt.RcAt.bool_str x b t
  |tup ds a xs its q w r p=>exact SeqAt.RcAt.bool_tuple x p hu'
  |lst ds a xs its q w r p=>exact SeqAt.RcAt.bool_list x p.isList hu'
 |int x t'=>cases h2 with
  |non=>exact SeqAt.RcAt.int_none x t'
  |bl b=>exact SeqAt.RcAt.int_bool x t' b
  |int b t=>exact SeqAt.RcAt.int_int x t' b t
  |str b t=>exact SeqAt.RcAt.int_str x t' b t
  |tup ds a xs its q w r p=>exact SeqAt.RcAt.int_tuple x t' p hu'
  |lst ds a xs its q w r p=>exact SeqAt.RcAt.int_list x t' p.isList hu'
 |str x t'=>cases h2 with
  |non=>exact SeqAt.RcAt.str_none x t'
  |bl b=>exact SeqAt.RcAt.str_bool x t' b
  |int b t=>exact SeqAt.RcAt.str_int x t' b t
  |str b t=>exact SeqAt.RcAt.str_str x t' b t
  |tup ds a xs its q w r p=>exact SeqAt.RcAt.str_tuple x t' p hu'
  |lst ds a xs its q w r p=>exact SeqAt.RcAt.str_list x t' p.isList hu'
 |tup ds1 a1 xs1 its1 q1 w1 r1 p1=>cases h2 with
  |non=>exact SeqAt.RcAt.tuple_none p1 hu'
  |bl b=>exact SeqAt.RcAt.tuple_bool b p1 hu'
  |int b t=>exact SeqAt.RcAt.tuple_int b t p1 hu'
  |str b t=>exact SeqAt.RcAt.tuple_str b t p1 hu'
  |lst ds a xs its q w r p=>exact SeqAt.RcAt.tuple_list p1 p.isList hu'
  |tup ds2 a2 xs2 its2 q2 w2 r2 p2=>
   rw[rS,<-wA,<-gT w1 r1,<-gT w2 r2]
   have z:=SeqAt.RcAt.tuples (A:=A) (e:=gS ds1 ds2) p1 p2 hu' λj j1 j2=>by
    have:=sH I n ds1 ds2 A its1 its2 xs1 xs2 w1 r1 w2 r2 f1 f2 hu j (by simpa using j1) (by simpa using j2)
    simpa using this
   simpa using z
 |lst ds1 a1 xs1 its1 q1 w1 r1 p1=>cases h2 with
  |non=>exact SeqAt.RcAt.list_none p1.isList hu'
  |bl b=>exact SeqAt.RcAt.list_bool b p1.isList hu'
  |int b t=>exact SeqAt.RcAt.list_int b t p1.isList hu'
  |str b t=>exact SeqAt.RcAt.list_str b t p1.isList hu'
  |tup ds a xs its q w r p=>exact SeqAt.RcAt.list_tuple p1.isList p hu'
  |lst ds2 a2 xs2 its2 q2 w2 r2 p2=>
   have l1:=gT w1 r1
   have l2:=gT w2 r2
   rw[rT]
   by_cases hl:ds1.length=ds2.length
   ·rw[<-pB ds1 ds2 hl,<-l1]
    have z:=SeqAt.RcAt.lists (A:=A) (e:=gS ds1 ds2) p1.isList p2.isList (by simp only[bQ];lia) hu' λj j1 j2=>by
     have:=sH I n ds1 ds2 A its1 its2 xs1 xs2 w1 r1 w2 r2 f1 f2 hu j (by simpa using j1) (by simpa using j2)
     simpa using this
    simpa using z
   ·rw[pC ds1 ds2 hl]
    exact SeqAt.RcAt.lists_lengths p1.isList p2.isList (by simp only[bQ,bne_iff_ne,ne_eq];lia) hu'
theorem JL(I:Inv X pins σ H s){A:Around}(h1:Sees X H s d1 u1)(h2:Sees X H s d2 u2)(f1:D.pl n d1=true)(f2:D.pl n d2=true)(hu:A.units+n<cLine):SeqAt.RcNeAt A s u1 u2 (!D.eqb d1 d2):=by
 have hu':A.units<cLine:=by lia
 cases h1 with
 |non=>cases h2 with
  |non=>exact SeqAt.RcNeAt.none_none
  |bl b=>exact SeqAt.RcNeAt.none_bool b
  |int b t=>exact SeqAt.RcNeAt.none_int b t
  |str b t=>exact SeqAt.RcNeAt.none_str b t
  |tup ds a xs its q w r p=>exact SeqAt.RcNeAt.none_tuple p hu'
  |lst ds a xs its q w r p=>exact SeqAt.RcNeAt.none_list p.isList hu'
 |bl x=>cases h2 with
  |non=>exact SeqAt.RcNeAt.bool_none x
  |bl b=>exact SeqAt.RcNeAt.bool_bool x b
  |int b t=>exact SeqAt.RcNeAt.bool_int x b t
  |str b t=>exact SeqAt.RcNeAt.bool_str x b t
  |tup ds a xs its q w r p=>exact SeqAt.RcNeAt.bool_tuple x p hu'
  |lst ds a xs its q w r p=>exact SeqAt.RcNeAt.bool_list x p.isList hu'
 |int x t'=>cases h2 with
  |non=>exact SeqAt.RcNeAt.int_none x t'
  |bl b=>exact SeqAt.RcNeAt.int_bool x t' b
  |int b t=>exact SeqAt.RcNeAt.int_int x t' b t
  |str b t=>exact SeqAt.RcNeAt.int_str x t' b t
  |tup ds a xs its q w r p=>exact SeqAt.RcNeAt.int_tuple x t' p hu'
  |lst ds a xs its q w r p=>exact SeqAt.RcNeAt.int_list x t' p.isList hu'
 |str x t'=>cases h2 with
  |non=>exact SeqAt.RcNeAt.str_none x t'
  |bl b=>exact SeqAt.RcNeAt.str_bool x t' b
  |int b t=>exact SeqAt.RcNeAt.str_int x t' b t
  |str b t=>exact SeqAt.RcNeAt.str_str x t' b t
  |tup ds a xs its q w r p=>exact SeqAt.RcNeAt.str_tuple x t' p hu'
  |lst ds a xs its q w r p=>exact SeqAt.RcNeAt.str_list x t' p.isList hu'
 |tup ds1 a1 xs1 its1 q1 w1 r1 p1=>cases h2 with
  |non=>exact SeqAt.RcNeAt.tuple_none p1 hu'
  |bl b=>exact SeqAt.RcNeAt.tuple_bool b p1 hu'
  |int b t=>exact SeqAt.RcNeAt.tuple_int b t p1 hu'
  |str b t=>exact SeqAt.RcNeAt.tuple_str b t p1 hu'
  |lst ds a xs its q w r p=>exact SeqAt.RcNeAt.tuple_list p1 p.isList hu'
  |tup ds2 a2 xs2 its2 q2 w2 r2 p2=>
   rw[rS,<-wA,<-gT w1 r1,<-gT w2 r2]
   have z:=SeqAt.RcNeAt.tuples (A:=A) (e:=gS ds1 ds2) p1 p2 hu' λj j1 j2=>by
    have:=sH I n ds1 ds2 A its1 its2 xs1 xs2 w1 r1 w2 r2 f1 f2 hu j (by simpa using j1) (by simpa using j2)
    simpa using this
   simpa using z
 |lst ds1 a1 xs1 its1 q1 w1 r1 p1=>cases h2 with
  |non=>exact SeqAt.RcNeAt.list_none p1.isList hu'
  |bl b=>exact SeqAt.RcNeAt.list_bool b p1.isList hu'
  |int b t=>exact SeqAt.RcNeAt.list_int b t p1.isList hu'
  |str b t=>exact SeqAt.RcNeAt.list_str b t p1.isList hu'
  |tup ds a xs its q w r p=>exact SeqAt.RcNeAt.list_tuple p1.isList p hu'
  |lst ds2 a2 xs2 its2 q2 w2 r2 p2=>
   have l1:=gT w1 r1
   have l2:=gT w2 r2
   rw[rT]
   by_cases hl:ds1.length=ds2.length
   ·rw[<-pB ds1 ds2 hl,<-l1]
    have z:=SeqAt.RcNeAt.lists (A:=A) (e:=gS ds1 ds2) p1.isList p2.isList (by simp only[bQ];lia) hu' λj j1 j2=>by
     have:=sH I n ds1 ds2 A its1 its2 xs1 xs2 w1 r1 w2 r2 f1 f2 hu j (by simpa using j1) (by simpa using j2)
     simpa using this
    simpa using z
   ·rw[pC ds1 ds2 hl]
    exact SeqAt.RcNeAt.lists_lengths p1.isList p2.isList (by simp only[bQ,bne_iff_ne,ne_eq];lia) hu'
end
section
variable{X:Cx}
theorem gU:big=sizeLine:=by rw[sizeLine_eq];rfl
theorem JM:OpR X (binaryOp .Add) (λx y H Q=>∃l b xs zs,x=.ref l/\y=.ref b/\SqL X.K H l xs/\SqL X.K H b zs/\xs.length+zs.length<=sizeLine/\∀p,H p=none->Q (.ref p) (upd H p (.lst (xs++zs)))):=by
 intro pins s σ H x y v u Q I rx ry h
 obtain⟨l,b,xs,zs,rfl,rfl,hH,hB,hz,q⟩:=h
 cases rx
 cases ry
 obtain⟨its,r,pl,z⟩:=I.list hH
 obtain⟨its2,r2,pl2,z2⟩:=I.list hB
 have hl:=r.length
 have hl2:=r2.length
 obtain⟨⟨cls,dd,data,sl⟩,ho,hc,n,hd⟩:=pl.isList
 obtain⟨⟨cls2,dd2,data2,sl2⟩,ho2,hc2,n2,hd2⟩:=pl2.isList
 simp only at hc hd hc2 hd2
 subst hc hd hc2 hd2
 have ea:its.toArray++its2.toArray=(its++its2).toArray:=by simp
 refine concat_meets ⟨_,ho,rfl⟩ ⟨_,ho2,rfl⟩ noFill_list_add seq_list_add PySem.F.slot_list_add PySem.F.entry_list_add (PySem.F.args_list_add_2 _ _) (list_addW l b its.toArray its2.toArray n n2 dd dd2 sl sl2 (by simp only[bQ];lia)) ⟨ho,ho2,?_⟩
 rw[ea]
 exact⟨.ref _,_,I.lnew (t':=s.toks) (r.append r2) (by rw[cP];lia),rfl,q _ I.fresh⟩
theorem JN:OpR X (binaryOp .Add) (λx y H Q=>∃a b xs ys,x=.ref a/\y=.ref b/\SqT X.K H a xs/\SqT X.K H b ys/\xs.length+ys.length<=sizeLine /\
 (xs=[]->Q (.ref b) H)/\(ys=[]->Q (.ref a) H)/\∀p,H p=none->Q (.ref p) (upd H p (.tup (xs++ys)))):=by
 intro pins s σ H x y v u Q I rx ry h
 obtain⟨a,b,xs,ys,rfl,rfl,ha,hb,hz,q0,q1,q2⟩:=h
 by_cases hx:xs=[]
 ·cases rx
  cases ry
  obtain⟨its,r1,p1,_⟩:=I.tuple ha
  obtain⟨its2,r2,p2,_⟩:=I.tuple hb
  obtain⟨⟨cls,dd,data,sl⟩,ho,hc,n,hd⟩:=id p1
  obtain⟨⟨cls2,dd2,data2,sl2⟩,ho2,hc2,n2,hd2⟩:=id p2
  simp only at hc hd hc2 hd2
  subst hc hd hc2 hd2
  have hv:its=[]:=r1.nil_iff.mpr hx
  exact concat_meets ⟨_,ho,rfl⟩ ⟨_,ho2,rfl⟩ noFill_tuple_add seq_tuple_add PySem.F.slot_tuple_add PySem.F.entry_tuple_add (PySem.F.args_tuple_add_2 _ _)
   (tuple_addW0 a b its.toArray its2.toArray n n2 dd dd2 sl sl2 (by simp[hv])) ⟨ho,ho2,⟨.ref b,H,I,rfl,q0 hx⟩⟩
 ·exact Ho pins s σ H _ _ v u Q I rx ry ⟨a,b,xs,ys,rfl,rfl,ha,hb,hx,hz,q1,λ_=>q2⟩
end
end Tr
namespace Tr
open PySem PySem.Spec PyProof.Rows L2
variable{O:Addr->Prop}{d x:D}{H:Hp}{σ:L2.St}{pins:List (Addr×Obj)}{ds:List D}{K:PySem.W.Frag}{s:Shared}{w:Value}
section
variable{X:Cx}
noncomputable def gW(X:Cx):Prop:=X.A.units+64<cLine
theorem RDs.rep{vs:List V}(h:RDs K H O ds vs):∀n:Nat,RDs K H O (aZ n ds).flatten (aZ n vs).flatten
 |0=>rfl
 |n+1=>by
  rw[oR,oR,rA,rA]
  exact RDs.append h (RDs.rep h n)
theorem JO(o:Operator)(fr:Bool)(hfr:fr=true->o=.Add):OpR X (binaryOp o) (rD2 X.K (D.bin o) fr):=by
 intro pins s σ H x y v u Q I rx ry h
 obtain⟨O,d1,d2,d,r1,r2,ev,tr,k⟩:=h
 have kk:∀w,d.still=true->RD X.K H O d w->Q w H:=λw n r=>k w H (Same.refl H) r λ_=>NewL.still n
 unfold D.bin at ev
 split at ev
 ·cases ev
  cases (show x=_ from r1.rd rfl)
  cases (show y=_ from r2.rd rfl)
  exact op_add pins s σ H _ _ v u Q I rx ry ⟨_,_,rfl,rfl,kk _ rfl rfl⟩
 ·obtain⟨c,ev⟩:=bO ev
  cases ev
  cases (show x=_ from r1.rd rfl)
  cases (show y=_ from r2.rd rfl)
  exact Hc pins s σ H _ _ v u Q I rx ry ⟨_,_,rfl,rfl,by rw[<-gU];exact of_decide_eq_true c,kk _ rfl rfl⟩
 ·obtain⟨c,ev⟩:=bO ev
  cases ev
  obtain⟨a1,xs1,rfl,q1,w1⟩:=r1.lst
  obtain⟨a2,xs2,rfl,q2,w2⟩:=r2.lst
  refine JM pins s σ H _ _ v u Q I rx ry ⟨a1,a2,xs1,xs2,rfl,rfl,q1,q2,by rw[<-gU,w1.length,w2.length];exact of_decide_eq_true c,λp hp=>?_⟩
  have z:=nC (w1.append w2) hp tr
  exact k _ _ (dD hp _) z.1 λ_=>z.2
 ·obtain⟨c,ev⟩:=bO ev
  cases ev
  obtain⟨a1,xs1,rfl,q1,w1⟩:=r1.tupV
  obtain⟨a2,xs2,rfl,q2,w2⟩:=r2.tupV
  refine JN pins s σ H _ _ v u Q I rx ry ⟨a1,a2,xs1,xs2,rfl,rfl,q1.sq,q2.sq,by rw[<-gU,w1.length,w2.length];exact of_decide_eq_true c,λz=>?_,λz=>?_,λp hp=>?_⟩
  ·subst z
   have e:=w1.length
   have e':_=[]:=Aa e.symm
   subst e'
   exact kk _ rfl ⟨a2,xs2,rfl,q2,by simpa using w2⟩
  ·subst z
   have e:=w2.length
   have e':_=[]:=Aa e.symm
   subst e'
   exact kk _ rfl ⟨a1,xs1,rfl,q1,by simpa using w1⟩
  ·have z:=nD (w1.append w2) hp
   exact k _ _ (dD hp _) z λ_=>NewL.still rfl
 ·cases ev
  cases (show x=_ from r1.rd rfl)
  cases (show y=_ from r2.rd rfl)
  exact op_sub pins s σ H _ _ v u Q I rx ry ⟨_,_,rfl,rfl,kk _ rfl rfl⟩
 ·obtain⟨c,ev⟩:=bO ev
  cases ev
  cases (show x=_ from r1.rd rfl)
  cases (show y=_ from r2.rd rfl)
  refine op_mul pins s σ H _ _ v u Q I rx ry ⟨_,_,rfl,rfl,?_,kk _ rfl rfl⟩
  simp only[eH,iR,aM,decide_eq_true_eq]at c
  exact c
 ·rename_i aa jj
  obtain⟨c,ev⟩:=bO ev
  cases ev
  simp only[aM,decide_eq_true_eq]at c
  obtain⟨a1,xs1,rfl,q1,w1⟩:=r1.lst
  cases (show y=_ from r2.rd rfl)
  cases rx
  obtain⟨t,rfl⟩:=ry
  obtain⟨its,r,⟨⟨cls0,dd0,dat0,sl0⟩,n0,pl,pc,_,pd⟩,hz⟩:=I.list q1
  dsimp only at pc pd
  subst pc pd
  have hl1:its.length=1:=by rw[<-r.length,w1.length];exact c.1.1
  refine JE pl hl1 ⟨c.1.2,c.2⟩ ?_
  have hp:=I.hok.fresh (aN s.heap.objs.size)
  have hlen:(aZ jj.toNat xs1).flatten.length<=sizeLine:=by
   rw[IB,w1.length,c.1.1,sizeLine_eq]
   have:=c.2
   lia
  refine⟨.ref s.heap.objs.size,_,I.laid (o:=.lst (aZ jj.toNat xs1).flatten) (t':=s.toks) (λb u e=>Heap.get?_push_of_some _ e) (aN _) ⟨hlen,_,0,r.rep _,Heap.get?_push_size _ rfl⟩,rfl,?_⟩
  have z:=nC (w1.rep jj.toNat) hp tr
  exact k _ _ (dD hp _) z.1 λ_=>z.2
 ·obtain⟨c,ev⟩:=bO ev
  cases ev
  cases (show x=_ from r1.rd rfl)
  cases (show y=_ from r2.rd rfl)
  refine HS pins s σ H _ _ v u Q I rx ry ⟨_,_,rfl,rfl,?_,kk _ rfl rfl⟩
  simp only[aM,decide_eq_true_eq]at c
  exact c
 ·obtain⟨c,ev⟩:=bO ev
  cases ev
  cases (show x=_ from r1.rd rfl)
  cases (show y=_ from r2.rd rfl)
  exact op_mod pins s σ H _ _ v u Q I rx ry ⟨_,_,rfl,rfl,of_decide_eq_true c,kk _ rfl rfl⟩
 ·obtain⟨c,ev⟩:=bO ev
  cases ev
  cases (show x=_ from r1.rd rfl)
  cases (show y=_ from r2.rd rfl)
  refine op_pow pins s σ H _ _ v u Q I rx ry ⟨_,_,rfl,rfl,?_,kk _ rfl rfl⟩
  simp only[aM,decide_eq_true_eq]at c
  exact⟨c.1.1,c.1.2,c.2⟩
 ·cases ev
theorem CK{α:Type}{o:Option α}{a:α}(h:Res.of o=.ok a):o=some a:=by
 cases o with
 |none=>cases h
 |some b=>cases h;rfl
theorem Sees.inj(I:Inv X pins σ H s){d':D}(h:Sees X H s d w)(h':Sees X H s d' w):d=d':=by
 cases h with
 |non=>cases h';rfl
 |bl b=>cases h';rfl
 |int i t=>cases h';rfl
 |str x t=>cases h';rfl
 |tup ds a xs its q w r p=>
  cases h' with
  |tup ds' _ xs' its' q' w' r' p'=>have:=I.tuple_inj q q';subst this;rw[RDs.inj I w w']
  |lst ds' _ xs' its' q' w' r' p'=>exact(sG I q' q).elim
 |lst ds a xs its q w r p=>
  cases h' with
  |lst ds' _ xs' its' q' w' r' p'=>have:=I.list_inj q q';subst this;rw[RDs.inj I w w']
  |tup ds' _ xs' its' q' w' r' p'=>exact(sG I q q').elim
open Classical in
noncomputable def seen(X:Cx)(H:Hp)(s:Shared)(x:D)(w:Value):Bool:=decide (∃d,Sees X H s d w/\D.eqb d x=true)
theorem sI(I:Inv X pins σ H s)(sd:Sees X H s d w):seen X H s x w=D.eqb d x:=by
 classical
 unfold seen
 by_cases h:D.eqb d x=true
 ·rw[h];simp only[decide_eq_true_eq];exact⟨d,sd,h⟩
 ·have h':D.eqb d x=false:=by simpa using h
  rw[h']
  simp only[decide_eq_false_iff_not]
  rintro⟨d',sd',h''⟩
  rw[Sees.inj I sd' sd]at h''
  exact h h''
theorem nE(I:Inv X pins σ H s){ux:Value}{n:Nat}{A:Around}(hx:Sees X H s x ux)(fx:D.pl n x=true)(hu:A.units+n<cLine) :
 ∀{ds:List D} {xs:List V} {us:List Value},RDs X.K H no ds xs->Vals xs us->D.pls (n+1) ds=true->(∀w∈us,SeqAt.EqAt A s w ux (seen X H s x w))/\us.any (seen X H s x)=D.mem x ds
 |[],xs,us,w,r,f=>by
  rw[RDs]at w;subst w;cases r
  exact⟨λw h=>absurd h iS,rfl⟩
 |d::ds,xs,us,w,r,f=>by
  obtain⟨v,ys,rfl,e1,e2⟩:=w
  rw[vK,aM]at f
  cases r with
  |cons a1 r1=>
   have ih:=nE I hx fx hu e2 r1 f.2
   have sd:=lO I e1 a1
   refine⟨λw hw=>?_,?_⟩
   ·rcases bL.mp hw with rfl|hw
    ·rw[sI I sd]
     exact eqAt_D I n d x A w ux sd hx f.1 fx hu
    ·exact ih.1 w hw
   ·rw[Ab,D.mem,ih.2,sI I sd]
theorem JP{x:V}(r:RD K H no d x):decide (x=.non)=D.isNon d:=by
 cases d with
 |non=>cases (show x=.non from r);rfl
 |bl b=>cases (show x=.bl b from r);rfl
 |int b=>cases (show x=.int b from r);rfl
 |str b=>cases (show x=.str b from r);rfl
 |tup ds=>obtain⟨a,xs,rfl,_⟩:=r;rfl
 |lst ds=>obtain⟨a,xs,rfl,_⟩:=r;rfl
theorem CM{x:V}(r:RR K H O d x):decide (x=.non)=D.isNon d:=by
 rcases r with r|⟨a,rfl,h⟩
 ·exact JP (r.weak λ_ z=>z.elim)
 ·cases d<;>first|rfl|exact h.elim
theorem nF(o:CmpOp)(hroom:gW X):OpR X (compareOp o) (rD2 X.K (D.cmp o) false):=by
 intro pins s σ H x y v u Q I rx ry h
 obtain⟨O,d1,d2,d,r1,r2,ev,tr,k⟩:=h
 have hroom':X.A.units+64<cLine:=hroom
 have kk:∀b,d=.bl b->Q (.bl b) H:=λb e=>k _ H (Same.refl H) (by subst e;exact rfl) λz=>by cases z
 have s1:=CI I r1 rx
 have s2:=CI I r2 ry
 unfold D.cmp at ev
 split at ev
 ·obtain⟨c,ev⟩:=bO ev
  cases ev
  unfold D.eqOk at c
  rw[aM]at c
  exact rcAt_D I s1 s2 c.1 c.2 (by lia) X.prog X.w X.xe _ ⟨.bl _,H,I,rfl,kk _ rfl⟩
 ·obtain⟨c,ev⟩:=bO ev
  cases ev
  unfold D.eqOk at c
  rw[aM]at c
  exact JL I s1 s2 c.1 c.2 (by lia) X.prog X.w X.xe _ ⟨.bl _,H,I,rfl,kk _ rfl⟩
 ·cases ev
  cases (show x=_ from r1.rd rfl)
  cases (show y=_ from r2.rd rfl)
  exact op_lt pins s σ H _ _ v u Q I rx ry ⟨_,_,rfl,rfl,kk _ rfl⟩
 ·cases ev
  cases (show x=_ from r1.rd rfl)
  cases (show y=_ from r2.rd rfl)
  exact op_le pins s σ H _ _ v u Q I rx ry ⟨_,_,rfl,rfl,kk _ rfl⟩
 ·cases ev
  cases (show x=_ from r1.rd rfl)
  cases (show y=_ from r2.rd rfl)
  exact op_gt pins s σ H _ _ v u Q I rx ry ⟨_,_,rfl,rfl,kk _ rfl⟩
 ·cases ev
  cases (show x=_ from r1.rd rfl)
  cases (show y=_ from r2.rd rfl)
  exact op_ge pins s σ H _ _ v u Q I rx ry ⟨_,_,rfl,rfl,kk _ rfl⟩
 ·cases ev
  cases (show y=_ from r2.rd rfl)
  have e:decide (x=.non)=D.isNon d1:=CM r1
  exact op_isN pins s σ H _ _ v u Q I rx ry ⟨rfl,by rw[e];exact kk _ rfl⟩
 ·cases ev
  cases (show y=_ from r2.rd rfl)
  have e:decide (x=.non)=D.isNon d1:=CM r1
  exact HV pins s σ H _ _ v u Q I rx ry ⟨rfl,by rw[e];exact kk _ rfl⟩
 ·cases ev
  cases (show x=_ from r1.rd rfl)
  cases (show y=_ from r2.rd rfl)
  cases rx
  cases ry
  exact is_bool (mV I (kk _ rfl) rfl)
 ·cases ev
  cases (show x=_ from r1.rd rfl)
  cases (show y=_ from r2.rd rfl)
  cases rx
  cases ry
  exact isnot_bool (mV I (kk _ rfl) rfl)
 ·obtain⟨b,e1,ev⟩:=Res.bind_ok ev
  cases ev
  unfold D.inn at e1
  split at e1
  ·obtain⟨c,e1⟩:=bO e1
   cases e1
   rw[aM]at c
   cases s2 with
   |lst ds a xs its q w r p=>
    have t:=nE I (n:=29) (A:=X.A.in1) s1 c.2 (by show X.A.units+1+29<cLine;lia) w r c.1
    refine SeqAt.in_listAt (seen X H s d1) p.isList (λw hw=>t.1 w (by simpa using hw)) ⟨.bl _,H,I,rfl,?_⟩
    rw[show its.toArray.any (seen X H s d1)=its.any (seen X H s d1) by simp,t.2]
    exact kk _ rfl
  ·obtain⟨c,e1⟩:=bO e1
   cases e1
   rw[aM]at c
   cases s2 with
   |tup ds a xs its q w r p=>
    have t:=nE I (n:=29) (A:=X.A.in1) s1 c.2 (by show X.A.units+1+29<cLine;lia) w r c.1
    refine SeqAt.in_tupleAt (seen X H s d1) p (λw hw=>t.1 w (by simpa using hw)) ⟨.bl _,H,I,rfl,?_⟩
    rw[show its.toArray.any (seen X H s d1)=its.any (seen X H s d1) by simp,t.2]
    exact kk _ rfl
  ·split at e1
   ·cases (show x=_ from r1.rd rfl)
    cases (show y=_ from r2.rd rfl)
    exact HU pins s σ H _ _ v u Q I rx ry ⟨_,_,rfl,rfl,by rw[Bh e1];exact kk _ rfl⟩
   ·cases e1
  ·cases e1
 ·obtain⟨b,e1,ev⟩:=Res.bind_ok ev
  cases ev
  unfold D.inn at e1
  split at e1
  ·obtain⟨c,e1⟩:=bO e1
   cases e1
   rw[aM]at c
   cases s2 with
   |lst ds a xs its q w r p=>
    have t:=nE I (n:=29) (A:=X.A.in1) s1 c.2 (by show X.A.units+1+29<cLine;lia) w r c.1
    refine SeqAt.notIn_listAt (seen X H s d1) p.isList (λw hw=>t.1 w (by simpa using hw)) ⟨.bl _,H,I,rfl,?_⟩
    rw[show its.toArray.any (seen X H s d1)=its.any (seen X H s d1) by simp,t.2]
    exact kk _ rfl
  ·obtain⟨c,e1⟩:=bO e1
   cases e1
   rw[aM]at c
   cases s2 with
   |tup ds a xs its q w r p=>
    have t:=nE I (n:=29) (A:=X.A.in1) s1 c.2 (by show X.A.units+1+29<cLine;lia) w r c.1
    refine SeqAt.notIn_tupleAt (seen X H s d1) p (λw hw=>t.1 w (by simpa using hw)) ⟨.bl _,H,I,rfl,?_⟩
    rw[show its.toArray.any (seen X H s d1)=its.any (seen X H s d1) by simp,t.2]
    exact kk _ rfl
  ·split at e1
   ·cases (show x=_ from r1.rd rfl)
    cases (show y=_ from r2.rd rfl)
    exact HW pins s σ H _ _ v u Q I rx ry ⟨_,_,rfl,rfl,by rw[Bh e1];exact kk _ rfl⟩
   ·cases e1
  ·cases e1
 ·cases ev
theorem ixN_eq(n:Nat)(i:Int):Tr.ixN n i=L2.ixN n i:=rfl
theorem CN{xs:List V}{i:Int}(w:RDs K H O ds xs)(h:Tr.atI ds i=some d):∃v,L2.atI xs i=some v/\RD K H O d v:=by
 unfold Tr.atI at h
 unfold L2.atI
 rw[w.length]
 rw[ixN_eq]at h
 cases e:L2.ixN ds.length i with
 |none=>rw[e]at h;cases h
 |some j=>
  rw[e]at h
  exact w.get h
theorem ixr(hroom:gW X):IxR X (rD2 X.K D.ix false):=by
 intro value slice pins s σ H x y v u Q I rx ry h hs
 obtain⟨O,d1,d2,d,r1,r2,ev,tr,k⟩:=h
 have kk:∀w,RD X.K H O d w->Q w H:=λw r=>k w H (Same.refl H) r λz=>by cases z
 unfold D.ix at ev
 split at ev
 ·obtain⟨a1,xs1,rfl,q1,w1⟩:=r1.lst
  cases (show y=_ from r2.rd rfl)
  rename_i ds i
  cases e:Tr.atI ds i with
  |none=>rw[e]at ev;cases ev
  |some d0=>
   rw[e]at ev;cases ev
   obtain⟨w,h1,h2⟩:=CN w1 e
   exact Hr value slice pins s σ H _ _ v u Q I rx ry ⟨a1,xs1,_,w,rfl,rfl,q1,h1,kk w h2⟩ hs
 ·obtain⟨a1,xs1,rfl,q1,w1⟩:=r1.tup
  cases (show y=_ from r2.rd rfl)
  rename_i ds i
  cases e:Tr.atI ds i with
  |none=>rw[e]at ev;cases ev
  |some d0=>
   rw[e]at ev;cases ev
   obtain⟨w,h1,h2⟩:=CN w1 e
   exact BI value slice pins s σ H _ _ v u Q I rx ry ⟨a1,xs1,_,w,rfl,rfl,q1,h1,kk w h2⟩ hs
 ·rename_i z i
  obtain⟨c,ev⟩:=bO ev
  cases (show x=.str z from r1.rd rfl)
  cases (show y=.int i from r2.rd rfl)
  cases e:Tr.atI z.cps.toList i with
  |none=>rw[e]at ev;cases ev
  |some c0=>
   rw[e]at ev;cases ev
   exact ix_str value slice pins s σ H _ _ v u Q I rx ry ⟨z,i,c0,rfl,rfl,by rw[<-gU];exact of_decide_eq_true c,e,kk _ rfl⟩ hs
 ·cases ev
end
end Tr
namespace Tr
open PySem PySem.Spec PyProof.Rows L2
variable{o:CmpOp}{env:Env}{e:Expr}
noncomputable def bM:Expr->Bool
 |.Starred _ _=>false
 |.Slice _ _ _ _=>false
 |.Set _ _ _=>false
 |_=>true
theorem CO(h:bM e=true):BG e:=by
 intro o i
 cases e<;>first|rfl|(cases h)
theorem bD{es:List Expr}(h:bM e=true):starEach (e::es) env=(false,eval e env)::starEach es env:=by
 cases e<;>first|rfl|(cases h)
theorem iE{pos:Pos}{env:Env}:∀{es:List Expr},es.all bM=true->(backTo pos (starEach es env)).any (·.1)=false
 |[],_=>rfl
 |e::es,h=>by
  rw[lC,aM]at h
  have ih:=iE (pos:=pos) (env:=env) h.2
  rw[bD h.1]
  show(false||(backTo pos (starEach es env)).any (·.1))=false
  rw[ih];rfl
theorem sJ(h:bM e=true):behindInMarks o e=false:=by
 cases e<;>first|rfl|(cases h)
theorem CP(h:bM e=true):∀x,foldedSetIterable e env x=pure x:=by
 intro x
 cases e<;>first|rfl|(cases h)
section
variable{T:Tab}{cf:Nat->List D->Res D}{X:Cx}{x y z:E}{p q r:Expr}{pos:Pos}{es:List Expr}
theorem se_bin{o:Operator}(ha:SR T cf X x p)(hb:SR T cf X y q):SE T cf X (.bin o x y) (.BinOp p o q pos):=
 vZ (f:=D.bin o) (λe=>rfl) (λh1 h2=>pe_op (JO o _ (by cases o<;>first|(intro _;rfl)|(intro z;cases z))) h1 h2) ha hb
theorem se_cmp(hR:gW X)(hm:bM q=true)(ha:SR T cf X x p)(hb:SR T cf X y q):SE T cf X (.cmp o x y) (.Compare p [o] [q] pos):=
 vZ (f:=D.cmp o) (λe=>rfl) (λh1 h2=>HX (nF o hR) h1 h2 (sJ hm)) ha hb
theorem se_ix(hR:gW X)(hm:bM q=true)(ha:SR T cf X x p)(hb:SR T cf X y q):SE T cf X (.ix x y) (.Subscript p q pos):=
 vZ (f:=D.ix) (λe=>rfl) (λh1 h2=>BH (ixr hR) h1 h2 (CO hm)) ha hb
theorem JQ{X:Cx}:SlR X (λx lo hi H Q=>∃a xs,x=.ref a/\SqT X.K H a xs/\(HT.sIx xs.length 0 lo=0/\HT.sIx xs.length xs.length hi=xs.length)/\Q (.ref a) H):=by
 intro pins s σ H x v vl vu lo hi sl Q I rx hs pl pu h
 obtain⟨a,xs,rfl,hx,hw,q⟩:=h
 cases rx
 obtain⟨its,r,ht,hz⟩:=I.tuple hx
 have hlen:its.toArray.size=xs.length:=by rw[bQ];exact r.length.symm
 refine⟨"tuple", _,PyProof.Rows.slot_tuple_getitem.lookup,ht.typeIs,?_⟩
 obtain⟨os,hos,hcs,hds⟩:=id hs
 have hTs:s.TypeIs (.ref sl) "slice" := ⟨os,hos,hcs⟩
 have fin:EP X pins σ Q (.ref a) s:=⟨.ref a,H,I,rfl,q⟩
 unfold getItem
 try with_reducible refine wpAny_holding ?_
 first|refine wpAny_bind (wpAny_pure ?_)|skip
 refine wpAny_bind (wpAny_sequenceKey ht.typeIs (by decide) ?_)
 refine wpAny_bind (wpAny_callSpecial?_slot (name:=Str.ofString "__getitem__") ht.typeIs PyProof.Rows.slot_tuple_getitem
  (wpAny_call_entry PyProof.Rows.slot_tuple_getitem ht.typeIs entry_tuple_getitem ?_ (args_tuple_getitem _ _)))
 show wpAny _ _ (Builtin.Tuple.tupleItemsOf (.ref a)>>=_) _ _ s
 refine wpAny_bind (tupleItemsOf_ ht ?_)
 refine wpAny_bind (wpAny_typeOf hTs ?_)
 rw[if_pos (by decide)]
 refine wpAny_bind (HT.sliceApplied_gen hs pl pu ?_)
 have hyes:(((HT.sIx its.toArray.size 0 lo:Nat):Int)==0&&(1:Int)==1&&(HT.sIx its.toArray.size its.toArray.size hi-HT.sIx its.toArray.size 0 lo)==its.toArray.size)=true:=by
  rw[hlen,hw.1,hw.2];simp
 show wpAny _ _ (if(((HT.sIx its.toArray.size 0 lo:Nat):Int)==0&&(1:Int)==1&&(HT.sIx its.toArray.size its.toArray.size hi-HT.sIx its.toArray.size 0 lo)==its.toArray.size)=true then _ else _) _ _ s
 rw[if_pos hyes]
 refine wpAny_bind (m:=Builtin.Tuple.tupleIsExact (.ref a)) ?_
 unfold Builtin.Tuple.tupleIsExact
 refine wpAny_bind (wpAny_typeOf ht.typeIs (wpAny_pure ?_))
 rw[if_pos (by decide)]
 refine wpAny_bind (wpAny_rule ?_)
 first
  |exact wpAny_pure ⟨_,rfl,wpAny_pure fin⟩
  |exact wpAny_bind (wpAny_pure ⟨_,rfl,wpAny_pure fin⟩)
  |exact wpAny_bind (wpAny_pure (wpAny_pure ⟨_,rfl,wpAny_pure fin⟩))
  |trace_state
end
end Tr
namespace Tr
open PySem PySem.Spec PyProof.Rows L2
variable{o o':CmpOp}{d:D}{a b:Expr}{H:Hp}{rest:List Expr}{ta tb:TE}
section
variable{T:Tab}{cf:Nat->List D->Res D}{X:Cx}{x y z:E}{p q r:Expr}{pos pos':Pos}{es:List Expr}
theorem CQ(n d:Nat)(o:Option Int):Tr.sIx n d o=HT.sIx n d o:=by cases o<;>rfl
theorem slr:SlR X (λv lo hi H Q=>∃O d0 d,RR X.K H O d0 v/\D.sl d0 lo hi=.ok d/\(∀a,O a->∃o,H a=some o)/\∀w H',Same H H'->RD X.K H' O d w->NewL X.K H H' O d w->Q w H'):=by
 intro pins s σ H x v vl vu lo hi sl Q I rx hs pl pu h
 obtain⟨O,d0,d,r0,ev,tr,k⟩:=h
 unfold D.sl at ev
 split at ev
 ·cases ev
  obtain⟨a,xs,rfl,q0,w0⟩:=r0.lst
  refine Hu pins s σ H _ v vl vu _ _ sl Q I rx hs pl pu ⟨a,xs,rfl,q0,λp hp=>?_⟩
  have z:=nC (w0.cut lo hi) hp tr
  exact k _ _ (dD hp _) z.1 z.2
 ·cases ev
  obtain⟨a,xs,rfl,qv,w0⟩:=r0.tupV
  have q0:=qv.sq
  by_cases hw:HT.sIx xs.length 0 lo=0/\HT.sIx xs.length xs.length hi=xs.length
  ·refine JQ pins s σ H _ v vl vu _ _ sl Q I rx hs pl pu ⟨a,xs,rfl,q0,hw,?_⟩
   refine k _ _ (Same.refl H) ⟨a,xs,rfl,qv,?_⟩ (NewL.still rfl)
   unfold Tr.cut
   rw[<-w0.length,CQ,CQ,hw.1,hw.2,uS,uT,kD (by rw[w0.length];exact aN _)]
   exact w0
  ·refine sl_tup pins s σ H _ v vl vu _ _ sl Q I rx hs pl pu ⟨a,xs,rfl,q0,hw,λp hp=>?_⟩
   exact k _ _ (dD hp _) (nD (w0.cut lo hi) hp) (NewL.still rfl)
 ·obtain⟨c,ev⟩:=bO ev
  cases ev
  cases (show x=_ from r0.rd rfl)
  exact sl_str pins s σ H _ v vl vu _ _ sl Q I rx hs pl pu ⟨_,rfl,by rw[<-gU];exact of_decide_eq_true c,k _ H (Same.refl H) rfl (NewL.still rfl)⟩
 ·cases ev
noncomputable def SO(T:Tab)(cf:Nat->List D->Res D)(X:Cx)(x:E)(p:Option Expr):Prop:=∀H_h O_h,PO X p (λσ H Q=>∃O own e d o,Fm X.K H_h O_h H O own e σ/\evE T cf x e=.ok d/\d.part=.ok o/\∀H',Same H H'->Q o H')
theorem JR:SO T cf X .omit none:=λH_h O_h pins s σ H Q I ⟨O,own,e,d,o,F,ev,ep,k⟩=>by
 rw[IJ]at ev;cases ev;cases ep
 exact Hm pins s σ H Q I (k H (Same.refl H))
theorem JS(h:SE T cf X x p):SO T cf X x (some p):=λH_h O_h pins s σ H Q I ⟨O,own,e,d,o,F,ev,ep,k⟩=>by
 rw[evalPart_some]
 refine thn (h H_h O_h pins s σ H (λv H'=>Same H H'/\RD X.K H' O d v) I ⟨O,own,e,d,F,ev,λv H' s' r _=>⟨s',r⟩⟩) λu s1 ⟨v,H1,I1,r1,s',r⟩=>?_
 unfold D.part at ep
 split at ep
 ·cases ep
  cases (show v=_ from r)
  cases r1
  exact⟨none,H1,I1,.none,k H1 s'⟩
 ·cases ep
  cases (show v=_ from r)
  obtain⟨t,rfl⟩:=r1
  exact⟨_,H1,I1,.int _ t,k H1 s'⟩
 ·cases ep
theorem se_sl{lo hi:Option Expr}(ha:SR T cf X x p)(hl:SO T cf X y lo)(hh:SO T cf X z hi):SE T cf X (.sl x y z) (.Subscript p (.Slice lo hi none pos') pos):=λH_h O_h=>by
 refine PE.imp (λσ H Q hq=>?_) (Hn slr (ha H_h O_h) (hl H_h O_h) (hh H_h O_h))
 obtain⟨O,own,e,d,F,ev,k⟩:=hq
 rw[xE_sl]at ev
 obtain⟨d1,e1,ev⟩:=Res.bind_ok ev
 obtain⟨d2,e2,ev⟩:=Res.bind_ok ev
 obtain⟨o2,e2',ev⟩:=Res.bind_ok ev
 obtain⟨d3,e3,ev⟩:=Res.bind_ok ev
 obtain⟨o3,e3',ev⟩:=Res.bind_ok ev
 refine⟨O,own,e,d1,F,e1,λv1 H1 s1 r1=>⟨O,own,e,d2,o2,F.grow s1,e2,e2',λH2 s2=>⟨O,own,e,d3,o3,(F.grow s1).grow s2,e3,e3',λH3 s3=>?_⟩⟩⟩
 refine⟨O,d1,d,(r1.same s2).same s3,ev,((F.grow s1).grow (s2.trans s3)).trk,λw H' s4 r4 n4=>?_⟩
 exact k w H' ((s1.trans (s2.trans s3)).trans s4) r4 λ_=>n4.back (s1.trans (s2.trans s3))
theorem CS{a:E}{e:Nv}{ds:List D}(h:evA T cf a e=.ok ds):ds.length<=1000:=by
 cases a with
 |anil=>(first|rw[rV]at h|rw[rW]at h);cases h;exact eT _
 |acons a r=>
  (first|rw[rV]at h|rw[rW]at h)
  obtain⟨d1,e1,h⟩:=Res.bind_ok h
  obtain⟨d2,e2,h⟩:=Res.bind_ok h
  obtain⟨c,h⟩:=bO h
  cases h
  have:=of_decide_eq_true c
  rw[aW];lia
 |_=>exact absurd (show(Res.no:Res (List D))=Res.ok ds from h) (λz=>by cases z)
theorem sav_nil:SAv T cf X .anil []:=λH_h O_h pos pins s σ H Q I ⟨O,own,e,ds,F,ev,k⟩=>by
 rw[rV]at ev;cases ev
 exact eG pos pins s σ H Q I (k [] H (Same.refl H) rfl λj d v _ z=>by cases z)
theorem JT(hp:bM p=true)(ha:SE T cf X x p)(hr:SAv T cf X y es):SAv T cf X (.acons x y) (p::es):=λH_h O_h pos pins s σ H Q I ⟨O,own,e,ds,F,ev,k⟩=>by
 rw[rW]at ev
 obtain⟨d1,e1,ev⟩:=Res.bind_ok ev
 obtain⟨d2,e2,ev⟩:=Res.bind_ok ev
 obtain⟨c,ev⟩:=bO ev
 cases ev
 refine dC (ha H_h O_h) (hr H_h O_h) (bD hp) pos pins s σ H Q I ⟨O,own,e,d1,F,e1,λv1 H1 s1 r1 n1=>⟨O,own,e,d2,F.grow s1,e2,λvs H2 s2 r2 n2=>?_⟩⟩
 refine k (v1::vs) H2 (s1.trans s2) ⟨v1,vs,rfl,r1.same s2,r2⟩ λj d v hf hd hv=>?_
 cases j with
 |zero=>cases hd;cases hv;exact(n1 hf).same s2
 |succ j=>exact(n2 j d v hf hd hv).back s1
theorem JU:SAr T cf X .anil []:=sav_nil.sr
theorem JV(hp:bM p=true)(ha:SR T cf X x p)(hr:SAr T cf X y es):SAr T cf X (.acons x y) (p::es):=λH_h O_h pos pins s σ H Q I ⟨O,own,e,ds,F,ev,k⟩=>by
 rw[rW]at ev
 obtain⟨d1,e1,ev⟩:=Res.bind_ok ev
 obtain⟨d2,e2,ev⟩:=Res.bind_ok ev
 obtain⟨c,ev⟩:=bO ev
 cases ev
 refine dC (ha H_h O_h) (hr H_h O_h) (bD hp) pos pins s σ H Q I ⟨O,own,e,d1,F,e1,λv1 H1 s1 r1=>⟨O,own,e,d2,F.grow s1,e2,λvs H2 s2 r2=>?_⟩⟩
 exact k (v1::vs) H2 (s1.trans s2) ⟨v1,vs,rfl,r1.same s2,r2⟩
theorem CT{n:Nat}(h:n<=1000):n<=sizeLine:=mK (IH h)
theorem se_tup{k:Nat}(ha:SAv T cf X x es):SE T cf X (.tup x) (.Tuple es k pos):=λH_h O_h=>by
 refine PE.imp (λσ H Q hq=>?_) (pe_tup (ha H_h O_h))
 obtain⟨O,own,e,d,F,ev,k⟩:=hq
 rw[BZ]at ev
 obtain⟨ds,e1,ev⟩:=Res.bind_ok ev
 cases ev
 refine⟨O,own,e,ds,F,e1,λvs H1 s1 r1 _=>⟨by rw[r1.length];exact CT (CS e1),λp hp=>?_⟩⟩
 exact k _ _ (s1.trans (dD hp _)) (nD r1 hp) (λz=>by cases z)
theorem se_lst(ha:SAv T cf X x es):SE T cf X (.lst x) (.List es pos):=λH_h O_h=>by
 refine PE.imp (λσ H Q hq=>?_) (pe_lst (ha H_h O_h))
 obtain⟨O,own,e,d,F,ev,k⟩:=hq
 rw[lN]at ev
 obtain⟨ds,e1,ev⟩:=Res.bind_ok ev
 cases ev
 refine⟨O,own,e,ds,F,e1,λvs H1 s1 r1 _=>⟨by rw[r1.length];exact CT (CS e1),λp hp=>?_⟩⟩
 have z:=nC r1 hp (F.grow s1).trk
 exact k _ _ (s1.trans (dD hp _)) z.1 λ_=>z.2.back s1
theorem CU{α β:Type}{xs:List α}{ds:List β}(h:xs.length=ds.length):(!ds.isEmpty)=!xs.isEmpty:=by
 cases xs<;>cases ds<;>first|rfl|(simp at h)
theorem sL{K:PySem.W.Frag}{O:Addr->Prop}{v:V}{k:Bool}(r:RR K H O d v)(h:d.truth=.ok k):oV K v H k:=by
 unfold D.truth at h
 split at h
 ·cases h;cases (show v=_ from r.rd rfl);exact(rfl:false=false)
 ·cases h;cases (show v=_ from r.rd rfl);exact(rfl:k=k)
 ·cases h;cases (show v=_ from r.rd rfl);exact rfl
 ·obtain⟨c,h⟩:=bO h
  cases h;cases (show v=_ from r.rd rfl);exact⟨by rw[<-gU];exact of_decide_eq_true c,rfl⟩
 ·cases h
  obtain⟨a,xs,rfl,q,w⟩:=r.tup
  refine .inr (.inl ⟨xs,q,?_⟩)
  exact CU w.length
 ·cases h
  obtain⟨a,xs,rfl,q,w⟩:=r.lst
  refine .inl ⟨xs,q,?_⟩
  exact CU w.length
theorem CV(ha:SR T cf X x p)(he:∀whole,isTrue p X.env whole=(do let v<-whole;standAt p.pos;holding [v] (truthy v))):ST T cf X x p:=λH_h O_h=>
 PT.imp (λσ H Q ⟨O,own,e,d,k,F,ev,et,q⟩=>⟨O,own,e,d,F,ev,λv H' s r=>⟨k,sL r et,q H' s⟩⟩) (Ha (ha H_h O_h) he)
theorem wD{a b:D}(h:D.cmp o a b=.ok d):∃k,d=.bl k:=by
 unfold D.cmp at h
 split at h<;>first
  |(obtain⟨_,h⟩:=bO h;cases h;exact⟨_,rfl⟩)
  |(cases h;exact⟨_,rfl⟩)
  |(obtain⟨_,_,h⟩:=Res.bind_ok h;cases h;exact⟨_,rfl⟩)
  |cases h
theorem st_cmp(hR:gW X)(hm:bM q=true)(ha:SR T cf X x p)(hb:SR T cf X y q):ST T cf X (.cmp o x y) (.Compare p [o] [q] pos):=λH_h O_h=>by
 refine PT.imp (λσ H Q hq=>?_) (HY (nF o hR) (ha H_h O_h) (hb H_h O_h) (sJ hm))
 obtain⟨O,own,e,d,k,F,ev,et,qk⟩:=hq
 rw[BU]at ev
 obtain⟨d1,e1,ev⟩:=Res.bind_ok ev
 obtain⟨d2,e2,ev⟩:=Res.bind_ok ev
 obtain⟨k',rfl⟩:=wD ev
 cases et
 refine⟨O,own,e,d1,F,e1,λv1 H1 s1 r1=>⟨O,own,e,d2,F.grow s1,e2,λv2 H2 s2 r2=>?_⟩⟩
 refine⟨O,d1,d2,_,r1.same s2,r2,ev,(F.grow (s1.trans s2)).trk,λv H' s3 r3 _=>?_⟩
 exact⟨k,r3,qk H' ((s1.trans s2).trans s3)⟩
theorem JW(ha:PE X a ta)(hb:PE X (.BoolOp .And (b::rest) pos) tb) :
 PE X (.BoolOp .And (a::b::rest) pos) (λσ H Q=>ta σ H λx H1=>∃c,oV X.K x H1 c/\if c=true then tb σ H1 Q else Q x H1):=by
 intro pins s σ H Q I h
 refine BoolOp_and (thn (ha pins s σ H _ I h) λv s1 ⟨x,H1,I1,r1,c,tc,q1⟩=>?_)
 refine thn (rP pins s1 σ H1 x v (λb H2=>b=c/\H2=H1) I1 r1 ⟨c,tc,rfl,rfl⟩) λb s2 ⟨H2,I2,e1,e2⟩=>?_
 subst e1 e2
 cases b with
 |true=>exact hb pins s2 σ H2 Q I2 q1
 |false=>exact⟨x,H2,I2,r1,q1⟩
theorem pe_orV(ha:PE X a ta)(hb:PE X (.BoolOp .Or (b::rest) pos) tb) :
 PE X (.BoolOp .Or (a::b::rest) pos) (λσ H Q=>ta σ H λx H1=>∃c,oV X.K x H1 c/\if c=true then Q x H1 else tb σ H1 Q):=by
 intro pins s σ H Q I h
 refine BoolOp_or (thn (ha pins s σ H _ I h) λv s1 ⟨x,H1,I1,r1,c,tc,q1⟩=>?_)
 refine thn (rP pins s1 σ H1 x v (λb H2=>b=c/\H2=H1) I1 r1 ⟨c,tc,rfl,rfl⟩) λb s2 ⟨H2,I2,e1,e2⟩=>?_
 subst e1 e2
 cases b with
 |false=>exact hb pins s2 σ H2 Q I2 q1
 |true=>exact⟨x,H2,I2,r1,q1⟩
theorem CW(ha:SE T cf X x p)(hb:SE T cf X y (.BoolOp .And (q::rest) pos)):SE T cf X (.and x y) (.BoolOp .And (p::q::rest) pos):=λH_h O_h=>by
 refine PE.imp (λσ H Q hq=>?_) (JW (ha H_h O_h) (hb H_h O_h))
 obtain⟨O,own,e,d,F,ev,k⟩:=hq
 rw[BV]at ev
 obtain⟨d1,e1,ev⟩:=Res.bind_ok ev
 obtain⟨c,e2,ev⟩:=Res.bind_ok ev
 refine⟨O,own,e,d1,F,e1,λv1 H1 s1 r1 _=>⟨c,sL r1.rr e2,?_⟩⟩
 cases c with
 |true=>
  rw[if_pos rfl]at ev⊢
  exact⟨O,own,e,d,F.grow s1,ev,λv H' s' r _=>k v H' (s1.trans s') r (λz=>by cases z)⟩
 |false=>
  rw[if_neg bR]at ev⊢
  cases ev
  exact k v1 H1 s1 r1 (λz=>by cases z)
theorem CY(ha:SE T cf X x p)(hb:SE T cf X y (.BoolOp .Or (q::rest) pos)):SE T cf X (.or x y) (.BoolOp .Or (p::q::rest) pos):=λH_h O_h=>by
 refine PE.imp (λσ H Q hq=>?_) (pe_orV (ha H_h O_h) (hb H_h O_h))
 obtain⟨O,own,e,d,F,ev,k⟩:=hq
 rw[BW]at ev
 obtain⟨d1,e1,ev⟩:=Res.bind_ok ev
 obtain⟨c,e2,ev⟩:=Res.bind_ok ev
 refine⟨O,own,e,d1,F,e1,λv1 H1 s1 r1 _=>⟨c,sL r1.rr e2,?_⟩⟩
 cases c with
 |false=>
  rw[if_neg bR]at ev⊢
  exact⟨O,own,e,d,F.grow s1,ev,λv H' s' r _=>k v H' (s1.trans s') r (λz=>by cases z)⟩
 |true=>
  rw[if_pos rfl]at ev⊢
  cases ev
  exact k v1 H1 s1 r1 (λz=>by cases z)
theorem CZ{op:BoolOp}(h:SE T cf X x p):SE T cf X x (.BoolOp op [p] pos):=λH_h O_h=>pe_one (h H_h O_h)
theorem C1(ha:ST T cf X x p)(hv:SR T cf X x p):SE T cf X (.not x) (.UnaryOp .Not p pos):=λH_h O_h=>by
 intro pins s σ H Q I ⟨O,own,e,d,F,ev,k⟩
 rw[BX]at ev
 obtain⟨d1,e1,ev⟩:=Res.bind_ok ev
 obtain⟨c,e2,ev⟩:=Res.bind_ok ev
 cases ev
 refine UnaryOp_ (thn (hv H_h O_h pins s σ H (λv1 H1=>Same H H1/\RR X.K H1 O d1 v1) I ⟨O,own,e,d1,F,e1,λv1 H1 s1 r1=>⟨s1,r1⟩⟩) λv s1 ⟨x1,H1,I1,r1,s1',rr⟩=>?_)
 refine not_of ?_
 exact thn (rP pins s1 σ H1 x1 v (λb H2=>b=c/\H2=H1) I1 r1 ⟨c,sL rr e2,rfl,rfl⟩) λb s2 ⟨H2,I2,e3,e4⟩=>by
  subst e3 e4
  exact⟨.bl (!b),H2,I2,rfl,k _ H2 s1' rfl (λz=>by cases z)⟩
theorem st_not(ha:ST T cf X x p):ST T cf X (.not x) (.UnaryOp .Not p pos):=λH_h O_h=>by
 refine PT.imp (λσ H Q hq=>?_) (pt_not (ha H_h O_h))
 obtain⟨O,own,e,d,k,F,ev,et,qk⟩:=hq
 rw[BX]at ev
 obtain⟨d1,e1,ev⟩:=Res.bind_ok ev
 obtain⟨c,e2,ev⟩:=Res.bind_ok ev
 cases ev
 cases et
 exact⟨O,own,e,d1,c,F,e1,e2,λH' s=>qk H' s⟩
noncomputable def SW(T:Tab)(cf:Nat->List D->Res D)(X:Cx)(x:E)(p:Expr):Prop:=∀H_h O_h,PW X p (tT T cf X.K H_h O_h x)
theorem SW.st(h:SW T cf X x p):ST T cf X x p:=λH_h O_h=>(h H_h O_h).pt
theorem PW.imp{t t':TT}(h:∀σ H Q,t' σ H Q->t σ H Q)(hp:PW X p t):PW X p t':=λw pins s σ H Q I q=>hp w pins s σ H Q I (h σ H Q q)
theorem JX(ha:ST T cf X x p):SW T cf X x (.BoolOp .And [p] pos):=λH_h O_h=>HD (ha H_h O_h)
theorem sw_or1(ha:ST T cf X x p):SW T cf X x (.BoolOp .Or [p] pos):=λH_h O_h=>pw_or1 (ha H_h O_h)
theorem C2(ha:ST T cf X x p)(hb:SW T cf X y (.BoolOp .And (q::rest) pos)):SW T cf X (.and x y) (.BoolOp .And (p::q::rest) pos):=λH_h O_h=>by
 refine PW.imp (λσ H Q hq=>?_) (pw_and (ha H_h O_h) (hb H_h O_h))
 obtain⟨O,own,e,d,k,F,ev,et,qk⟩:=hq
 rw[BV]at ev
 obtain⟨d1,e1,ev⟩:=Res.bind_ok ev
 obtain⟨c,e2,ev⟩:=Res.bind_ok ev
 refine⟨O,own,e,d1,c,F,e1,e2,λH1 s1=>?_⟩
 cases c with
 |true=>
  rw[if_pos rfl]at ev⊢
  exact⟨O,own,e,d,k,F.grow s1,ev,et,λH' s'=>qk H' (s1.trans s')⟩
 |false=>
  rw[if_neg bR]at ev⊢
  cases ev
  rw[e2]at et;cases et
  exact qk H1 s1
theorem C3(ha:ST T cf X x p)(hb:SW T cf X y (.BoolOp .Or (q::rest) pos)):SW T cf X (.or x y) (.BoolOp .Or (p::q::rest) pos):=λH_h O_h=>by
 refine PW.imp (λσ H Q hq=>?_) (pw_or (ha H_h O_h) (hb H_h O_h))
 obtain⟨O,own,e,d,k,F,ev,et,qk⟩:=hq
 rw[BW]at ev
 obtain⟨d1,e1,ev⟩:=Res.bind_ok ev
 obtain⟨c,e2,ev⟩:=Res.bind_ok ev
 refine⟨O,own,e,d1,c,F,e1,e2,λH1 s1=>?_⟩
 cases c with
 |false=>
  rw[if_neg bR]at ev⊢
  exact⟨O,own,e,d,k,F.grow s1,ev,et,λH' s'=>qk H' (s1.trans s')⟩
 |true=>
  rw[if_pos rfl]at ev⊢
  cases ev
  rw[e2]at et;cases et
  exact qk H1 s1
theorem se_ife(hc:ST T cf X x p)(ha:SE T cf X y q)(hb:SE T cf X z r):SE T cf X (.ife x y z) (.IfExp p q r pos):=λH_h O_h=>by
 refine PE.imp (λσ H Q hq=>?_) (HE (hc H_h O_h) (ha H_h O_h) (hb H_h O_h))
 obtain⟨O,own,e,d,F,ev,k⟩:=hq
 rw[BY]at ev
 obtain⟨d1,e1,ev⟩:=Res.bind_ok ev
 obtain⟨c,e2,ev⟩:=Res.bind_ok ev
 refine⟨O,own,e,d1,c,F,e1,e2,λH1 s1=>?_⟩
 cases c with
 |true=>
  rw[if_pos rfl]at ev⊢
  exact⟨O,own,e,d,F.grow s1,ev,λv H' s' r _=>k v H' (s1.trans s') r (λz=>by cases z)⟩
 |false=>
  rw[if_neg bR]at ev⊢
  exact⟨O,own,e,d,F.grow s1,ev,λv H' s' r _=>k v H' (s1.trans s') r (λz=>by cases z)⟩
theorem JY{c:Expr}{tA ta tb:TT}(hc:PT X c tA)(ha:PT X a ta)(hb:PT X b tb):PT X (.IfExp c a b pos) (λσ H Q=>tA σ H λk H1=>if k=true then ta σ H1 Q else tb σ H1 Q):=by
 intro pins s σ H Q I h
 show wpAny _ _ (isTrue c X.env (eval c X.env)>>=λk=>if k=true then isTrue a X.env (eval a X.env)else isTrue b X.env (eval b X.env)) _ _ s
 refine wpAny_bind (thn (hc pins s σ H _ I h) λk s1 ⟨H1,I1,q1⟩=>?_)
 cases k with
 |true=>exact ha pins s1 σ H1 Q I1 q1
 |false=>exact hb pins s1 σ H1 Q I1 q1
theorem st_ife(hc:ST T cf X x p)(ha:ST T cf X y q)(hb:ST T cf X z r):ST T cf X (.ife x y z) (.IfExp p q r pos):=λH_h O_h=>by
 refine PT.imp (λσ H Q hq=>?_) (JY (hc H_h O_h) (ha H_h O_h) (hb H_h O_h))
 obtain⟨O,own,e,d,k,F,ev,et,qk⟩:=hq
 rw[BY]at ev
 obtain⟨d1,e1,ev⟩:=Res.bind_ok ev
 obtain⟨c,e2,ev⟩:=Res.bind_ok ev
 refine⟨O,own,e,d1,c,F,e1,e2,λH1 s1=>?_⟩
 cases c with
 |true=>
  rw[if_pos rfl]at ev⊢
  exact⟨O,own,e,d,k,F.grow s1,ev,et,λH' s'=>qk H' (s1.trans s')⟩
 |false=>
  rw[if_neg bR]at ev⊢
  exact⟨O,own,e,d,k,F.grow s1,ev,et,λH' s'=>qk H' (s1.trans s')⟩
theorem C4{H_h:Hp}{O_h:Addr->Prop}{σ:L2.St}{Q:VK}(h:tE T cf X.K H_h O_h (.chain o o' x y z) σ H Q) :
 vE (rD2 X.K (D.cmp o) false) (rD2 X.K (D.cmp o') false) (tR T cf X.K H_h O_h x) (tR T cf X.K H_h O_h y) (tR T cf X.K H_h O_h z) σ H Q:=by
 obtain⟨O,own,e,d,F,ev,k⟩:=h
 (first|rw[BU]at ev|rw[vT]at ev)
 obtain⟨d1,e1,ev⟩:=Res.bind_ok ev
 obtain⟨d2,e2,ev⟩:=Res.bind_ok ev
 obtain⟨d3,e3,ev⟩:=Res.bind_ok ev
 obtain⟨c,rfl⟩:=wD e3
 refine⟨O,own,e,d1,F,e1,λv1 H1 s1 r1=>⟨O,own,e,d2,F.grow s1,e2,λv2 H2 s2 r2=>?_⟩⟩
 refine⟨O,d1,d2,_,r1.same s2,r2,e3,(F.grow (s1.trans s2)).trk,λv H3 s3 r3 _=>⟨c,r3,?_⟩⟩
 have s123:=(s1.trans s2).trans s3
 cases c with
 |true=>
  rw[if_pos rfl]
  obtain⟨d4,e4,ev⟩:=Res.bind_ok ev
  refine⟨O,own,e,d4,F.grow s123,e4,λv4 H4 s4 r4=>?_⟩
  exact⟨O,d2,d4,d,(r2.same s3).same s4,r4,ev,(F.grow (s123.trans s4)).trk,λv H' s5 r5 n5=>k v H' ((s123.trans s4).trans s5) r5 λz=>by cases z⟩
 |false=>
  rw[if_neg bR]
  cases ev
  exact k _ H3 s123 rfl λz=>by cases z
theorem JZ(hR:gW X)(hm:bM r=true)(ha:SR T cf X x p)(hb:SR T cf X y q)(hc:SR T cf X z r):SE T cf X (.chain o o' x y z) (.Compare p [o,o'] [q,r] pos):=λH_h O_h=>
 PE.imp (λσ H Q h=>C4 h) (HZ (nF o hR) (nF o' hR) (ha H_h O_h) (hb H_h O_h) (hc H_h O_h) (sJ hm))
theorem J0(hR:gW X)(hm:bM r=true)(ha:SR T cf X x p)(hb:SR T cf X y q)(hc:SR T cf X z r):ST T cf X (.chain o o' x y z) (.Compare p [o,o'] [q,r] pos):=λH_h O_h=>by
 refine PT.imp (λσ H Q hq=>?_) (H0 (nF o hR) (nF o' hR) (ha H_h O_h) (hb H_h O_h) (hc H_h O_h) (sJ hm))
 obtain⟨O,own,e,d,k,F,ev,et,qk⟩:=hq
 have bl:∃b,d=.bl b:=by
  rw[vT]at ev
  obtain⟨d1,e1,ev⟩:=Res.bind_ok ev
  obtain⟨d2,e2,ev⟩:=Res.bind_ok ev
  obtain⟨d3,e3,ev⟩:=Res.bind_ok ev
  split at ev
  ·obtain⟨d4,e4,ev⟩:=Res.bind_ok ev
   exact wD ev
  ·cases ev;exact⟨_,rfl⟩
  ·cases ev
 obtain⟨b,rfl⟩:=bl
 cases et
 exact C4 ⟨O,own,e,_,F,ev,λv H' s' r' _=>⟨k,r',qk H' s'⟩⟩
end
end Tr
namespace Tr
open PySem PySem.Spec PyProof.Rows L2
variable{O O_h:Addr->Prop}{b:Bt}{d:D}{e:Expr}{H H_h:Hp}{σ:L2.St}{f:Nat}{apos cpos pn:Pos}{K:PySem.W.Frag}{n:Str}{Q:VK}
section
variable{T:Tab}{cf:Nat->List D->Res D}{X:Cx}{x y z:E}{p q r:Expr}{pos pos':Pos}{es:List Expr}
noncomputable def wF(d:D)(od:Option Addr)(H:Hp):Prop:=match d with
 |.int v=>∃dx,od=some dx/\H dx=some (.xd [("at", .int v)])
 |_=>od=none
noncomputable def spD(K:PySem.W.Frag)(F:List D->Res D)(fr:Bool):Sp:=λvs H Q E=>∃O ds,Trk K H O/\RDs K H O ds vs /\
 ((∃d,F ds=.ok d/\∀v H',Same H H'->RD K H' O d v->(fr=true->NewR K H H' O d v)->Q v H')\/∃c d,F ds=.err c d/\∀od H',Same H H'->wF d od H'->E (cvK K c) od H')
noncomputable def pF(T:Tab)(cf:Nat->List D->Res D)(X:Cx)(f:Nat)(n:Str):Prop:=
 ∃k a fd ps,FnOk X.prog X.w X.K X.mg X.base (CXE X.prog X.w) k a fd ps (spD X.K (cf f) (T.fresh f))/\Room k X.A/\X.mg n=some (.ref a)/\PySem.W.keepIn X.K (.ref a)=true/\Binds X.K fd ps []
theorem J1(h:tE T cf X.K H_h O_h (.call f x) σ H Q):vF (spD X.K (cf f) (T.fresh f)) [] E0 (tAv T cf X.K H_h O_h x) σ H Q:=by
 obtain⟨O,own,e,d,F,ev,k⟩:=h
 rw[B0]at ev
 obtain⟨ds,e1,ev⟩:=Res.bind_ok ev
 refine⟨O,own,e,ds,F,e1,λvs H1 s1 r1 _=>?_⟩
 dsimp only
 rw[fF]
 refine⟨O,ds,⟨(F.grow s1).trk,(F.grow s1).tab⟩,r1,.inl ⟨d,ev,λv H' s2 r2 n2=>k v H' (s1.trans s2) r2 λfr=>(n2 fr).1.back s1⟩⟩
theorem J2 (hd:pF T cf X f n) (hg:Gl X n) (hdb:(n==("__debug__" : Str))=false) (hp:(p::es).all bM=true) (ha:SAv T cf X x (p::es)):SE T cf X (.call f x) (.Call (.Name n pn) (p::es) [] pos):=λH_h O_h=>by
 obtain⟨k,a,fd,ps,Fk,hr,hm,hk,hb⟩:=hd
 rw[lC,aM]at hp
 exact PE.imp (λσ H Q h=>J1 h) (Ax Fk hr hg hm hk hb .nil sC (ha H_h O_h) hdb (bD hp.1) (iE hp.2))
theorem J3 (hd:pF T cf X f n) (hg:Gl X n) (hdb:(n==("__debug__" : Str))=false):SE T cf X (.call f .anil) (.Call (.Name n pn) [] [] pos):=λH_h O_h=>by
 obtain⟨k,a,fd,ps,Fk,hr,hm,hk,hb⟩:=hd
 refine PE.imp (λσ H Q h=>?_) (He Fk hr hg hm hk hb .nil sC hdb)
 obtain⟨O,own,e,d,F,ev,k⟩:=h
 rw[B0]at ev
 obtain⟨ds,e1,ev⟩:=Res.bind_ok ev
 rw[rV]at e1;cases e1
 exact⟨O,[],⟨F.trk,F.tab⟩,rfl,.inl ⟨d,ev,λv H' s2 r2 n2=>k v H' s2 r2 λfr=>(n2 fr).1⟩⟩
theorem J4{o:Expr}{pos':Pos}{t1:TE}{t:TA}(hf:PE X (.Subscript o q pos') t1)(ha:PA X (e::es) t)(he:starEach (e::es) X.env=(false,eval e X.env)::starEach es X.env)(hpl:(backTo pos (starEach es X.env)).any (·.1)=false) :
 PE X (.Call (.Subscript o q pos') (e::es) [] pos) (λσ H Q=>t1 σ H λv H1=>∃f,v=.ref f/\PySem.W.keepIn X.K (.ref f)=true/\t σ H1 λvs H2=>∃k fd ps sp,FnOk X.prog X.w X.K X.mg X.base (CXE X.prog X.w) k f fd ps sp/\Room k X.A/\Binds X.K fd ps []/\sp vs H2 Q E0):=by
 intro pins s σ H Q I h
 have arm:eval (.Call (.Subscript o q pos') (e::es) [] pos) X.env=(do callWith pos (<-eval (.Subscript o q pos') X.env) [] (backTo pos (starEach (e::es) X.env)) (backToKw pos (keywordEach [] X.env))):=rfl
 rw[arm]
 refine wpAny_bind (thn (hf pins s σ H _ I h) λv s1 ⟨x,H1,I1,r1,f,ef,hk,q⟩=>?_)
 subst ef
 cases r1
 refine PySem.W.callWith_K (h₀:=X.base) I1.ok.mod.kin hk (thn (ha pos pins s1 σ H1 _ I1 q) λus s2 ⟨vs,H2,I2,r,k,fd,ps,sp,F,hr,hb,q2⟩=>⟨I2.kIn,?_⟩) he hpl
 exact vG (dvs:=[]) F hr hb .nil sC I2 r (by rw[fF];exact q2)
noncomputable def TabF(T:Tab)(cf:Nat->List D->Res D)(X:Cx)(n:Str)(fs:List Nat):Prop:=
 ∃(a:Addr)(xs:List V),X.mg n=some (.ref a)/\(∀H,SqT X.K H a xs)/\xs.length=fs.length/\∀(j f:Nat),fs[j]?=some f->∃(ad:Addr)(m:Str),xs[j]?=some (V.ref ad)/\X.mg m=some (.ref ad)/\pF T cf X f m
noncomputable def TabS(X:Cx)(n:Str)(ss:List Str):Prop:=∃a,X.mg n=some (.ref a)/\sA X.K a ss
theorem J5 {fs:List Nat} {pos':Pos} (hR:bM q=true) (ht:TabF T cf X n fs) (hg:Gl X n) (hdb:(n==("__debug__" : Str))=false) (hp:(p::es).all bM=true) (hk:SE T cf X y q) (ha:SAv T cf X x (p::es)) :
 SE T cf X (.callT fs y x) (.Call (.Subscript (.Name n pn) q pos') (p::es) [] pos):=λH_h O_h=>by
 obtain⟨a,xs,hm,hS,hl,hF⟩:=ht
 rw[lC,aM]at hp
 refine PE.imp (λσ H Q h=>?_) (J4 (BH BI (vB (v:=.ref a) hg hm rfl hdb) (hk H_h O_h) (CO hR)) (ha H_h O_h) (bD hp.1) (iE hp.2))
 obtain⟨O,own,e,d,F,ev,k⟩:=h
 rw[IK]at ev
 obtain⟨d1,e1,ev1⟩:=Res.bind_ok ev
 obtain⟨f,e2,ev2⟩:=Res.bind_ok ev1
 obtain⟨ds,e3,ev3⟩:=Res.bind_ok ev2
 clear ev ev1 ev2
 cases d1 with
 |int i=>
  have e2:Tr.atI fs i=some f:=CK e2
  unfold Tr.atI at e2
  cases hj:Tr.ixN fs.length i with
  |none=>rw[hj]at e2;cases e2
  |some j=>
   rw[hj]at e2
   obtain⟨ad,m,x1,x2,k0,a0,fd,ps,Fk,hr,hm0,hk0,hb0⟩:=hF j f e2
   rw[x2]at hm0
   cases hm0
   refine⟨O,own,e,.int i,F,e1,λv1 H1 s1 r1 _=>?_⟩
   cases (show v1=_ from r1)
   refine⟨a,xs,i,.ref ad,rfl,rfl,hS H1,?_,?_⟩
   ·show(L2.ixN xs.length i).bind _=_
    rw[hl,show L2.ixN fs.length i=Tr.ixN fs.length i from rfl,hj]
    exact x1
   ·refine⟨ad,rfl,hk0,O,own,e,ds,F.grow s1,e3,λvs H2 s2 r2 _=>⟨k0,fd,ps,_,Fk,hr,hb0,O,ds,⟨(F.grow (s1.trans s2)).trk,(F.grow (s1.trans s2)).tab⟩,r2,.inl ⟨d,ev3,λv H' s3 r3 n3=>?_⟩⟩⟩
    exact k v H' ((s1.trans s2).trans s3) r3 (λz=>by cases z)
 |_=>cases e2
theorem J6 {ss:List Str} {nm:Str} {px:Pos} (ht:TabS X n ss) (hg:Gl X n) (hdb:(n==("__debug__" : Str))=false) (hnm:nm = "index") (hline:(apos.endLine==cpos.line)=true) (hp:bM q=true) (hb:SR T cf X y q) :
 SE T cf X (.gidx ss y) (.Call (.Attribute (.Name n px) nm apos) [q] [] cpos):=λH_h O_h=>by
 subst hnm
 obtain⟨a,hm,hM⟩:=ht
 refine PE.imp (λσ H Q hq=>?_) (lJ PySem.F.plainAttrs_tuple PySem.F.slot_tuple_index PySem.F.type_tuple_index Iu (vB (v:=.ref a) hg hm rfl hdb) (dC (hb H_h O_h) eG (bD hp)) rfl (by rw[bD hp];rfl) hline (bD hp) rfl)
 obtain⟨O,own,e,d,F,ev,k⟩:=hq
 (first|rw[oY]at ev|rw[IL]at ev)
 obtain⟨d1,e1,ev⟩:=Res.bind_ok ev
 cases d1 with
 |str z=>
  obtain⟨c,ev⟩:=bO ev
  cases ev
  refine⟨?_,O,own,e,.str z,F,e1,λv1 H1 s1 r1=>?_⟩
  ·obtain⟨o,its,n',hk,hc,hd,_⟩:=id hM
   exact .inr (.inl ⟨rfl,o,hk,hc,hd⟩)
  ·cases (show v1=.str z from r1.rd rfl)
   exact⟨a,ss,z,rfl,rfl,hM,uX.mp c,k _ H1 s1 rfl (λz=>by cases z)⟩
 |_=>cases ev
theorem wG:∀{ds:List D} {ks:List Key} {xs:List V},gQ ds=.ok ks->RDs K H O ds xs->xs=ks.map kV
 |[],ks,xs,h,w=>by
  rw[gQ]at h;cases h
  rw[RDs]at w;subst w;rfl
 |d::r,ks,xs,h,w=>by
  rw[gQ]at h
  obtain⟨k,h1,h⟩:=Res.bind_ok h
  obtain⟨q,h2,h⟩:=Res.bind_ok h
  cases h
  obtain⟨v,vs,rfl,w1,w2⟩:=w
  rw[wG h2 w2]
  have h1:=CK h1
  cases d with
  |int i=>cases h1;cases (show v=_ from w1);rfl
  |str z=>cases h1;cases (show v=_ from w1);rfl
  |_=>cases h1
theorem J7 {pm pos2:Pos} (hh:X.calm=true) (hR:gW X) (hm1:X.mg "len" = none) (hm2:X.mg "set" = none) (hg1:Gl X "len") (hg2:Gl X "set") (hp:bM p=true) (ha:SR T cf X x p) :
 SE T cf X (.lset x) (.Call (.Name "len" pn) [.Call (.Name "set" pm) [p] [] pos2] [] pos):=λH_h O_h=>by
 refine PE.imp (λσ H Q hq=>?_) (mX JD hg1 hm1 PySem.boot_len (dC (rR (JC hh hR) hg2 hm2 (by decide +kernel) (dC (ha H_h O_h) eG (bD hp)) (by decide) (by decide) (bD hp) rfl) eG rfl) (by decide) (by decide) rfl rfl)
 obtain⟨O,own,e,d,F,ev,k⟩:=hq
 (first|rw[oY]at ev|rw[BZ]at ev|rw[lN]at ev|rw[IM]at ev)
 obtain⟨d1,e1,ev1⟩:=Res.bind_ok ev
 refine⟨O,own,e,d1,F,e1,λv1 H1 s1 r1=>?_⟩
 have key:∃n:Nat,d=.int n/\CA X.K H1 v1 n:=by
  unfold D.setN at ev1
  cases hk:d1.keys with
  |ok ks=>
   rw[hk]at ev1
   obtain⟨c,ev3⟩:=bO ev1
   rw[decide_eq_true_eq]at c
   cases ev3
   cases d1 with
   |lst ds=>
    refine⟨_,rfl,.inl ⟨ks,?_,c,rfl⟩⟩
    obtain⟨a,xs,rfl,q1,w1⟩:=r1.lst
    have e2:gQ ds=.ok ks:=hk
    rw[wG e2 w1]at q1
    exact .inl ⟨a,rfl,q1⟩
   |tup ds=>
    obtain⟨a,xs,rfl,q1,w1⟩:=r1.rd rfl
    have e2:gQ ds=.ok ks:=hk
    rw[wG e2 w1]at q1
    exact⟨_,rfl,.inr ⟨a,ks,rfl,q1.sq,c,rfl⟩⟩
   |str z=>
    refine⟨_,rfl,.inl ⟨ks,?_,c,rfl⟩⟩
    cases (show v1=.str z from r1.rd rfl)
    cases hk
    exact .inr ⟨z,rfl,rfl⟩
   |_=>cases hk
  |err c z=>
   rw[hk]at ev1
   cases ev1
  |no=>
   rw[hk]at ev1
   cases ev1
 obtain⟨n,rfl,hs⟩:=key
 refine⟨v1,n,rfl,hs,λp hpn=>?_⟩
 exact⟨p,n,rfl,cW,k _ _ (s1.trans (dD hpn _)) rfl λz=>by cases z⟩
theorem wH:∀{ds:List D} {ns:List Int} {xs:List V},gP ds=.ok ns->RDs K H O ds xs->xs=ns.map V.int
 |[],ns,xs,h,w=>by
  rw[gP]at h;cases h
  rw[RDs]at w;subst w;rfl
 |.int i::r,ns,xs,h,w=>by
  rw[gP]at h
  obtain⟨q,h1,h⟩:=Res.bind_ok h
  cases h
  obtain⟨v,ys,rfl,e1,e2⟩:=w
  cases (show v=_ from e1)
  rw[wH h1 e2];rfl
 |.non::_,_,_,h,_ | .bl _::_,_,_,h,_ | .str _::_,_,_,h,_ | .tup _::_,_,_,h,_ | .lst _::_,_,_,h,_=>by
  rw[gP]at h<;>first|cases h|(intros;rename_i z;cases z)
noncomputable def rB(K:PySem.W.Frag)(f:List D->Res D)(fr:Bool):List V->Hp->VK->Prop:=λvs H Q=>∃O ds d,RRs K H O ds vs/\f ds=.ok d/\(∀a,O a->∃o,H a=some o)/\∀v H',Same H H'->RD K H' O d v->(fr=true->NewL K H H' O d v)->Q v H'
theorem rr1{vs:List V}(h:RRs K H O [d] vs):∃v,vs=[v]/\RR K H O d v:=by
 obtain⟨v,r,rfl,h1,h2⟩:=h
 rw[RRs]at h2;subst h2
 exact⟨v,rfl,h1⟩
theorem J8 (hh:X.calm=true):dB X (.builtin "sum") (λxs H Q=>∃(a:Addr) (ns:List Int),xs=[.ref a]/\SqL X.K H a (ns.map V.int)/\Q (.int ns.sum) H):=by
 intro pins s σ H xs us Q I r h
 obtain⟨a,ns,rfl,hq,q⟩:=h
 obtain⟨u,rfl,rx⟩:=fY r
 cases rx
 obtain⟨its,r',pl,hz⟩:=I.list hq
 have hi:IntsAre its ns:=Hl r'
 have hall:=hi.allInts
 obtain⟨ys,hys⟩:=hall.items
 have hn:(numsOf its.toArray.toList)=ns:=by rw[show its.toArray.toList=its by simp];exact hi.numsOf
 refine sum_intListG (xs:=ys) (I.ok.hd hh) (by rw[<-hys];exact pl.isList) λh' tk t' hk=>?_
 refine⟨.int ns.sum,H,I.kept (t':=tk) hk,⟨t',?_⟩,q⟩
 rw[hys,nums_intItems]at hn
 rw[preSum_eq,kD (by simp),<-hn]
noncomputable def Bt.val:Bt->Value
 |.len=>.builtin "len"
 |.sum=>.builtin "sum"
 |.tuple=>.type "tuple"
 |.int=>.type "int"
 |.str=>.type "str"
 |.all=>.builtin "all"
 |.any=>.builtin "any"
noncomputable def Bt.nm:Bt->Str
 |.len => "len"
 |.sum => "sum"
 |.tuple => "tuple"
 |.int => "int"
 |.str => "str"
 |.all => "all"
 |.any => "any"
theorem lP{ds:List D}(h:b.run ds=.ok d)(hb:∀d1 d2,b.two d1 d2=.no):∃d0,ds=[d0]/\b.one d0=.ok d:=by
 unfold Bt.run at h
 split at h
 ·exact⟨_,rfl,h⟩
 ·rw[hb]at h;cases h
 ·cases h
theorem bt_len:dB X (.builtin "len") (rB X.K (Bt.run .len) false):=by
 intro pins s σ H xs us Q I rv h
 obtain⟨O,ds,d,rr,ev,tr,k⟩:=h
 obtain⟨d0,rfl,ev⟩:=lP ev (λ_ _=>rfl)
 obtain⟨v,rfl,r1⟩:=rr1 rr
 have ev:D.len d0=.ok d:=ev
 unfold D.len at ev
 split at ev
 ·cases ev
  obtain⟨a,ys,rfl,q1,w1⟩:=r1.lst
  exact BJ pins s σ H _ us Q I rv ⟨a,ys,rfl,.inl q1,k _ H (Same.refl H) (by rw[w1.length];exact rfl) (λz=>by cases z)⟩
 ·cases ev
  obtain⟨a,ys,rfl,q1,w1⟩:=r1.tup
  exact BJ pins s σ H _ us Q I rv ⟨a,ys,rfl,.inr q1,k _ H (Same.refl H) (by rw[w1.length];exact rfl) (λz=>by cases z)⟩
 ·obtain⟨c,ev⟩:=bO ev
  cases ev
  cases (show v=_ from r1.rd rfl)
  exact Hv pins s σ H _ us Q I rv ⟨_,rfl,by rw[<-gU];exact of_decide_eq_true c,k _ H (Same.refl H) rfl (λz=>by cases z)⟩
 ·cases ev
theorem bt_sum (hh:X.calm=true):dB X (.builtin "sum") (rB X.K (Bt.run .sum) false):=by
 intro pins s σ H xs us Q I rv h
 obtain⟨O,ds,d,rr,ev,tr,k⟩:=h
 obtain⟨d0,rfl,ev⟩:=lP ev (λ_ _=>rfl)
 obtain⟨v,rfl,r1⟩:=rr1 rr
 have ev:D.sum d0=.ok d:=ev
 unfold D.sum at ev
 split at ev
 ·obtain⟨ns,e1,ev⟩:=Res.bind_ok ev
  cases ev
  obtain⟨a,ys,rfl,q1,w1⟩:=r1.lst
  have e:=wH e1 w1
  subst e
  exact J8 hh pins s σ H _ us Q I rv ⟨a,ns,rfl,q1,k _ H (Same.refl H) rfl (λz=>by cases z)⟩
 ·cases ev
theorem J9:dB X (.type "tuple") (rB X.K (Bt.run .tuple) false):=by
 intro pins s σ H xs us Q I rv h
 obtain⟨O,ds,d,rr,ev,tr,k⟩:=h
 obtain⟨d0,rfl,ev⟩:=lP ev (λ_ _=>rfl)
 obtain⟨v,rfl,r1⟩:=rr1 rr
 have ev:D.tuple d0=.ok d:=ev
 unfold D.tuple at ev
 split at ev
 ·cases ev
  obtain⟨a,ys,rfl,q1,w1⟩:=r1.lst
  exact BL pins s σ H _ us Q I rv ⟨a,ys,rfl,.inl ⟨q1,λl hl=>k _ _ (dD hl _) (nD w1 hl) (λz=>by cases z)⟩⟩
 ·cases ev
  obtain⟨a,ys,rfl,q1,w1⟩:=r1.tupV
  exact BL pins s σ H _ us Q I rv ⟨a,ys,rfl,.inr ⟨q1.sq,k _ H (Same.refl H) ⟨a,ys,rfl,q1,w1⟩ (λz=>by cases z)⟩⟩
 ·cases ev
theorem bt_int:dB X (.type "int") (rB X.K (Bt.run .int) false):=by
 intro pins s σ H xs us Q I rv h
 obtain⟨O,ds,d,rr,ev,tr,k⟩:=h
 obtain⟨d0,rfl,ev⟩:=lP ev (λ_ _=>rfl)
 obtain⟨v,rfl,r1⟩:=rr1 rr
 have ev:D.toInt d0=.ok d:=ev
 unfold D.toInt at ev
 split at ev
 ·cases ev
  cases (show v=_ from r1.rd rfl)
  exact Aw pins s σ H _ us Q I rv (.inl ⟨_,rfl,k _ H (Same.refl H) rfl (λz=>by cases z)⟩)
 ·cases ev
  cases (show v=_ from r1.rd rfl)
  exact Aw pins s σ H _ us Q I rv (.inr ⟨_,rfl,k _ H (Same.refl H) rfl (λz=>by cases z)⟩)
 ·obtain⟨c,ev⟩:=bO ev
  cases ev
  rw[aM,decide_eq_true_eq]at c
  cases (show v=_ from r1.rd rfl)
  exact Ie pins s σ H _ us Q I rv ⟨_,rfl,c.1,c.2,k _ H (Same.refl H) rfl (λz=>by cases z)⟩
 ·cases ev
theorem bt_str:dB X (.type "str") (rB X.K (Bt.run .str) false):=by
 intro pins s σ H xs us Q I rv h
 obtain⟨O,ds,d,rr,ev,tr,k⟩:=h
 obtain⟨d0,rfl,ev⟩:=lP ev (λ_ _=>rfl)
 obtain⟨v,rfl,r1⟩:=rr1 rr
 have ev:D.toStr d0=.ok d:=ev
 unfold D.toStr at ev
 split at ev
 ·obtain⟨c,ev⟩:=bO ev
  cases ev
  cases (show v=_ from r1.rd rfl)
  exact Hd pins s σ H _ us Q I rv ⟨_,rfl,of_decide_eq_true c,k _ H (Same.refl H) rfl (λz=>by cases z)⟩
 ·cases ev
theorem wI:∀{ds:List D} {ns:List Bool} {xs:List V},gK ds=.ok ns->RDs K H O ds xs->xs=ns.map V.bl
 |[],ns,xs,h,w=>by
  rw[gK]at h;cases h
  rw[RDs]at w;subst w;rfl
 |.bl i::r,ns,xs,h,w=>by
  rw[gK]at h
  obtain⟨q,h1,h⟩:=Res.bind_ok h
  cases h
  obtain⟨v,ys,rfl,e1,e2⟩:=w
  cases (show v=_ from e1)
  rw[wI h1 e2];rfl
 |.non::_,_,_,h,_ | .int _::_,_,_,h,_ | .str _::_,_,_,h,_ | .tup _::_,_,_,h,_ | .lst _::_,_,_,h,_=>by
  rw[gK]at h<;>first|cases h|(intros;rename_i z;cases z)
theorem C5:∀{ds:List D} {ns:List Str} {xs:List V},iV ds=.ok ns->RDs K H O ds xs->xs=ns.map V.str
 |[],ns,xs,h,w=>by
  rw[iV]at h;cases h
  rw[RDs]at w;subst w;rfl
 |.str i::r,ns,xs,h,w=>by
  rw[iV]at h
  obtain⟨q,h1,h⟩:=Res.bind_ok h
  cases h
  obtain⟨v,ys,rfl,e1,e2⟩:=w
  cases (show v=_ from e1)
  rw[C5 h1 e2];rfl
 |.non::_,_,_,h,_ | .int _::_,_,_,h,_ | .bl _::_,_,_,h,_ | .tup _::_,_,_,h,_ | .lst _::_,_,_,h,_=>by
  rw[iV]at h<;>first|cases h|(intros;rename_i z;cases z)
theorem bt_all (hc:X.calm=true):dB X (.builtin "all") (rB X.K (Bt.run .all) false):=by
 intro pins s σ H xs us Q I rv h
 obtain⟨O,ds,d,rr,ev,tr,k⟩:=h
 obtain⟨d0,rfl,ev⟩:=lP ev (λ_ _=>rfl)
 obtain⟨v,rfl,r1⟩:=rr1 rr
 have ev:D.all d0=.ok d:=ev
 unfold D.all at ev
 split at ev
 ·obtain⟨ns,e1,ev⟩:=Res.bind_ok ev
  cases ev
  obtain⟨a,ys,rfl,q1,w1⟩:=r1.lst
  have e:=wI e1 w1
  subst e
  exact Tr.Ij pins s σ H _ us Q I rv ⟨a,ns,rfl,q1,hc,k _ H (Same.refl H) rfl (λz=>by cases z)⟩
 ·cases ev
theorem bt_any (hc:X.calm=true):dB X (.builtin "any") (rB X.K (Bt.run .any) false):=by
 intro pins s σ H xs us Q I rv h
 obtain⟨O,ds,d,rr,ev,tr,k⟩:=h
 obtain⟨d0,rfl,ev⟩:=lP ev (λ_ _=>rfl)
 obtain⟨v,rfl,r1⟩:=rr1 rr
 have ev:D.any d0=.ok d:=ev
 unfold D.any at ev
 split at ev
 ·obtain⟨ns,e1,ev⟩:=Res.bind_ok ev
  cases ev
  obtain⟨a,ys,rfl,q1,w1⟩:=r1.lst
  have e:=wI e1 w1
  subst e
  exact Tr.Ik pins s σ H _ us Q I rv ⟨a,ns,rfl,q1,hc,k _ H (Same.refl H) rfl (λz=>by cases z)⟩
 ·cases ev
theorem tcb_of(h:tE T cf X.K H_h O_h (.bt b x) σ H Q):tCB (rB X.K (Bt.run b) (cI T (.bt b x))) (tAr T cf X.K H_h O_h x) σ H Q:=by
 obtain⟨O,own,e,d,F,ev,k⟩:=h
 rw[xE_bt]at ev
 obtain⟨ds,e1,ev⟩:=Res.bind_ok ev
 refine⟨O,own,e,ds,F,e1,λvs H1 s1 r1=>?_⟩
 refine⟨O,ds,d,r1,ev,(F.grow s1).trk,λv H' s2 r2 n2=>k v H' (s1.trans s2) r2 λfr=>(n2 fr).back s1⟩
noncomputable def Bt.use:Bt->Bool
 |_=>true
theorem se_bt(hu:b.use=true)(hh:X.calm=true)(hn:n=b.nm)(hm:X.mg b.nm=none)(hg:Gl X n)(hp:(p::es).all bM=true)(ha:SAr T cf X x (p::es)):SE T cf X (.bt b x) (.Call (.Name n pn) (p::es) [] pos):=λH_h O_h=>by
 subst hn
 rw[lC,aM]at hp
 refine PE.imp (λσ H Q h=>tcb_of h) ?_
 cases b with
 |len=>exact mX bt_len hg hm PySem.boot_len (ha H_h O_h) (by decide) (by decide) (bD hp.1) (iE hp.2)
 |sum=>exact mX (bt_sum hh) hg hm PyProof.Rows.boot_sum (ha H_h O_h) (by decide) (by decide) (bD hp.1) (iE hp.2)
 |tuple=>exact rR J9 hg hm PyProof.Rows.boot_tuple (ha H_h O_h) (by decide) (by decide) (bD hp.1) (iE hp.2)
 |int=>exact rR bt_int hg hm PyProof.Rows.boot_int (ha H_h O_h) (by decide) (by decide) (bD hp.1) (iE hp.2)
 |str=>exact rR bt_str hg hm PyProof.Rows.boot_str (ha H_h O_h) (by decide) (by decide) (bD hp.1) (iE hp.2)
 |all=>exact mX (bt_all hh) hg hm (by decide +kernel) (ha H_h O_h) (by decide) (by decide) (bD hp.1) (iE hp.2)
 |any=>exact mX (bt_any hh) hg hm (by decide +kernel) (ha H_h O_h) (by decide) (by decide) (bD hp.1) (iE hp.2)
noncomputable def Ty.nm:Ty->String
 |.int => "int"
 |.bool => "bool"
 |.str => "str"
 |.tuple => "tuple"
 |.list => "list"
noncomputable def Mt.nm:Mt->Str
 |.split => "split"
 |.join => "join"
noncomputable def wJ:Expr->Bool
 |.Name _ _=>true
 |.Constant _ _ _=>true
 |.Subscript _ _ _=>true
 |.BinOp _ _ _ _=>true
 |_=>false
theorem base_of {nm:Str} {env:Env} (h:wJ e=true) (hn:(nm==("__class__" : Str))=false):attributeBase e nm env (eval e env)=eval e env:=by
 cases e<;>first|(cases h;done)|rfl
theorem se_mth{m:Mt}{nm:Str}(hnm:nm=m.nm)(hbase:attributeBase p nm X.env (eval p X.env)=eval p X.env)(hline:(apos.endLine==cpos.line)=true)(hp:bM q=true)(ha:SE T cf X x p)(hb:SR T cf X y q) :
 SE T cf X (.mth m x y) (.Call (.Attribute p nm apos) [q] [] cpos):=λH_h O_h=>by
 subst hnm
 cases m with
 |split=>
  refine PE.imp (λσ H Q hq=>?_) (lJ PySem.F.plainAttrs_str PySem.F.slot_str_split PySem.F.type_str_split I_ (ha H_h O_h) (dC (hb H_h O_h) eG (bD hp)) hbase (by rw[bD hp];rfl) hline (bD hp) rfl)
  obtain⟨O,own,e,d,F,ev,k⟩:=hq
  (first|rw[oY]at ev|rw[lN]at ev|rw[B5]at ev)
  obtain⟨d1,e1,ev⟩:=Res.bind_ok ev
  obtain⟨d2,e2,ev⟩:=Res.bind_ok ev
  cases d1 with
  |str z=>
   cases d2 with
   |str w=>
    have ev:(match w.cps.toList with|[c]=>aC (decide (z.length<big)&&decide (c<256)) (.ok (D.lst ((cT z c).map D.str)))|_=>.no)=Res.ok d:=ev
    split at ev
    ·rename_i c hc
     obtain⟨cc,ev⟩:=bO ev
     rw[aM,decide_eq_true_eq,decide_eq_true_eq]at cc
     cases ev
     refine⟨O,own,e,_,F,e1,λv1 H1 s1 r1 _=>?_⟩
     cases (show v1=_ from r1)
     refine⟨rfl,O,own,e,_,F.grow s1,e2,λv2 H2 s2 r2=>?_⟩
     cases (show v2=.str w from r2.rd rfl)
     have ew:w=⟨#[c]⟩:=nA (by rw[hc])
     refine⟨z,c,rfl,by rw[ew],by rw[<-gU];exact cc.1,cc.2,λp hp=>?_⟩
     have wd:∀(l:List Str),RDs X.K H2 O (l.map D.str) (l.map V.str):=by
      intro l
      induction l with
      |nil=>exact rfl
      |cons a r ih=>exact⟨_,_,rfl,rfl,ih⟩
     have zz:=nC (wd (cT z c)) hp (F.grow (s1.trans s2)).trk
     exact k _ _ ((s1.trans s2).trans (dD hp _)) zz.1 λ_=>zz.2.back (s1.trans s2)
    ·cases ev
   |_=>cases ev
  |_=>cases ev
 |join=>
  refine PE.imp (λσ H Q hq=>?_) (lJ PySem.F.plainAttrs_str PySem.F.slot_str_join PySem.F.type_str_join Ib (ha H_h O_h) (dC (hb H_h O_h) eG (bD hp)) hbase (by rw[bD hp];rfl) hline (bD hp) rfl)
  obtain⟨O,own,e,d,F,ev,k⟩:=hq
  (first|rw[oY]at ev|rw[lN]at ev|rw[B5]at ev)
  obtain⟨d1,e1,ev⟩:=Res.bind_ok ev
  obtain⟨d2,e2,ev⟩:=Res.bind_ok ev
  cases d1 with
  |str z=>
   cases d2 with
   |lst ds=>
    have ev:(do let xs<-iV ds;aC (decide (z.length<=64)&&decide ((xs.map (·.length)).sum+xs.length*64<=big)) (.ok (D.str (iU z xs))))=Res.ok d:=ev
    obtain⟨xs,e3,ev⟩:=Res.bind_ok ev
    obtain⟨cc,ev⟩:=bO ev
    rw[aM,decide_eq_true_eq,decide_eq_true_eq]at cc
    cases ev
    refine⟨O,own,e,_,F,e1,λv1 H1 s1 r1 _=>?_⟩
    cases (show v1=_ from r1)
    refine⟨rfl,O,own,e,_,F.grow s1,e2,λv2 H2 s2 r2=>?_⟩
    obtain⟨a,ys,rfl,q1,w1⟩:=r2.lst
    have ey:=C5 e3 w1
    subst ey
    exact⟨z,a,xs,rfl,rfl,q1,cc.1,cc.2,k _ H2 (s1.trans s2) rfl λz=>by cases z⟩
   |_=>cases ev
  |_=>cases ev
end
end Tr
namespace Tr
open PySem PySem.Spec PyProof.Rows L2
variable{a:Addr}{env:Env}{e:Expr}{g:G}{ds:List D}{is:List Nat}{ps:List Stmt}{i:Nat}{apos cpos pn px:Pos}{K:PySem.W.Frag}{n:Str}{t t':TS}
inductive Pin where
 |dv (d:D) (v:V)|fr (a:Addr) (o:Obj) (u:HO)
noncomputable def PinOk(K:PySem.W.Frag)(H:Hp)(O:Addr->Prop):Pin->Prop
 |.dv d v=>RD K H O d v
 |.fr a o u=>H a=some (.frz o u)
noncomputable def nG(K:PySem.W.Frag)(H:Hp)(O:Addr->Prop):Pin->Prop
 |.dv d v=>RR K H O d v
 |.fr a o u=>H a=some (.frz o u)
section
variable{K:PySem.W.Frag}{H H':Hp}{O O':Addr->Prop}{p:Addr}{t:Pin}
theorem PinOk.rr(h:PinOk K H O t):nG K H O t:=by
 cases t with
 |dv d v=>exact RD.rr h
 |fr a o u=>exact h
theorem PinOk.same(h:PinOk K H O t)(s:Same H H'):PinOk K H' O t:=by
 cases t with
 |dv d v=>exact RD.same s h
 |fr a o u=>exact s _ _ h
theorem PinOk.new(h:PinOk K H O t)(hp:H p=none):PinOk K H (eK O p) t:=by
 cases t with
 |dv d v=>exact RD.new hp h
 |fr a o u=>exact h
theorem PinOk.weak(h:PinOk K H O t)(s:∀a,O' a->O a):PinOk K H O' t:=by
 cases t with
 |dv d v=>exact RD.weak s h
 |fr a o u=>exact h
theorem PinOk.updM{o o':HO}(h:PinOk K H O t)(hO:O p)(hp:H p=some o)(hm:kN o):PinOk K (L2.upd H p o') O t:=by
 cases t with
 |dv d v=>exact RD.updM hO hp hm h
 |fr a o1 u=>exact(iW (K:=K) hO hp hm).2.2 a o1 u h
theorem PinOk.upd{ys zs:List V}(h:PinOk K H O t)(hO:O p)(hp:H p=some (.lst ys)):PinOk K (L2.upd H p (.lst zs)) O t:=h.updM hO hp trivial
end
noncomputable def Wk1(K:PySem.W.Frag)(J:It)(d0:D)(v0:V)(ds:List D):Prop:=∀i H O,RR K H O d0 v0 ->
 (i<ds.length->J.go i H)/\(ds.length<=i->J.stop i H)/\∀x H' d,ds[i]?=some d->J.yld i H x H'->Same H H'/\RD K H' O d x
noncomputable def Wk(K:PySem.W.Frag)(J:It)(srs:List Pin)(ds:List D):Prop:=∀i H O,(∀t∈srs,nG K H O t) ->
 (i<ds.length->J.go i H)/\(ds.length<=i->J.stop i H)/\∀x H' d,ds[i]?=some d->J.yld i H x H'->Same H H'/\RD K H' O d x
theorem Wk1.wk{J:It}{d0:D}{v0:V}(h:Wk1 K J d0 v0 ds):Wk K J [.dv d0 v0] ds:=λi H O r=>h i H O (r (.dv d0 v0) (fX.mpr rfl))
theorem pG{H:Hp}{O:Addr->Prop}{rd:Bool}{R:It->Hp->Prop}(k:∀J H' srs,Same H H'->(∀t∈srs,nG K H' O t)->(rd=false->∀t∈srs,PinOk K H' O t)->Wk K J srs ds->R J H') :
 ∀J H' d0 v0,Same H H'->RR K H' O d0 v0->(rd=false->RD K H' O d0 v0)->Wk1 K J d0 v0 ds->R J H':=λJ H' d0 v0 s r rv w=>
 k J H' [.dv d0 v0] s (λt ht=>by rw[fX.mp ht];exact r) (λz t ht=>by rw[fX.mp ht];exact rv z) w.wk
noncomputable def tI(T:Tab)(cf:Nat->List D->Res D)(K:PySem.W.Frag)(H_h:Hp)(O_h:Addr->Prop)(x:E)(rd:Bool):TI:=λσ H R=>∃O own e ds,Fm K H_h O_h H O own e σ/\evI T cf x e=.ok ds /\
 ∀J H' srs,Same H H'->(∀t∈srs,nG K H' O t)->(rd=false->∀t∈srs,PinOk K H' O t)->Wk K J srs ds->R J H'
noncomputable def SI(T:Tab)(cf:Nat->List D->Res D)(X:Cx)(tg:Expr)(x:E)(rd:Bool)(p:Expr):Prop:=∀H_h O_h,PI X tg p (tI T cf X.K H_h O_h x rd)
section
variable{T:Tab}{cf:Nat->List D->Res D}{X:Cx}{x y z:E}{p q r tg:Expr}{pos pos':Pos}{es:List Expr}
theorem J_:Wk1 K (Itl K a) (.lst ds) (.ref a) ds:=by
 intro i H O r
 obtain⟨a',xs,e,q,w⟩:=r.lst
 cases e
 have hl:=w.length
 refine⟨λh=>?_,λh=>⟨xs,q,by lia⟩,λx H' d hd y=>?_⟩
 ·obtain⟨v,h1,h2⟩:=w.get (aR h)
  exact⟨xs,v,q,h1⟩
 ·obtain⟨rfl,y⟩:=y
  refine⟨Same.refl _,?_⟩
  obtain⟨v,h1,h2⟩:=w.get hd
  have:=(y xs q).symm.trans h1
  cases this
  exact h2
theorem wk_tup:Wk1 K (Itt K a) (.tup ds) (.ref a) ds:=by
 intro i H O r
 obtain⟨a',xs,e,q,w⟩:=r.tup
 cases e
 have hl:=w.length
 refine⟨λh=>?_,λh=>⟨xs,q,by lia⟩,λx H' d hd y=>?_⟩
 ·obtain⟨v,h1,h2⟩:=w.get (aR h)
  exact⟨xs,v,q,h1⟩
 ·obtain⟨rfl,y⟩:=y
  refine⟨Same.refl _,?_⟩
  obtain⟨v,h1,h2⟩:=w.get hd
  have:=(y xs q).symm.trans h1
  cases this
  exact h2
theorem wK(lo:Int):∀n,(cU lo n).length=n
 |0=>rfl
 |n+1=>by rw[cU,aW,wK (lo+1) n]
theorem C6:∀(lo:Int)(n i:Nat),i<n->(cU lo n)[i]?=some (.int (lo+i))
 |lo,0,i,h=>absurd h (rH _)
 |lo,n+1,0,_=>by rw[cU];simp
 |lo,n+1,i+1,h=>by
  rw[cU,Of,C6 (lo+1) n i (by lia)]
  congr 2
  push_cast
  lia
theorem C7{lo:Int}{n:Nat}:Wk1 K (Itr lo n) .non .non (cU lo n):=by
 intro i H O r
 rw[wK]
 refine⟨λh=>h,λh=>h,λx H' d hd y=>?_⟩
 obtain⟨rfl,rfl⟩:=y
 refine⟨Same.refl _,?_⟩
 by_cases hi:i<n
 ·rw[C6 lo n i hi]at hd
  cases hd
  exact rfl
 ·rw[uW (by rw[wK];lia)]at hd
  cases hd
theorem wk_str{z:Str}:Wk1 K (Its z) (.str z) (.str z) (z.cps.toList.map λc=>D.str (cH c)):=by
 intro i H O r
 rw[aD]
 refine⟨λh=>by simpa[Its]using h,λh=>by simpa[Its]using h,λx H' d hd y=>?_⟩
 obtain⟨rfl,c,hc,rfl⟩:=y
 refine⟨Same.refl _,?_⟩
 rw[cE]at hd
 have hc':z.cps.toList[i]?=some c:=by simpa using hc
 rw[hc']at hd
 cases hd
 exact rfl
theorem si_seq{rd:Bool}(ha:SR T cf X x p)(hv:rd=false->SE T cf X x p):SI T cf X tg (.seq x) rd p:=by
 intro H_h O_h pins s σ H R I h
 obtain⟨O,own,e,ds,F,ev,k⟩:=h
 replace k:=pG k
 rw[xI_seq]at ev
 obtain⟨d1,e1,ev⟩:=Res.bind_ok ev
 have main:∀{u:Value} {s1:Shared} {v:V} {H1:Hp},Inv X pins σ H1 s1->RelV v u->Same H H1->RR X.K H1 O d1 v->(rd=false->RD X.K H1 O d1 v)->wpAny (model X.prog X.w) X.A (pyIter u) (PIE X pins σ tg R) X.xe s1:=by
  intro u s1 v H1 I1 r1 s1' rr rv
  unfold D.items at ev
  split at ev
  ·cases ev
   obtain⟨a,xs,e,q1,w1⟩:=rr.lst
   subst e
   cases r1
   obtain⟨its,r',pl,hz⟩:=I1.list q1
   refine wpAny_pyIter_list pl.isList ?_
   refine⟨s1.heap.objs.size,[s1.heap.objs.size],_,Itl X.K a,H1,rfl,I1.kept (t':=s1.toks) λb u e=>Heap.get?_push_of_some _ e,HK a _,⟨_,Heap.get?_push_size _ rfl,rfl,rfl⟩,λb hb=>?_,k _ H1 _ _ s1' rr rv J_⟩
   rcases bL.mp hb with rfl|hb
   ·exact I1.fpOk (aN _) (I1.hok.fresh (aN _))
   ·cases hb
  ·cases ev
   obtain⟨a,xs,e,q1,w1⟩:=rr.tup
   subst e
   cases r1
   obtain⟨its,r',pl,hz⟩:=I1.tuple q1
   refine wpAny_pyIter_tuple pl ?_
   refine⟨s1.heap.objs.size,[s1.heap.objs.size],_,Itt X.K a,H1,rfl,I1.kept (t':=s1.toks) λb u e=>Heap.get?_push_of_some _ e,HL a _,⟨_,Heap.get?_push_size _ rfl,rfl,rfl⟩,λb hb=>?_,k _ H1 _ _ s1' rr rv wk_tup⟩
   rcases bL.mp hb with rfl|hb
   ·exact I1.fpOk (aN _) (I1.hok.fresh (aN _))
   ·cases hb
  ·cases ev
   rename_i z
   cases (show v=.str z from rr.rd rfl)
   obtain⟨t,rfl⟩:=r1
   exact pi_str I1 (k _ H1 (.str z) (.str z) s1' rr rv wk_str)
  ·cases ev
 cases rd with
 |true=>exact thn (ha H_h O_h pins s σ H (λv H1=>Same H H1/\RR X.K H1 O d1 v) I ⟨O,own,e,d1,F,e1,λv H' s' r=>⟨s',r⟩⟩) λu s1 ⟨v,H1,I1,r1,s1',rr⟩=>main I1 r1 s1' rr (λz=>by cases z)
 |false=>exact thn (hv rfl H_h O_h pins s σ H (λv H1=>Same H H1/\RD X.K H1 O d1 v) I ⟨O,own,e,d1,F,e1,λv H' s' r _=>⟨s',r⟩⟩) λu s1 ⟨v,H1,I1,r1,s1',rr⟩=>main I1 r1 s1' rr.rr (λ_=>rr)
theorem si_rng {rd:Bool} (hn:n = "range") (hg:Gl X n) (hm:X.mg "range" = none) (hp:bM p=true) (ha:SE T cf X x p):SI T cf X tg (.rng x) rd (.Call (.Name n pn) [p] [] pos):=by
 intro H_h O_h pins s σ H R I h
 subst hn
 obtain⟨O,own,e,ds,F,ev,k⟩:=h
 replace k:=pG k
 rw[B7]at ev
 obtain⟨d1,e1,ev⟩:=Res.bind_ok ev
 refine HN hg hm (dC (ha H_h O_h) eG (bD hp)) (bD hp) pins s σ H R I ⟨O,own,e,d1,F,e1,λv H' s' r _=>?_⟩
 split at ev
 ·obtain⟨c,ev⟩:=bO ev
  cases ev
  cases (show v=_ from r)
  simp only[eU,aM,decide_eq_true_eq]at c
  exact⟨_,rfl,c.1,c.2,k _ H' .non .non s' (.inl rfl) (λ_=>rfl) C7⟩
 ·cases ev
theorem Ja {rd:Bool} (hn:n = "range") (hg:Gl X n) (hm:X.mg "range" = none) (hp:bM p=true) (hq:bM q=true) (ha:SE T cf X x p) (hb:SE T cf X y q):SI T cf X tg (.rng2 x y) rd (.Call (.Name n pn) [p,q] [] pos):=by
 intro H_h O_h pins s σ H R I h
 subst hn
 obtain⟨O,own,e,ds,F,ev,k⟩:=h
 replace k:=pG k
 rw[B8]at ev
 obtain⟨d1,e1,ev⟩:=Res.bind_ok ev
 split at ev
 ·obtain⟨d2,e2,ev⟩:=Res.bind_ok ev
  split at ev
  ·obtain⟨c,ev⟩:=bO ev
   cases ev
   simp only[eU,aM,decide_eq_true_eq]at c
   refine HQ hg hm (dC (ha H_h O_h) (dC (hb H_h O_h) eG (bD hq)) (bD hp)) (by rw[bD hp,bD hq];rfl) (bD hq) pins s σ H R I ⟨O,own,e,_,F,e1,λv H1 s1 r1 _=>⟨O,own,e,_,F.grow s1,e2,λv2 H2 s2 r2 _=>?_⟩⟩
   cases (show v=_ from r1)
   cases (show v2=_ from r2)
   exact⟨_,_,rfl,⟨c.1.1,c.1.2,c.2.1,c.2.2⟩,k _ H2 .non .non (s1.trans s2) (.inl rfl) (λ_=>rfl) C7⟩
  ·cases ev
 ·cases ev
noncomputable def Ft(K:PySem.W.Frag)(H_h:Hp)(O_h:Addr->Prop)(ts:List Pin)(e:Nv)(σ:L2.St)(H:Hp):Prop:=∃O own,Fm K H_h O_h H O own e σ/\∀t∈ts,PinOk K H O t
noncomputable def tG(K:PySem.W.Frag)(H_h:Hp)(O_h:Addr->Prop)(g:G):TG:=λv σ H Q=>∃O own e d e',Fm K H_h O_h H O own e σ/\RD K H O d v/\g.put d e=.ok e'/\∀σ' own',(∀j a,own' j=some a->own j=some a)->Fm K H_h O_h H O own' e' σ'->Q σ' H
noncomputable def SG(X:Cx)(g:G)(tg:Expr):Prop:=∀H_h O_h,PG X tg (tG X.K H_h O_h g)
theorem PG.imp{t t':TG}(h:∀v σ H Q,t' v σ H Q->t v σ H Q)(hp:PG X tg t):PG X tg t':=λpins s σ H v u Q I r q=>hp pins s σ H v u Q I r (h v σ H Q q)
theorem C8{own:Nat->Option Addr}:∀j a,(λj=>if j=i then none else own j) j=some a->own j=some a:=λj a h=>by
 dsimp only at h
 by_cases hj:j=i
 ·rw[if_pos hj]at h;cases h
 ·rw[if_neg hj]at h;exact h
theorem sg_one(hN:X.N.Nodup)(hi:X.N[i]?=some n)(hx:Loc X.env.scope n)(hf:X.fn n=true\/X.env.scope.names.lookup n=some .local):SG X (.one i) (.Name n pos):=λH_h O_h=>
 PG.imp (λv σ H Q ⟨O,own,e,d,e',F,r,ev,k⟩=>by
  cases ev
  exact k _ _ C8 (F.setV i r)) (Ar hN hi hx hf)
noncomputable def tGs(K:PySem.W.Frag)(H_h:Hp)(O_h:Addr->Prop)(is:List Nat):TGs:=λvs σ H Q=>∃O own e ds e',Fm K H_h O_h H O own e σ/\RDs K H O ds vs/\cR is ds e=.ok e'/\∀σ' own',(∀j a,own' j=some a->own j=some a)->Fm K H_h O_h H O own' e' σ'->Q σ' H
noncomputable def SGs(X:Cx)(is:List Nat)(tgs:List Expr):Prop:=∀H_h O_h,PGs X tgs (tGs X.K H_h O_h is)
theorem PGs.imp{tgs:List Expr}{t t':TGs}(h:∀v σ H Q,t' v σ H Q->t v σ H Q)(hp:PGs X tgs t):PGs X tgs t':=λpins s σ H v u Q I r q=>hp pins s σ H v u Q I r (h v σ H Q q)
theorem Jb:SGs X [] []:=λH_h O_h=>PGs.imp (λvs σ H Q ⟨O,own,e,ds,e',F,r,ev,k⟩=>by
 cases ds with
 |nil=>
  simp only[cR]at ev
  cases ev
  rw[RDs]at r
  exact⟨r,k _ _ (λ_ _ h=>h) F⟩
 |cons d ds=>simp only[cR]at ev;cases ev) HI
theorem Jc{pos:Pos}{es:List Expr}:(assignEach (.Name n pos::es) env).map (·.2)=assign (.Name n pos) env::(assignEach es env).map (·.2):=rfl
theorem Jd(hN:X.N.Nodup)(hi:X.N[i]?=some n)(hx:Loc X.env.scope n)(hf:X.fn n=true\/X.env.scope.names.lookup n=some .local)(h:SGs X is es):SGs X (i::is) (.Name n pos::es):=λH_h O_h=>
 PGs.imp (λvs σ H Q ⟨O,own,e,ds,e',F,r,ev,k⟩=>by
  cases ds with
  |nil=>simp only[cR]at ev;cases ev
  |cons d ds=>
   rw[cR]at ev
   obtain⟨v,vr,rfl,r1,r2⟩:=r
   exact⟨v,vr,rfl,O,_,_,ds,e',F.setV i r1,r2,ev,λσ' own' h=>k σ' own' λj a q=>C8 j a (h j a q)⟩) (HJ (Ar hN hi hx hf) (h H_h O_h) Jc)
noncomputable def pH:List Expr->Bool
 |[]=>true
 |.Name _ _::r=>pH r
 |_=>false
theorem Je:∀{es:List Expr},pH es=true->(assignEach es env).length=es.length:=by
 intro es
 induction es with
 |nil=>intro _;rfl
 |cons e es ih=>
  intro h
  cases e with
  |Name n pos=>
   show((false,assign (.Name n pos) env)::assignEach es env).length=_
   rw[aW,ih h,aW]
  |_=>exact absurd h bR
theorem Jf:∀{es:List Expr},pH es=true->(assignEach es env).findIdx? (·.1)=none:=by
 intro es
 induction es with
 |nil=>intro _;rfl
 |cons e es ih=>
  intro h
  cases e with
  |Name n pos=>
   show((false,assign (.Name n pos) env)::assignEach es env).findIdx? (·.1)=none
   rw[List.findIdx?_cons,ih h];rfl
  |_=>exact absurd h bR
theorem C9:∀{is:List Nat} {ds:List D} {e e':Nv},cR is ds e=.ok e'->ds.length=is.length
 |[],[],_,_,_=>rfl
 |[],_::_,_,_,h=>by simp only[cR]at h;cases h
 |_::_,[],_,_,h=>by simp only[cR]at h;cases h
 |i::is,d::ds,e,e',h=>by
  rw[cR]at h
  rw[aW,aW,C9 h]
theorem Jg{k:Nat}(hc:X.calm=true)(hn:pH es=true)(hl:es.length=is.length)(h:SGs X is es):SG X (.many is) (.Tuple es k pos):=λH_h O_h=>
 PG.imp (λv σ H Q ⟨O,own,e,d,e',F,r,ev,k⟩=>by
  cases d with
  |tup ds=>
   have ev:cR is ds e=.ok e':=ev
   obtain⟨a,xs,rfl,q,w⟩:=r
   exact⟨a,xs,rfl,q.sq,by rw[w.length,C9 ev,<-hl],O,own,e,ds,e',F,w,ev,k⟩
  |non=>cases ev
  |bl _=>cases ev
  |int _=>cases ev
  |str _=>cases ev
  |lst _=>cases ev) (pg_tup (n:=es.length) hc (h H_h O_h) (Je hn) (Jf hn))
noncomputable def Ends.to(K:PySem.W.Frag)(H_h:Hp)(O_h:Addr->Prop)(ts:List Pin)(D':Ends):Out->Prop
 |.nx e'=>∀σ' H',Ft K H_h O_h ts e' σ' H'->D'.nx σ' H'
 |.bk e'=>∀σ' H',Ft K H_h O_h ts e' σ' H'->D'.bk σ' H'
 |.ct e'=>∀σ' H',Ft K H_h O_h ts e' σ' H'->D'.ct σ' H'
 |.rt d fr=>∀v H',Same H_h H'->RD K H' O_h d v->(fr=true->NewR K H_h H' O_h d v)->D'.rt v H'
 |.rr _ _ _ _ _=>False
noncomputable def tS(T:Tab)(cf:Nat->List D->Res D)(K:PySem.W.Frag)(H_h:Hp)(O_h:Addr->Prop)(x:S):TS:=λD' σ H=>∃ts e out,Ft K H_h O_h ts e σ H/\exS T cf x e=.ok out/\Ends.to K H_h O_h ts D' out
noncomputable def SS(T:Tab)(cf:Nat->List D->Res D)(X:Cx)(x:S)(p:Stmt):Prop:=∀H_h O_h,PS X p (tS T cf X.K H_h O_h x)
noncomputable def SB(T:Tab)(cf:Nat->List D->Res D)(X:Cx)(x:S)(p:List Stmt):Prop:=∀H_h O_h,PSs X p (tS T cf X.K H_h O_h x)
theorem PS.imp{st:Stmt}(h:∀D' σ H,t' D' σ H->t D' σ H)(hp:PS X st t):PS X st t':=λpins s σ H D' I q=>hp pins s σ H D' I (h D' σ H q)
theorem PSs.imp{st:List Stmt}(h:∀D' σ H,t' D' σ H->t D' σ H)(hp:PSs X st t):PSs X st t':=λpins s σ H D' I q=>hp pins s σ H D' I (h D' σ H q)
variable{a b c:S}{st:Stmt}{sts:List Stmt}
theorem sb_nil:SB T cf X .nil []:=λH_h O_h=>PSs.imp (λD' σ H ⟨ts,e,out,F,ev,k⟩=>by
 rw[B_]at ev;cases ev
 exact k σ H F) HF
theorem Jh(h1:SS T cf X a st)(h2:SB T cf X b sts):SB T cf X (.cons a b) (st::sts):=λH_h O_h=>by
 refine PSs.imp (λD' σ H hq=>?_) (HG (h1 H_h O_h) (h2 H_h O_h))
 obtain⟨ts,e,out,F,ev,k⟩:=hq
 rw[rX]at ev
 obtain⟨o1,e1,ev⟩:=Res.bind_ok ev
 refine⟨ts,e,o1,F,e1,?_⟩
 cases o1 with
 |nx e'=>exact λσ' H' F'=>⟨ts,e',out,F',ev,k⟩
 |rt d fr=>cases ev;exact k
 |rr _ _ _ _ _=>cases ev;exact k
 |bk e'=>cases ev;exact k
 |ct e'=>cases ev;exact k
theorem Ji(h2:SB T cf X b sts):SB T cf X (.cons (.sealed i) b) sts:=λH_h O_h pins s σ H D' I hq=>by
 obtain⟨ts,e,out,⟨O,own,F,tt⟩,ev,k⟩:=hq
 (first|rw[rX]at ev|rw[Ba]at ev)
 obtain⟨o1,e1,ev⟩:=Res.bind_ok ev
 (first|rw[rX]at e1|rw[Ba]at e1)
 obtain⟨l,e2,e1⟩:=Res.bind_ok e1
 cases e1
 cases hd:l.isDct with
 |false=>
  obtain⟨O',own',F',sub⟩:=F.seal i (Sl.ownA_ok e2) hd
  exact h2 H_h O_h pins s σ H D' I ⟨ts,_,out,⟨O',own',F',λt ht=>(tt t ht).weak sub⟩,ev,k⟩
 |true=>exact Og (show false=true from hd)
theorem ss_ret(h:SE T cf X x p):SS T cf X (.ret x) (.Return (some p) pos):=λH_h O_h=>by
 refine PS.imp (λD' σ H hq=>?_) (Ap (h H_h O_h))
 obtain⟨ts,e,out,⟨O,own,F,tt⟩,ev,k⟩:=hq
 rw[xS_ret]at ev
 obtain⟨d,e1,ev⟩:=Res.bind_ok ev
 cases ev
 refine⟨O,own,e,d,F,e1,λv H' s' r n=>k v H' (F.same.trans s') (r.weak F.sub) λfr=>?_⟩
 rw[aM,cL]at fr
 exact NewR.of (((n fr.1).back F.same).weak F.sub) fr.2
theorem Jj (hN:X.N[i]?=some n) (hv:Vis X.env.scope n) (hd:(n==("__debug__" : Str))=false) (hc:(n==("__classdict__" : Str))=false):SS T cf X (.retO i) (.Return (some (.Name n pos')) pos):=λH_h O_h pins s σ H D' I hq=>by
 obtain⟨ts,e,out,⟨O,own,F,tt⟩,ev,k⟩:=hq
 rw[IP]at ev
 obtain⟨l,e1,ev⟩:=Res.bind_ok ev
 cases ev
 cases hz:l.isDct with
 |false=>
  rw[hz]at k
  have q:=F.sl i
  rw[Sl.ownA_ok e1]at q
  obtain⟨p,e2,e3,h1⟩:=q
  have hn:=F.new i p e2
  have nO:¬O_h p:=λz=>by
   obtain⟨o,w⟩:=F.trk0.1 p z
   rw[hn.2]at w;cases w
  exact Ap (jL hN hv hd hc) pins s σ H D' I ⟨.ref p,gA e3,k _ H F.same (OwnAt.rd nO hz (h1.weak F.sub)) λ_=>⟨λ_=>⟨p,rfl,hn.2,h1.weak λb hb=>hb.elim (F.sub b) λz=>z▸hn.1⟩,λ_ a r z=>by subst z;exact h1.elim⟩⟩
 |true=>exact Og (show false=true from hz)
noncomputable def iX:Expr->Bool
 |.ListComp _ _ _ _=>false
 |.SetComp _ _ _ _=>false
 |.DictComp _ _ _ _ _=>false
 |_=>true
noncomputable def sM:Expr->Bool
 |.Tuple _ _ _=>false
 |_=>true
theorem wL{t:Option Expr}{l:Nat}(h:iX e=true):swapsWith e t l env=pure false:=by
 cases e<;>first|rfl|(cases h)
theorem Jk{tg:Expr}(h:sM e=true):swappedStores [tg] e env=pure none:=by
 cases tg<;>first|rfl|(cases e<;>first|rfl|(cases h;done))
theorem Jl{tg:Expr}(h:bM tg=true):(assignEach [tg] env).map (·.2)=[assign tg env]:=by
 cases tg<;>first|rfl|(cases h)
theorem ss_asg(hx:iX p=true)(ht:sM p=true)(hq:bM tg=true)(h:SE T cf X x p)(hg:SG X g tg):SS T cf X (.asg g x) (.Assign [tg] p pos):=λH_h O_h=>by
 refine PS.imp (λD' σ H hq=>?_) (ps_asg (h H_h O_h) (hg H_h O_h) (wL hx) (Jk ht) (Jl hq))
 obtain⟨ts,e,out,⟨O,own,F,tt⟩,ev,k⟩:=hq
 rw[rY]at ev
 obtain⟨d,e1,ev⟩:=Res.bind_ok ev
 obtain⟨e2,e3,ev⟩:=Res.bind_ok ev
 cases ev
 refine⟨O,own,e,d,F,e1,λv H' s' r n=>⟨O,own,e,d,e2,F.grow s',r,e3,λσ' own' _ F'=>?_⟩⟩
 exact k σ' H' ⟨O,own',F',λt ht=>(tt t ht).same s'⟩
theorem Jm(hx:iX p=true)(hN:X.N.Nodup)(hi:X.N[i]?=some n)(hl:Loc X.env.scope n)(hf:X.fn n=true\/X.env.scope.names.lookup n=some .local)(h:SE T cf X x p):SS T cf X (.asgO i x) (.Assign [.Name n pos'] p pos):=λH_h O_h=>by
 refine PS.imp (λD' σ H hq=>?_) (vD hN hi hl (h H_h O_h) (wL hx) hf)
 obtain⟨ts,e,out,⟨O,own,F,tt⟩,ev,k⟩:=hq
 rw[rZ]at ev
 obtain⟨d,e1,ev⟩:=Res.bind_ok ev
 split at ev
 ·obtain⟨c,ev⟩:=bO ev
  cases ev
  refine⟨O,own,e,_,F,e1,λv H' s' r n=>?_⟩
  obtain⟨p,rfl,h2,h3⟩:=n c rfl
  exact k _ H' ⟨_,_,F.setO s' i h2 h3,λt ht=>((tt t ht).new h2).same s'⟩
 ·cases ev
theorem ss_ite{qs:List Stmt}(hc:ST T cf X x p)(ha:SB T cf X a ps)(hb:SB T cf X b qs):SS T cf X (.ite x a b) (.If p ps qs pos):=λH_h O_h=>by
 refine PS.imp (λD' σ H hq=>?_) (ps_if (hc H_h O_h) (ha H_h O_h) (hb H_h O_h))
 obtain⟨ts,e,out,⟨O,own,F,tt⟩,ev,k⟩:=hq
 rw[xS_ite]at ev
 obtain⟨d,e1,ev⟩:=Res.bind_ok ev
 obtain⟨c,e2,ev⟩:=Res.bind_ok ev
 refine⟨O,own,e,d,c,F,e1,e2,λH1 s1=>?_⟩
 cases c with
 |true=>rw[if_pos rfl]at ev⊢;exact⟨ts,e,out,⟨O,own,F.grow s1,λt ht=>(tt t ht).same s1⟩,ev,k⟩
 |false=>rw[if_neg bR]at ev⊢;exact⟨ts,e,out,⟨O,own,F.grow s1,λt ht=>(tt t ht).same s1⟩,ev,k⟩
theorem ss_for(hp:PassesOwn (model X.prog X.w) X.A X.env X.xe)(hc:X.calm=true)(hq:bM p=true)(hi:SI T cf X tg x false p)(hg:SG X g tg)(hb:SB T cf X b ps):SS T cf X (.forS g x b) (.For tg p ps [] pos):=λH_h O_h=>by
 refine PS.imp (λD' σ H hq=>?_) (ps_for hp hc (hi H_h O_h) (hg H_h O_h) (hb H_h O_h) (CP hq))
 obtain⟨ts,e,out,⟨O,own,F,tt⟩,ev,k⟩:=hq
 rw[IQ]at ev
 obtain⟨ds,e1,ev⟩:=Res.bind_ok ev
 refine⟨O,own,e,ds,F,e1,λJ H1 srs s1 rr rv wk=>?_⟩
 refine⟨λi m σ H=>m=ds.length-i/\i<=ds.length/\∃e',Ft X.K H_h O_h (srs++ts) e' σ H/\bH (λd e0=>do let e1<-g.put d e0;exS T cf b e1) (ds.drop i) e'=.ok out,⟨ds.length,by simp,eT _,e,⟨O,own,F.grow s1,λt ht=>?_⟩,by simpa using ev⟩,?_⟩
 ·rcases fD.mp ht with ht|ht
  ·exact rv rfl t ht
  ·exact(tt t ht).same s1
 rintro i m σ2 H2 ⟨rfl,hi',e',⟨O2,own2,F2,t2⟩,ev2⟩
 obtain⟨w1,w2,w3⟩:=wk i H2 O2 λt ht=>(t2 t (Ga _ ht)).rr
 by_cases hlt:i<ds.length
 ·refine .inr ⟨w1 hlt,λσ' H'=>∃e',Ft X.K H_h O_h (srs++ts) e' σ' H'/\bH (λd e0=>do let e1<-g.put d e0;exS T cf b e1) (ds.drop (i+1)) e'=.ok out,λσ' H' n=>⟨ds.length-(i+1),by lia,rfl,hlt,n⟩,λv H' y=>?_⟩
  obtain⟨s3,r3⟩:=w3 v H' _ (aR hlt) y
  rw[rF hlt,bH]at ev2
  obtain⟨o1,ev3,ev4⟩:=Res.bind_ok ev2
  obtain⟨e3,ev5,ev6⟩:=Res.bind_ok ev3
  refine⟨O2,own2,e',_,e3,F2.grow s3,r3,ev5,λσ' own' _ F'=>?_⟩
  refine⟨srs++ts,e3,o1,⟨O2,own',F',λt ht=>(t2 t ht).same s3⟩,ev6,?_⟩
  have down:∀{e'':Nv} {σ'':L2.St} {H'':Hp},Ft X.K H_h O_h (srs++ts) e'' σ'' H''->Ft X.K H_h O_h ts e'' σ'' H'':=λ⟨O',own',F',t'⟩=>⟨O',own',F',λt ht=>t' t (hV _ ht)⟩
  cases o1 with
  |nx e4=>exact λσ'' H'' F''=>⟨e4,F'',ev4⟩
  |ct e4=>exact λσ'' H'' F''=>⟨e4,F'',ev4⟩
  |bk e4=>cases ev4;exact λσ'' H'' F''=>k σ'' H'' (down F'')
  |rt d fr=>cases ev4;exact k
  |rr _ _ _ _ _=>cases ev4;exact k
 ·have e4:i=ds.length:=by lia
  subst e4
  refine .inl ⟨w2 (aN _),?_⟩
  rw[Oh,bH]at ev2
  cases ev2
  exact k σ2 H2 ⟨O2,own2,F2,λt ht=>t2 t (hV _ ht)⟩
theorem ss_app {nm:Str} (hN:X.N[i]?=some n) (hv:Vis X.env.scope n) (hd:(n==("__debug__" : Str))=false) (hc:(n==("__classdict__" : Str))=false) (hnm:nm = "append") (hline:(apos.endLine==cpos.line)=true) (hp:bM p=true) (h:SE T cf X x p) :
 SS T cf X (.app i x) (.Expr (.Call (.Attribute (.Name n px) nm apos) [p] [] cpos) pos):=λH_h O_h=>by
 subst hnm
 refine PS.imp (λD' σ H hq=>?_) (mT (lJ PySem.F.plainAttrs_list PySem.F.slot_list_append PySem.F.type_list_append vI (jL hN hv hd hc) (dC (h H_h O_h) eG (bD hp)) rfl (by rw[bD hp];rfl) hline (bD hp) rfl) rfl)
 obtain⟨ts,e,out,⟨O,own,F,tt⟩,ev,k⟩:=hq
 rw[xS_app]at ev
 obtain⟨d,e1,ev⟩:=Res.bind_ok ev
 obtain⟨l,e2,ev⟩:=Res.bind_ok ev
 obtain⟨c,ev⟩:=bO ev
 cases ev
 obtain⟨q0,xs0,f1,f2,f3,f4,f5⟩:=F.mut i (Sl.own_ok e2)
 refine⟨.ref q0,gA f1,.inl ⟨rfl,xs0,.of f2⟩,O,own,e,d,F,e1,λv H' s' r _=>?_⟩
 obtain⟨q1,xs1,g1,g2,g3,g4,g5⟩:=(F.grow s').mut i (Sl.own_ok e2)
 have eq:q1=q0:=by rw[f1]at g1;cases g1;rfl
 subst eq
 refine⟨q1,xs1,v,rfl,rfl,g2,by rw[g3.length,<-gU];exact of_decide_eq_true c,?_⟩
 exact k _ _ ⟨O,own,g5 _ _ (g3.append ⟨v,[],rfl,r,rfl⟩),λt ht=>((tt t ht).same s').upd g4 g2⟩
theorem ss_ext {nm:Str} (hN:X.N[i]?=some n) (hv:Vis X.env.scope n) (hd:(n==("__debug__" : Str))=false) (hc:(n==("__classdict__" : Str))=false) (hnm:nm = "extend") (hline:(apos.endLine==cpos.line)=true) (hp:bM p=true) (h:SE T cf X x p) :
 SS T cf X (.ext i x) (.Expr (.Call (.Attribute (.Name n px) nm apos) [p] [] cpos) pos):=λH_h O_h=>by
 subst hnm
 refine PS.imp (λD' σ H hq=>?_) (mT (lJ PySem.F.plainAttrs_list PySem.F.slot_list_extend PySem.F.type_list_extend Hz (jL hN hv hd hc) (dC (h H_h O_h) eG (bD hp)) rfl (by rw[bD hp];rfl) hline (bD hp) rfl) rfl)
 obtain⟨ts,e,out,⟨O,own,F,tt⟩,ev,k⟩:=hq
 rw[Be]at ev
 obtain⟨d,e1,ev⟩:=Res.bind_ok ev
 split at ev
 ·obtain⟨l,e2,ev⟩:=Res.bind_ok ev
  obtain⟨c,ev⟩:=bO ev
  rw[aM]at c
  cases ev
  obtain⟨q0,xs0,f1,f2,f3,f4,f5⟩:=F.mut i (Sl.own_ok e2)
  refine⟨.ref q0,gA f1,.inl ⟨rfl,xs0,.of f2⟩,O,own,e,_,F,e1,λv H' s' r nl=>?_⟩
  obtain⟨b,rfl,hb0,zs,hb1,hb2⟩:=nl c.1 rfl
  obtain⟨q1,xs1,g1,g2,g3,g4,g5⟩:=(F.grow s').mut i (Sl.own_ok e2)
  have eq:q1=q0:=by rw[f1]at g1;cases g1;rfl
  subst eq
  refine⟨q1,b,xs1,zs,rfl,rfl,g2,hb1,by rw[g3.length,hb2.length,<-gU];exact of_decide_eq_true c.2,?_⟩
  exact k _ _ ⟨O,own,g5 _ _ (g3.append (hb2.weak λ_ z=>.inl z)),λt ht=>((tt t ht).same s').upd g4 g2⟩
 ·cases ev
theorem Jn:SS T cf X .never st:=λH_h O_h=>PS.imp (λD' σ H ⟨ts,e,out,F,ev,k⟩=>by
 rw[IT]at ev;cases ev) HH
theorem ss_exp(hs:swapsWith p none pos.line X.env=pure false)(h:SE T cf X x p):SS T cf X (.exp x) (.Expr p pos):=λH_h O_h=>by
 refine PS.imp (λD' σ H hq=>?_) (mT (h H_h O_h) hs)
 obtain⟨ts,e,out,⟨O,own,F,tt⟩,ev,k⟩:=hq
 rw[xS_exp]at ev
 obtain⟨d,e1,ev⟩:=Res.bind_ok ev
 cases ev
 exact⟨O,own,e,d,F,e1,λv H' s' r _=>k _ _ ⟨O,own,F.grow s',λt ht=>(tt t ht).same s'⟩⟩
end
end Tr
namespace Tr
open PySem PySem.Spec PyProof.Rows L2
section
variable{T:Tab}{cf:Nat->List D->Res D}{X:Cx}{x y z:E}{p q r tg:Expr}{pos pos':Pos}{es:List Expr}{a b c:S}{st:Stmt}{sts:List Stmt}
end
noncomputable def eX(cells:List (Str×Addr)):List (Str×NameKind)->List (Str×Addr)->List (Str×Addr)
 |[],cs=>cs
 |(n,k)::r,cs=>eX cells r (if(k==.free)=true then(match cells.lookup n with|some c=>(n,c)::cs|none=>cs)else cs)
theorem C_{env:Env}:∀(names:List (Str×NameKind))(cs:List (Str×Addr)),(∀x∈names,x.2=.free->∃c,env.cells.lookup x.1=some c) ->
 (forIn names cs (λ(x:Str×NameKind) (r:List (Str×Addr))=>(if(x.2==.free)=true then(do let c<-cellOf env x.1;pure (ForInStep.yield ((x.1,c)::r)))else pure (ForInStep.yield r):Sem _)))=pure (eX env.cells names cs)
 |[],cs,_=>rfl
 |(n,k)::r,cs,h=>by
  rw[Gf]
  have ih:=C_ (env:=env) r
  by_cases hk:(k==NameKind.free)=true
  ·have hk':k=.free:=by simpa using hk
   obtain⟨c,hc⟩:=h (n,k) (bA ..) hk'
   simp only at hc
   simp only[hk,if_true]
   unfold cellOf
   rw[hc]
   show(do let r<-(pure (ForInStep.yield ((n,c)::cs)):Sem _);_)=_
   rw[eX,if_pos hk,hc]
   exact ih _ λx hx=>h x (aY _ hx)
  ·simp only[hk,if_false,Ae]
   rw[eX,if_neg hk]
   exact ih _ λx hx=>h x (aY _ hx)
theorem Jo{scope:Scope}{env:Env}(h:∀x∈scope.names,x.2=.free->∃c,env.cells.lookup x.1=some c):closureFor scope env=pure (eX env.cells scope.names []):=by
 have:=C_ (env:=env) scope.names [] h
 unfold closureFor
 rw[<-this]
 first|rfl|simp
theorem Ca{cells:List (Str×Addr)}:∀{names:List (Str×NameKind)} {cs:List (Str×Addr)} {n:Str} {c:Addr},(n,c)∈eX cells names cs->(n,c)∈cs\/((n,NameKind.free)∈names/\cells.lookup n=some c)
 |[],_,_,_,h=>.inl h
 |(m,k)::r,cs,n,c,h=>by
  rw[eX]at h
  rcases Ca h with g|⟨h1,h2⟩
  ·clear h
   split at g
   ·rename_i hk
    have hk':k=.free:=by simpa using hk
    subst hk'
    split at g
    ·rename_i c' hc
     rcases bL.mp g with e|g
     ·cases e
      exact .inr ⟨bA ..,hc⟩
     ·exact .inl g
    ·exact .inl g
   ·exact .inl g
  ·exact .inr ⟨aY _ h1,h2⟩
theorem Cb{cells:List (Str×Addr)}:∀{names:List (Str×NameKind)} {cs:List (Str×Addr)} {x:Str×Addr},x∈cs->x∈eX cells names cs
 |[],_,_,h=>h
 |(m,k)::r,cs,x,h=>by
  rw[eX]
  refine Cb ?_
  split
  ·split
   ·exact aY _ h
   ·exact h
  ·exact h
theorem wM{cells:List (Str×Addr)}:∀{names:List (Str×NameKind)} {cs:List (Str×Addr)} {n:Str} {c:Addr},(n,NameKind.free)∈names->cells.lookup n=some c->(n,c)∈eX cells names cs
 |[],_,_,_,h,_=>by cases h
 |(m,k)::r,cs,n,c,h,hc=>by
  rw[eX]
  rcases bL.mp h with e|h
  ·cases e
   refine Cb ?_
   rw[if_pos (by simp),hc]
   exact bA ..
  ·exact wM h hc
theorem Cc{l:List (Str×Addr)}{n:Str}{c:Addr}(h:(n,c)∈l):∃c',l.lookup n=some c':=by
 induction l with
 |nil=>cases h
 |cons x l ih=>
  obtain⟨m,d⟩:=x
  rw[mN]
  by_cases e:(n==m)=true
  ·rw[e];exact⟨d,rfl⟩
  ·have e':(n==m)=false:=by simpa using e
   rw[e']
   rcases bL.mp h with z|z
   ·cases z;simp at e
   ·exact ih z
theorem Cd{env:Env}:∀{names:List (Str×NameKind)} {x:Str},(∀y∈names,y.2≠.cell) ->
 ((names.map λ(n,k)=>if(k==NameKind.free&&env.scope.kind==.function&&env.kindOf n==some .cell)then(n,NameKind.cell)else(n,k)).lookup x=some .cell \/
  (names.map λ(n,k)=>if(k==NameKind.free&&env.scope.kind==.function&&env.kindOf n==some .cell)then(n,NameKind.cell)else(n,k)).lookup x=some .free)->(x,NameKind.free)∈names
 |[],_,_,h=>by rcases h with h|h<;>cases h
 |(n,k)::r,x,hc,h=>by
  have hk:=hc (n,k) (bA ..)
  have ih:=@Cd env r x λy hy=>hc y (aY _ hy)
  rw[aG]at h
  dsimp only at h
  by_cases hx:(x==n)=true
  ·have hx':x=n:=by simpa using hx
   subst hx'
   refine bL.mpr (.inl ?_)
   by_cases z:(k==NameKind.free&&env.scope.kind==.function&&env.kindOf x==some .cell)=true
   ·have:k=.free:=by
     cases k<;>first|rfl|(exact absurd z (by simp))
    rw[this]
   ·rw[if_neg z]at h
    simp only[mN,beq_self_eq_true]at h
    rcases h with h|h
    ·cases h;exact absurd rfl hk
    ·cases h;rfl
  ·have hx':(x==n)=false:=by simpa using hx
   refine aY _ (ih ?_)
   by_cases z:(k==NameKind.free&&env.scope.kind==.function&&env.kindOf n==some .cell)=true
   ·rw[if_pos z]at h
    simpa only[mN,hx']using h
   ·rw[if_neg z]at h
    simpa only[mN,hx']using h
variable{h1 h2:Heap}{H:Hp}
theorem Ce{env:Env}:∀{names:List (Str×NameKind)} {x:Str},
 (names.map λ(n,k)=>if(k==NameKind.free&&env.scope.kind==.function&&env.kindOf n==some .cell)then(n,NameKind.cell)else(n,k)).lookup x=some .local->names.lookup x=some .local
 |[],_,h=>by cases h
 |(n,k)::r,x,h=>by
  have ih:=@Ce env r x
  rw[aG]at h
  dsimp only at h
  by_cases z:(k==NameKind.free&&env.scope.kind==.function&&env.kindOf n==some .cell)=true
  ·rw[if_pos z]at h
   by_cases hx:(x==n)=true
   ·simp only[mN,hx]at h;cases h
   ·have hx':(x==n)=false:=by simpa using hx
    simp only[mN,hx']at h⊢
    exact ih h
  ·rw[if_neg z]at h
   by_cases hx:(x==n)=true
   ·simp only[mN,hx]at h⊢;exact h
   ·have hx':(x==n)=false:=by simpa using hx
    simp only[mN,hx']at h⊢
    exact ih h
noncomputable def cxC(X:Cx)(scope:Scope)(C:Addr)(Nc:List Str)(s2:Shared)(H2:Hp)(fp:List Addr):Cx where
 prog:=X.prog
 w:=X.w
 K:=X.K
 mg:=X.mg
 base:=X.base
 A:=X.A
 N:=Nc
 sy:=s2
 H_h:=H2
 env:=compEnvC scope (eX X.env.cells scope.names []) C X.env
 outer:=X.stack
 stack:=X.stack
 ex:=fp
 fn:=λn=>scope.names.lookup n==some .local
 calm:=X.calm
 pn:=[]
 xe:=λ_ _=>False
set_option genInjectivity false in
structure ScopeC(X:Cx)(scope:Scope):Prop where
 kind:scope.kind=.function
 cell:∀y∈scope.names,y.2≠.cell
 names:∀x∈scope.names,x.2=.local->scope.names.lookup x.1=some .local
 nd:∀x∈scope.names,x.2=.free->scope.names.lookup x.1≠some .local
 free:∀x∈scope.names,x.2=.free->X.env.kindOf x.1=some .cell\/X.env.kindOf x.1=some .free
section
variable{X:Cx}{scope:Scope}{C:Addr}{Nc:List Str}{s2:Shared}{H2:Hp}{fp:List Addr}{pins:List (Addr×Obj)}{σ:L2.St}
theorem jO{x:Str}{c:Addr}(h:(eX X.env.cells scope.names []).lookup x=some c):(x,NameKind.free)∈scope.names/\X.env.cells.lookup x=some c:=by
 rcases Ca (PySem.mem_of_lookup h)with z|z
 ·cases z
 ·exact z
theorem ScopeC.cells(S:ScopeC X scope)(ok:X.Ok):∀x∈scope.names,x.2=.free->∃c,X.env.cells.lookup x.1=some c:=λx hx hf=>ok.has x.1 (S.free x hx hf)
theorem cxC_ok(I:Inv X pins σ H2 s2)(S:ScopeC X scope)(hfp:∀b∈fp,iC X pins H2 b)(hfo:∀b∈fp,b<s2.heap.objs.size)(hC:s2.heap.objs.size<=C):(cxC X scope C Nc s2 H2 fp).Ok where
 mod:=I.ok.mod
 kind:=S.kind
 glob:=I.ok.glob
 blt:=I.ok.blt
 above:=hC
 inj:=λx y c h1 h2=>I.ok.inj x y c (jO h1).2 (jO h2).2
 has:=λx h=>by
  have hf:=Cd (env:=X.env) S.cell h
  obtain⟨c,hc⟩:=S.cells I.ok (x,.free) hf rfl
  exact Cc (wM hf hc)
 cab:=λx c h1 h2=>by
  have h1':scope.names.lookup x=some .local:=by simpa[cxC]using h1
  exact absurd h1' (S.nd (x,.free) (jO h2).1 rfl)
 hd:=I.ok.hd
 frames:=I.ok.frames
 stk:=.inl rfl
 exf:=λb hb=>⟨cC (dU (hfo b hb) hC),λx c h=>(hfp b hb).2.2.2.2.1 x c (jO h).2⟩
 bs:=I.bs
 bsz:=eQ I.ok.bsz I.sz
 noex:=λb o e hb=>by
  rcases(hfp b hb).2.2.2.1 with z|z
  ·exact I.ok.noex b o e z
  ·exact absurd (dU (Heap.lt_size e) (eQ I.ok.bsz z)) (iM _)
 exfs:=λb hb z=>by
  rcases bL.mp (I.stkSub b z)with z|z
  ·exact(hfp b hb).2.1 z
  ·exact(hfp b hb).2.2.1 z
 funs:=I.stack
 frf:=I.stkFree
noncomputable def stC(own:Nat)(caps:List Nat)(σ:L2.St):L2.St:=aZ own none++caps.map λi=>cQ σ i
set_option genInjectivity false in
structure CapsOk(X:Cx)(scope:Scope)(own:Nat)(caps:List Nat)(Nc:List Str):Prop where
 len:Nc.length=own+caps.length
 nd:caps.Nodup
 cap:∀j i,caps[j]?=some i->∃n,X.N[i]?=some n/\Nc[own+j]?=some n/\(n,NameKind.free)∈scope.names
theorem Jp{own:Nat}{caps:List Nat}{j:Nat}{v:V}(h:(stC own caps σ)[j]?=some (some v)):∃k i,j=own+k/\caps[k]?=some i/\cQ σ i=some v:=by
 unfold stC at h
 by_cases hj:j<own
 ·rw[oQ (by rw[eR];exact hj),oP,if_pos hj]at h
  cases h
 ·rw[iN (by rw[eR];lia),eR,cE]at h
  cases e:caps[j-own]? with
  |none=>rw[e]at h;cases h
  |some i=>
   rw[e]at h
   exact⟨j-own,i,by lia,e,fW.inj h⟩
theorem vis_of(I:Inv X pins σ H2 s2)(S:ScopeC X scope){n:Str}(h:(n,NameKind.free)∈scope.names):Vis X.env.scope n:=by
 rcases S.free _ h rfl with z|z
 ·exact .inr (.inl z)
 ·exact .inr (.inr z)
theorem invC{own:Nat}{caps:List Nat}{h1:Heap}{t1:Nat}(I:Inv X pins σ H2 s2)(S:ScopeC X scope)(P:CapsOk X scope own caps Nc)(ok:(cxC X scope C Nc s2 H2 fp).Ok)
 (keep:∀b o,s2.heap.get? b=some o->h1.get? b=some o) (hC:s2.heap.objs.size<C) (ns:h1.Ns C λ_=>none) (acc:h1.get? s2.heap.objs.size=some {cls:=.type "list", data:=.seq #[] }) :
 Inv (cxC X scope C Nc s2 H2 fp) [] (stC own caps σ) (upd H2 s2.heap.objs.size (.lst [])) {s2 with heap:=h1,toks:=t1}:=by
 have fr:H2 s2.heap.objs.size=none:=I.hok.fresh (aN _)
 have cellK:∀x c v,X.env.cells.lookup x=some c->s2.heap.IsCell c v->h1.IsCell c v:=λx c v _ ⟨o,ho,hd⟩=>⟨o,keep c o ho,hd⟩
 refine⟨ok,rfl,I.bare,Un.laid keep (aN _) fr,⟨_,ns,λi x v e1 e2 e3=>?_⟩,λx c h=>?_,?_,λx c h=>?_,λp hp=>absurd hp (by simp[cxC]),I.hok.laid keep (aN _) ?_,?_⟩
 ·obtain⟨k,i',rfl,hk,hv⟩:=Jp e2
  obtain⟨n,hn1,hn2,hn3⟩:=P.cap k i' hk
  have e1':Nc[own+k]?=some x:=e1
  rw[hn2]at e1';cases e1'
  obtain⟨m,hm,hl⟩:=I.loc
  obtain⟨u,ru,lk⟩:=hl i' _ v hn1 (gA hv) (vis_of I S hn3)
  refine⟨u,ru,?_⟩
  rcases lk with⟨kl,_⟩|⟨_,c,hc,hcell⟩
  ·rcases S.free _ hn3 rfl with z|z
   ·rw[kl]at z;cases z
   ·rw[kl]at z;cases z
  ·refine .inr ⟨?_,?_⟩
   ·rcases e3 with z|z
    ·exact absurd (Ce (env:=X.env) z) (S.nd _ hn3 rfl)
    ·exact z
   ·obtain⟨c',hc'⟩:=Cc (wM (cs:=[]) hn3 hc)
    have:=(jO hc').2
    rw[hc]at this;cases this
    exact⟨c,hc',cellK _ c _ hc hcell⟩
 ·obtain⟨v,z⟩:=I.cell x c (jO h).2
  exact⟨v,cellK x c v (jO h).2 z⟩
 ·show upd H2 s2.heap.objs.size (.lst []) C=none
  rw[bC (qZ hC)]
  exact I.hok.fresh (mK hC)
 ·obtain⟨v,z⟩:=I.cell x c (jO h).2
  rw[bC (cC z.lt)]
  exact I.freeC x c (jO h).2
 ·exact⟨eT _,[],0,.nil,acc⟩
 ·show(stC own caps σ).length=Nc.length
  unfold stC
  rw[cP,eR,aD,P.len]
theorem Un.but{fs ex:List Addr}{H':Hp}{h:Heap}{C:Addr}(u:Un fs ex H H' h h1)(hC:h.objs.size<=C)(s:Heap.SameBut C h1 h2):Un fs ex H H' h h2 where
 keep:=λb o e n hb hx=>(s.2 b (cC (dU (Heap.lt_size e) hC))).trans (u.keep b o e n hb hx)
 slot:=λb o e n hb hx=>let ⟨sl,q⟩:=u.slot b o e n hb hx;⟨sl,(s.2 b (cC (dU (Heap.lt_size e) hC))).trans q⟩
 free:=u.free
 there:=λb o e hx=>let ⟨o',q⟩:=u.there b o e hx;⟨o',(s.2 b (cC (dU (Heap.lt_size e) hC))).trans q⟩
 tups:=u.tups
 frzs:=u.frzs
 tbls:=u.tbls
theorem HOk.but{P:Program}{w:World}{C:Addr}(x:HOk P w H h1)(hC:H C=none)(s:Heap.SameBut C h1 h2):HOk P w H h2:=λb ob e=>by
 refine(x b ob e).stay (λc w' hc q=>(s.2 c ?_).trans q) (λ_ q=>q) (λ_ _ q=>q) λ_ _ _ q=>q
 rintro rfl
 rcases hc with rfl|hc
 ·rw[hC]at e;cases e
 ·rw[hC]at hc;cases hc
theorem outC{σi:L2.St}{Hi:Hp}{s':Shared}{h':Heap}(I:Inv X pins σ H2 s2)(Ic:Inv (cxC X scope C Nc s2 H2 fp) [] σi Hi s')(hfp:∀b∈fp,iC X pins H2 b)(hC:s2.heap.objs.size<=C)(sb:Heap.SameBut C s'.heap h'):Inv X pins σ Hi {s' with heap:=h' }:=by
 refine I.call' (s':={s' with heap:=h' }) (ch:=fp) Ic.os ?_ ?_ Ic.bare λb hb=>?_
 ·exact Un.but (show Un (frs X.stack) fp H2 Hi s2.heap s'.heap from Ic.base) hC sb
 ·exact HOk.but (show HOk X.prog X.w Hi s'.heap from Ic.hok) (show Hi C=none from Ic.free) sb
 ·obtain⟨_,a1,_,a3,a4,a5⟩:=hfp b hb
  exact⟨a3,a1,a4,a5⟩
end
end Tr
namespace Tr
open PySem PySem.Spec PyProof.Rows L2
variable{caps:List Nat}{n:Nat}
section
variable{prog:Program}{w:World}{A:Around}{R:Result->Shared->Prop}{s:Shared}
theorem Jq{elt target iter:Expr}{ifs:List Expr}{scope:Scope}{pos:Pos}{it acc:Value}{env:Env}(I:Nat->Shared->Prop)
 (turn:∀n s,I n s->wpAny (model prog w) A (pyNext it) (λr su=>match r with
  |none=>R (.ok .next) su
  |some v=>wpAny (model prog w) A (letOwnedTupleGo target it v) (λ_ sy=>wpAny (model prog w) A (assign target env v) (λ_ sv=>
   wpAny (model prog w) A (forIn ifs true λc r=>if r=true then do let ok<-isTrue c env (eval c env);pure (ForInStep.yield ok)else pure (ForInStep.yield r)) (λok sw=>
    if ok=true then wpAny (model prog w) A (eval elt env) (λx sk=>
     wpAny (model prog w) A (call (.builtin "list.append") [acc,x]) (λ_ s_h=>∃m,m<n/\I m s_h) (λ_ _=>False) sk) (λ_ _=>False) sw
    else ∃m,m<n/\I m sw) (λ_ _=>False) sv) (λ_ _=>False) sy) (λ_ _=>False) su) (λ_ _=>False) s)
 (n:Nat) (h:I n s) :
 codeAny (model prog w) A (.compLoop (.ListComp elt [⟨target,iter,ifs,0⟩] scope pos) 0 it acc env) R s:=by
 refine codeAny_loop rfl I (λn s hI=>?_) n h
 show wpAny _ A ((compTurn (.ListComp elt [⟨target,iter,ifs,0⟩] scope pos) 0 it acc env).onRaise (λx=>do noteFrame x env;theTreesLotGoes x)) _ _ s
 refine wpAny_noted ?_
 rw[compTurn_list]
 refine wpAny_bind (wpAny_standAt (wpAny_bind (wpAny_mono (turn n s hI) (λr su h_h=>?_) λ_ _ h'=>h'.elim)))
 cases r with
 |none=>exact wpAny_pure h_h
 |some v=>
  refine wpAny_bind (wpAny_mono h_h (λ_ sy h₀=>?_) λ_ _ h'=>h'.elim)
  refine wpAny_bind (wpAny_mono h₀ (λ_ sv hhh=>wpAny_bind (wpAny_mono hhh (λok sw hxx=>?_) λ_ _ h'=>h'.elim)) λ_ _ h'=>h'.elim)
  cases ok with
  |false=>exact wpAny_pure ⟨rfl,hxx⟩
  |true=>
   exact wpAny_bind (wpAny_bind (wpAny_mono hxx (λx sk h0h=>wpAny_bind (wpAny_mono h0h (λ_ s_h h0x=>wpAny_pure (wpAny_pure ⟨rfl,h0x⟩)) λ_ _ h'=>h'.elim)) λ_ _ h'=>h'.elim))
end
section
variable{K:PySem.W.Frag}{H_h H H':Hp}{O_h O O':Addr->Prop}{own:Nat->Option Addr}{e e':Nv}{σ:L2.St}
theorem Fm.updO(F:Fm K H_h O_h H O own e σ){p:Addr}{ys zs:List V}(hO:O p)(hp:H p=some (.lst ys))(h0:H_h p=none)(hn:∀j,own j≠some p):Fm K H_h O_h (upd H p (.lst zs)) O own e σ where
 len:=F.len
 sl:=λj=>RS.map (λq=>q.upd hO hp) (λq=>q.upd hO hp) (λa ys ea _ q=>by
  have:a≠p:=λz=>hn j (z▸ea)
  rw[bC this];exact q) (F.sl j) (vX hO) (iW (K:=K) hO hp trivial).1
 inj:=F.inj
 same:=λb o hb=>by rw[bC (λz=>by rw[z,h0]at hb;cases hb)];exact F.same b o hb
 sub:=F.sub
 trk0:=F.trk0
 trk:=λa ha=>by
  by_cases h:a=p
  ·subst h;exact⟨_,cW⟩
  ·obtain⟨ys,q⟩:=F.trk a ha
   exact⟨ys,by rw[bC h];exact q⟩
 new:=F.new
 nw:=F.nw
theorem Fm.back(F:Fm K H_h O_h H O own e σ)(hl:e'.length=e.length)(h:∀j,e'.at j=.no\/e'.at j=e.at j):Fm K H_h O_h H O own e' σ where
 len:=hl.trans F.len
 sl:=λj=>by
  rcases h j with z|z
  ·rw[z];trivial
  ·rw[z];exact F.sl j
 inj:=F.inj
 same:=F.same
 sub:=F.sub
 trk0:=F.trk0
 trk:=F.trk
 new:=F.new
 nw:=λj d a h1 h2=>by
  rcases h j with z|z
  ·rw[z]at h1;cases h1
  ·rw[z]at h1;exact F.nw j d a h1 h2
theorem wN{e:Nv}(j:Nat):(bT n caps e).at j=.no\/∃k i,j=n+k/\caps[k]?=some i/\(bT n caps e).at j=e.at i:=by
 unfold bT
 by_cases hj:j<n
 ·left
  unfold Nv.at
  rw[oQ (by rw[eR];exact hj),oP,if_pos hj];rfl
 ·cases q:caps[j-n]? with
  |none=>
   left
   unfold Nv.at
   rw[iN (by rw[eR];lia),eR,cE,q];rfl
  |some i=>
   right
   refine⟨j-n,i,by lia,q,?_⟩
   show(((aZ n Sl.no++caps.map λi=>e.at i))[j]?).getD .no=_
   rw[iN (by rw[eR];lia),eR,cE,q];rfl
theorem Jr{l:List Nat}(h:l.Nodup){j k i:Nat}(h1:l[j]?=some i)(h2:l[k]?=some i):j=k:=by
 obtain⟨a,e1⟩:=fE.mp h1
 obtain⟨b,e2⟩:=fE.mp h2
 exact(O5 h).mp (e1.trans e2.symm)
theorem Fm.comp(F:Fm K H_h O_h H O own e σ)(n:Nat){caps:List Nat}(hc:caps.Nodup){p:Addr}(hp:H p=none){xs:List V} :
 ∃own',Fm K H_h O_h (upd H p (.lst xs)) (eK O p) own' (bT n caps e) (stC n caps σ)/\∀j,own' j≠some p:=by
 have np:∀j,own j≠some p:=λj q=>by
  obtain⟨ys,w⟩:=F.trk p (F.new j p q).1
  rw[hp]at w;cases w
 have sm:=dD hp (.lst xs)
 refine⟨λj=>if j<n then none else(caps[j-n]?).bind own,⟨?_,λj=>?_,λj k a h1 h2=>?_,F.same.trans sm,λa h=>.inl (F.sub a h),F.trk0,λa h=>?_,λj a h1=>?_,λj d a h1 h2=>?_⟩,λj h1=>?_⟩
 ·unfold bT stC
  simp
 ·rcases wN (n:=n) (caps:=caps) (e:=e) j with z|⟨k,i,rfl,hk,z⟩
  ·rw[z];trivial
  ·rw[z,if_neg (by lia),show n+k-n=k by lia,hk]
   have e1:cQ (stC n caps σ) (n+k)=cQ σ i:=by
    unfold stC
    unfold cQ
    rw[iN (by rw[eR];lia),eR,cE,show n+k-n=k by lia,hk]
    rfl
   rw[e1]
   exact RS.map (λq=>(q.new hp).same sm) (λq=>(q.new hp).same sm) (λa ys _ _ q=>sm _ _ q) (F.sl i) (CF hp sm)
 ·by_cases hj:j<n
  ·rw[if_pos hj]at h1;cases h1
  ·by_cases hk:k<n
   ·rw[if_pos hk]at h2;cases h2
   ·rw[if_neg hj]at h1
    rw[if_neg hk]at h2
    cases q1:caps[j-n]? with
    |none=>rw[q1]at h1;cases h1
    |some i1=>
     cases q2:caps[k-n]? with
     |none=>rw[q2]at h2;cases h2
     |some i2=>
      rw[q1]at h1
      rw[q2]at h2
      have:=F.inj i1 i2 a h1 h2
      subst this
      have:=Jr hc q1 q2
      lia
 ·rcases h with h|h
  ·obtain⟨ys,q⟩:=F.trk a h
   exact⟨ys,sm _ _ q⟩
  ·subst h;exact⟨_,cW⟩
 ·by_cases hj:j<n
  ·rw[if_pos hj]at h1;cases h1
  ·rw[if_neg hj]at h1
   cases q1:caps[j-n]? with
   |none=>rw[q1]at h1;cases h1
   |some i1=>
    rw[q1]at h1
    exact⟨.inl (F.new i1 a h1).1,(F.new i1 a h1).2⟩
 ·rcases wN (n:=n) (caps:=caps) (e:=e) j with z|⟨k,i,rfl,hk,z⟩
  ·rw[z]at h1;cases h1
  ·rw[z]at h1
   refine F.nw i d a h1 ?_
   rw[<-h2]
   unfold stC
   unfold cQ
   rw[iN (by rw[eR];lia),eR,cE,show n+k-n=k by lia,hk]
   rfl
 ·dsimp only at h1
  by_cases hj:j<n
  ·rw[if_pos hj]at h1;cases h1
  ·rw[if_neg hj]at h1
   cases q1:caps[j-n]? with
   |none=>rw[q1]at h1;cases h1
   |some i1=>
    rw[q1]at h1
    exact np i1 h1
noncomputable def G.below(n:Nat):G->Bool
 |.one i=>decide (i<n)
 |.many is=>is.all λi=>decide (i<n)
theorem Cf:∀{is:List Nat} {ds:List D} {e e':Nv},(is.all λi=>decide (i<n))=true->cR is ds e=.ok e'->e'.length=e.length/\∀j,n<=j->e'.at j=e.at j
 |[],[],e,e',_,h=>by rw[cR]at h;cases h;exact⟨rfl,λ_ _=>rfl⟩
 |[],_::_,_,_,_,h=>by simp only[cR]at h;cases h
 |_::_,[],_,_,_,h=>by simp only[cR]at h;cases h
 |i::is,d::ds,e,e',hb,h=>by
  rw[cR]at h
  rw[lC,aM]at hb
  obtain⟨h1,h2⟩:=Cf hb.2 h
  have hi:=of_decide_eq_true hb.1
  exact⟨by rw[h1,fG],λj hj=>by rw[h2 j hj,gR (by lia)]⟩
theorem Js{g:G}{d:D}{e e':Nv}(hb:g.below n=true)(h:g.put d e=.ok e'):e'.length=e.length/\∀j,n<=j->e'.at j=e.at j:=by
 cases g with
 |one i=>
  have h:Res.ok (e.set i (.v d))=.ok e':=h
  cases h
  have hi:i<n:=of_decide_eq_true hb
  exact⟨fG,λj hj=>gR (by lia)⟩
 |many is=>
  cases d with
  |tup ds=>exact Cf hb h
  |non=>cases h
  |bl _=>cases h
  |int _=>cases h
  |str _=>cases h
  |lst _=>cases h
end
end Tr
namespace Tr
open PySem PySem.Spec PyProof.Rows L2
variable{O:Addr->Prop}{d:D}{H H':Hp}{ys zs:List V}{t:Pin}{K:PySem.W.Frag}{v:V}
section
variable{T:Tab}{cf:Nat->List D->Res D}{X:Cx}{x y z:E}{p q r tg iter:Expr}{pos:Pos}
noncomputable def Src(K:PySem.W.Frag)(H:Hp)(O:Addr->Prop)(p:Addr)(d:D)(v:V):Prop:=RD K H O d v\/∃a,v=.ref a/\a≠p/\OwnAt K H O a d
theorem Src.rr{p:Addr}(h:Src K H O p d v):RR K H O d v:=by
 rcases h with z|⟨al,z1,z2,z3⟩
 ·exact .inl z
 ·exact .inr ⟨al,z1,z3⟩
theorem Src.same{p:Addr}(h:Src K H O p d v)(s:Same H H'):Src K H' O p d v:=by
 rcases h with z|⟨al,z1,z2,z3⟩
 ·exact .inl (z.same s)
 ·exact .inr ⟨al,z1,z2,z3.same s⟩
theorem Src.upd{p:Addr}(h:Src K H O p d v)(hO:O p)(hp:H p=some (.lst ys)):Src K (L2.upd H p (.lst zs)) O p d v:=by
 rcases h with z|⟨al,z1,z2,z3⟩
 ·exact .inl (z.upd hO hp)
 ·exact .inr ⟨al,z1,z2,z3.updM hO hp trivial z2⟩
noncomputable def PinS(K:PySem.W.Frag)(H:Hp)(O:Addr->Prop)(p:Addr):Pin->Prop
 |.dv d v=>Src K H O p d v
 |.fr a o u=>H a=some (.frz o u)
theorem PinS.rr{p:Addr}(h:PinS K H O p t):nG K H O t:=by
 cases t with
 |dv d v=>exact Src.rr h
 |fr a o u=>exact h
theorem PinS.same{p:Addr}(h:PinS K H O p t)(s:Same H H'):PinS K H' O p t:=by
 cases t with
 |dv d v=>exact Src.same h s
 |fr a o u=>exact s _ _ h
theorem PinS.upd{p:Addr}(h:PinS K H O p t)(hO:O p)(hp:H p=some (.lst ys)):PinS K (L2.upd H p (.lst zs)) O p t:=by
 cases t with
 |dv d v=>exact Src.upd h hO hp
 |fr a o u=>
  have h:H a=some (.frz o u):=h
  show L2.upd H p (.lst zs) a=some (.frz o u)
  rw[bC (uZ h hp (by intro z;cases z))];exact h
noncomputable def pI(ifs:List Expr)(cond:E)(P:Expr->Prop):Prop:=(ifs=[]/\cond=.con (.bl true))\/∃c,ifs=[c]/\P c
theorem Cg{n:Nat}{caps:List Nat}{g:G}{elt src cond:E}{pe:Expr}{ifs:List Expr}{scope:Scope}{Nc:List Str}(hc:X.calm=true)(S:ScopeC X scope)(P:CapsOk X scope n caps Nc)(hb:g.below n=true)
 (hplain:bM iter=true) (hsrc:SI T cf X tg src true iter)
 (body:∀C s2 H2 fp,(cxC X scope C Nc s2 H2 fp).Ok->SG (cxC X scope C Nc s2 H2 fp) g tg/\SE T cf (cxC X scope C Nc s2 H2 fp) elt pe/\pI ifs cond (ST T cf (cxC X scope C Nc s2 H2 fp) cond))
 {use:Option (Value->Sem Unit)} {H_h:Hp} {O_h:Addr->Prop} {pins:List (Addr×Obj)} {s:Shared} {σ:L2.St} {H:Hp} {O:Addr->Prop} {own:Nat->Option Addr} {e:Nv} {d:D} {Q:Value->Shared->Prop} (I:Inv X pins σ H s) (F:Fm X.K H_h O_h H O own e σ)
 (ev:evE T cf (.comp n caps g elt src cond) e=.ok d)
 (fin:∀C s2 H2 Hi s' a,Inv X pins σ H2 s2->Same H H2->s2.heap.objs.size<C->(∀h',Heap.SameBut C s'.heap h'->Inv X pins σ Hi {s' with heap:=h' })->(∃m,s'.heap.Ns C m)->Hi C=none->Same H Hi->Fm X.K H_h O_h Hi O own e σ->RD X.K Hi O d (.ref a)->NewL X.K H Hi O d (.ref a)->a≠C ->
  compPost (model X.prog X.w) X.A X.xe use Q (.ref a) C (.ok .next) s') :
 wpAny (model X.prog X.w) X.A (comprehension (.ListComp pe [⟨tg,iter,ifs,0⟩] scope pos) scope X.env (firstIterPos [⟨tg,iter,ifs,0⟩] pos) (newList []) false (eval iter X.env) use) Q X.xe s:=by
 (first|rw[vS]at ev|rw[lN]at ev|rw[B6]at ev)
 obtain⟨ds,e1,ev⟩:=Res.bind_ok ev
 obtain⟨ys,e2,ev⟩:=Res.bind_ok ev
 obtain⟨cz,ev⟩:=bO ev
 cases ev
 have hz:=of_decide_eq_true cz
 refine wpAny_comprehension_free rfl (CP hplain) (Jo (S.cells I.ok)) S.kind S.names ?_
 refine thn (hsrc H_h O_h pins s σ H (λJ H2=>∃srs,Same H H2/\(∀t∈srs,nG X.K H2 O t)/\Wk X.K J srs ds) I ⟨O,own,e,ds,F,e1,λJ H' srs s' rr _ wk=>⟨srs,s',rr,wk⟩⟩) λv s1 h1=>thn h1 λitv s2 h2=>?_
 obtain⟨it,fp,tn,J,H2,rfl,I2,Tn,tn0,hfp,srs,s12,rr0,wk⟩:=h2
 refine wpAny_newObj_type (wpAny_newFunctionEnv S.cell (by intro y hy;simp at hy) (λh_h hns1 hsb1=>?_) S.kind)
 dsimp only at hns1 hsb1⊢
 generalize hH2:s2.heap.push {cls:=.type "list", dict:=none,data:=.seq ([]:List Value).toArray}=HP at hns1 hsb1⊢
 have hC:HP.objs.size=s2.heap.objs.size+1:=by rw[<-hH2,Heap.size_push]
 have hCl:s2.heap.objs.size<HP.objs.size:=by rw[hC];exact Ad _
 have below:∀b,b<s2.heap.objs.size->b≠HP.objs.size:=λb hb=>by rw[hC];exact cC (rG hb)
 have old:∀b o,s2.heap.get? b=some o->h_h.get? b=some o:=λb o e=>hsb1.extBut b o (below b (Heap.lt_size e)) (Heap.get?_push_of_some _ (hH2▸Heap.get?_push_of_some _ e))
 have hacc:h_h.get? s2.heap.objs.size=some {cls:=.type "list", data:=.seq #[] }:=hsb1.extBut _ _ (cC hCl) (Heap.get?_push_of_some _ (hH2▸Heap.get?_push_size _ rfl))
 have hfo:∀b∈fp,b<s2.heap.objs.size:=λb hb=>let ⟨o,q,_⟩:=Tn.obj 0 _ tn0 b hb;Heap.lt_size q
 have ok:=cxC_ok (Nc:=Nc) I2 S hfp hfo (mK hCl)
 have fr:H2 s2.heap.objs.size=none:=I2.hok.fresh (aN _)
 have F2:=F.grow s12
 obtain⟨ownc,Fc,nown⟩:=F2.comp n (caps:=caps) P.nd fr (xs:=[])
 obtain⟨bg,be,bt⟩:=body HP.objs.size s2 H2 fp ok
 have I0:=invC (t1:=s2.toks+([]:List (Str×Value)).length) (fp:=fp) I2 S P ok old hCl (by simpa using hns1) hacc
 have fpn:∀{Hi:Hp} {pins':List (Addr×Obj)},(∀b∈fp,Hi b=none)->(∀b∈fp,∀p∈pins',p.1≠b)->∀b∈fp,iC (cxC X scope HP.objs.size Nc s2 H2 fp) pins' Hi b:=λhn hpp b hb=>by
  refine⟨hn b hb,(ok.exf b hb).1,ok.exfs b hb,.inl hb,(ok.exf b hb).2,λp hp=>hpp b hb p (by simpa[cxC]using hp)⟩
 let f : D → Res (Option D) := fun d => do
     let e1<-g.put d (bT n caps e)
     let c<-evE T cf cond e1
     let k<-c.truth
     if k then do let y<-evE T cf elt e1;.ok (some y)else .ok none
 have loop:∀sw:Shared,sw={s2 with heap:=h_h,toks:=s2.toks+([]:List (Str×Value)).length} ->
  codeAny (model X.prog X.w) X.A (.compLoop (.ListComp pe [⟨tg,iter,ifs,0⟩] scope pos) 0 (.ref it) (.ref s2.heap.objs.size) (compEnvC scope (eX X.env.cells scope.names []) HP.objs.size X.env))
   (compPost (model X.prog X.w) X.A X.xe use Q (.ref s2.heap.objs.size) HP.objs.size) sw:=by
  rintro sw rfl
  refine Jq (λk s'=>∃i σi Hi own' as bs,k=ds.length+1-i/\i<=ds.length/\Inv (cxC X scope HP.objs.size Nc s2 H2 fp) [] σi Hi s'/\tn i s'.heap/\(∀b∈fp,Hi b=none)/\Same H2 Hi /\
   Fm X.K H_h O_h Hi (eK O s2.heap.objs.size) own' (bT n caps e) σi/\(∀j,own' j≠some s2.heap.objs.size)/\aU f (ds.drop i)=.ok bs/\ys=as++bs/\as.length<=i /\
   (∃xs,Hi s2.heap.objs.size=some (.lst xs)/\RDs X.K Hi (eK O s2.heap.objs.size) as xs)/\∀t∈srs,PinS X.K Hi (eK O s2.heap.objs.size) s2.heap.objs.size t) ?_ (ds.length+1) ?_
  ·rintro k s' ⟨i,σi,Hi,own',as,bs,rfl,hi,Ii,tni,fri,smi,Fi,noi,evd,rfl,hal,⟨xs,hx,wx⟩,rri⟩
   have stat:∀b∈fp,iC (cxC X scope HP.objs.size Nc s2 H2 fp) [] Hi b:=fpn fri (λb _ p hp=>by cases hp)
   obtain⟨w1,w2,w3⟩:=wk i Hi (eK O s2.heap.objs.size) λt ht=>(rri t ht).rr
   by_cases hlt:i<ds.length
   ·refine thn (Tn.item (cxC X scope HP.objs.size Nc s2 H2 fp) rfl rfl rfl hc i [] s' σi Hi (λ_ _=>False) Ii stat tni (w1 hlt)) λr s4 ⟨u,hr,h4⟩=>?_
    subst hr
    refine thn h4 λ_ s5 ⟨v,H5,I5,r5,y5,tn5,fr5⟩=>?_
    obtain⟨s35,rv⟩:=w3 v H5 _ (aR hlt) y5
    have I5':=I5.pinned (fpn fr5 (λb _ p hp=>by cases hp)) (Tn.obj _ _ tn5)
    rw[rF hlt,aU]at evd
    obtain⟨o,ef,evd⟩:=Res.bind_ok evd
    obtain⟨b',eb,evd⟩:=Res.bind_ok evd
    obtain⟨e3,ep,ef⟩:=Res.bind_ok ef
    obtain⟨dc,ec,ef⟩:=Res.bind_ok ef
    obtain⟨kc,et,ef⟩:=Res.bind_ok ef
    have F5:=Fi.grow s35
    refine thn (bg H_h O_h _ s5 σi H5 v u (λσ' H'=>H'=H5/\∃own'',Fm X.K H_h O_h H5 (eK O s2.heap.objs.size) own'' e3 σ'/\∀j,own'' j≠some s2.heap.objs.size) I5' r5 ⟨_,own',_,_,e3,F5,rv,ep,λσ' own'' hle F'=>⟨rfl,own'',F',λj q=>noi j (hle j _ q)⟩⟩) λ_ s6 ⟨σ6,H6,I6,q6⟩=>?_
    obtain⟨rfl,own6,F6,no6⟩:=q6
    have tests:wpAny (model X.prog X.w) X.A (forIn ifs true λc r=>if r=true then do let ok<-isTrue c (compEnvC scope (eX X.env.cells scope.names []) HP.objs.size X.env) (eval c (compEnvC scope (eX X.env.cells scope.names []) HP.objs.size X.env));pure (ForInStep.yield ok)else pure (ForInStep.yield r))
     (λok s7=>ok=kc/\∃H7,Inv (cxC X scope HP.objs.size Nc s2 H2 fp) ([]++mU fp s5.heap) σ6 H7 s7/\Same H6 H7) (λ_ _=>False) s6:=by
     rcases bt with⟨hi0,hc0⟩|⟨c0,hi0,st0⟩
     ·subst hi0 hc0
      (first|rw[vS]at ec|rw[lN]at ec|rw[B6]at ec);cases ec;cases et
      exact wpAny_tests_nil ⟨rfl,H6,I6,Same.refl _⟩
     ·subst hi0
      refine wpAny_tests_one (thn (st0 H_h O_h _ s6 σ6 H6 (λb H'=>b=kc/\Same H6 H') I6 ⟨_,own6,e3,dc,kc,F6,ec,et,λH' s=>⟨rfl,s⟩⟩) λb s7 ⟨H7,I7,q1,q2⟩=>⟨q1,H7,I7,q2⟩)
    refine thn tests λok s7 ⟨hok,H7,I7,s57⟩=>?_
    subst hok
    have F7:=F6.grow s57
    obtain⟨pl1,pl2⟩:=Js hb ep
    have bk:∀j,(bT n caps e).at j=.no\/(bT n caps e).at j=e3.at j:=λj=>by
     by_cases hj:n<=j
     ·exact .inr (pl2 j hj).symm
     ·rcases wN (n:=n) (caps:=caps) (e:=e) j with z|⟨k,i,rfl,_,_⟩
      ·exact .inl z
      ·exact absurd (Nat.le_add_right n k) hj
    have keepT:∀{H8:Hp} {s8:Shared} {σ8:L2.St},Inv (cxC X scope HP.objs.size Nc s2 H2 fp) ([]++mU fp s5.heap) σ8 H8 s8->tn (i+1) s8.heap/\∀b∈fp,H8 b=none:=λI8=>
     ⟨Tn.keep _ _ _ tn5 λb hb o q=>(I8.pin (b,o) (hV _ (hV _ (rN hb q)))).1,λb hb=>by
      obtain⟨o,q,_⟩:=Tn.obj _ _ tn5 b hb
      exact(I8.pin (b,o) (hV _ (hV _ (rN hb q)))).2.1⟩
    cases ok with
    |false=>
     rw[if_neg bR]at ef⊢
     cases ef
     cases evd
     obtain⟨t1,t2⟩:=keepT I7
     exact⟨ds.length+1-(i+1),by lia,i+1,σ6,H7,own6,as,bs,rfl,hlt,I7.unpinned,t1,t2,smi.trans (s35.trans s57),F7.back pl1.symm bk,no6,eb,rfl,Oi hal,⟨xs,s57 _ _ (s35 _ _ hx),(wx.same s35).same s57⟩,λt ht=>((rri t ht).same s35).same s57⟩
    |true=>
     rw[if_pos rfl]at ef⊢
     obtain⟨dy,ey,ef⟩:=Res.bind_ok ef
     cases ef
     cases evd
     refine thn (be H_h O_h _ s7 σ6 H7 (λv H'=>Same H7 H'/\RD X.K H' (eK O s2.heap.objs.size) dy v) I7 ⟨_,own6,e3,dy,F7,ey,λv H' s r _=>⟨s,r⟩⟩) λwv s8 ⟨vy,H8,I8,r8,s78,rd8⟩=>?_
     have sm8:=s35.trans (s57.trans s78)
     have hx8:=sm8 _ _ hx
     have F8:=F7.grow s78
     have wx8:=wx.same sm8
     have h0:H_h s2.heap.objs.size=none:=(F.same.trans s12).free fr
     refine thn (vI (X:=cxC X scope HP.objs.size Nc s2 H2 fp) _ s8 σ6 H8 (.ref s2.heap.objs.size) [vy] (.ref s2.heap.objs.size) [wv] (λ_ H'=>H'=upd H8 s2.heap.objs.size (.lst (xs++[vy]))) I8 rfl (.cons r8 .nil) ⟨_,xs,vy,rfl,rfl,hx8,by rw[wx.length,<-gU];lia,rfl⟩) λ_ s9 ⟨v9,H9,I9,r9,e9⟩=>?_
     subst e9
     obtain⟨t1,t2⟩:=keepT I9
     have smU:Same H2 (upd H8 s2.heap.objs.size (.lst (xs++[vy]))):=λb o q=>by
      rw[bC (iB q fr)]
      exact sm8 _ _ (smi _ _ q)
     refine⟨ds.length+1-(i+1),by lia,i+1,σ6,_,own6,as++[dy],b',rfl,hlt,I9.unpinned,t1,t2,smU,(F8.updO (.inr rfl) hx8 h0 no6).back pl1.symm bk,no6,eb,by simp,?_,⟨xs++[vy],cW,?_⟩,λt ht=>((rri t ht).same sm8).upd (.inr rfl) hx8⟩
     ·rw[cP,iQ];lia
     ·exact(wx8.append (RDs.cons rd8 RDs.nil)).upd (.inr rfl) hx8
   ·have hii:i=ds.length:=by lia
    subst hii
    refine thn (Tn.done (cxC X scope HP.objs.size Nc s2 H2 fp) rfl rfl rfl hc _ [] s' σi Hi (λ_ _=>False) Ii stat tni (w2 (aN _))) λr s4 ⟨hr,I4⟩=>?_
    subst hr
    rw[Oh,aU]at evd
    cases evd
    have nO:¬O s2.heap.objs.size:=λz=>by
     obtain⟨o,q⟩:=F2.trk _ z
     rw[fr]at q;cases q
    refine fin HP.objs.size s2 H2 Hi s4 s2.heap.objs.size I2 s12 hCl (λh' sb=>outC I2 I4 hfp (mK hCl) sb) ?_ I4.free (s12.trans smi) (F.grow (s12.trans smi)) ?_ ?_ (cC hCl)
    ·obtain⟨m,hn,_⟩:=I4.loc
     exact⟨m,hn⟩
    ·exact⟨_,xs,rfl,.inl ⟨nO,.inl hx⟩,by rw[fF];exact wx.weak λ_ z=>.inl z⟩
    ·exact λ_=>⟨_,rfl,s12.free fr,xs,hx,by rw[fF];exact wx⟩
  ·refine⟨0,_,_,ownc,[],ys,rfl,eT _,I0,Tn.keep _ _ _ tn0 λb _ o q=>old b o q,λb hb=>?_,dD fr _,Fc,nown,by simpa using e2,rfl,aN _,⟨[],cW,rfl⟩,?_⟩
   ·rw[bC (cC (hfo b hb))];exact(hfp b hb).1
   ·intro t ht
    have r0:=rr0 t ht
    cases t with
    |fr a o u=>exact dD fr _ _ _ r0
    |dv d0 v0=>
     rcases r0 with z|⟨al,z1,z2⟩
     ·exact .inl ((z.new fr).same (dD fr _))
     ·obtain⟨ob,hob,_⟩:=z2.obj
      exact .inr ⟨al,z1,iB hob fr,(z2.new fr).same (dD fr _)⟩
 exact codeAny_compStart_list (loop _ rfl) (Tn.self _ 0 _ _ _ (Tn.keep _ _ _ tn0 λb _ o q=>old b o q) (loop _ rfl))
end
end Tr
namespace Tr
open PySem PySem.Spec PyProof.Rows L2
variable{a:Addr}{ds:List D}{es:List Expr}{kk:Nat}{Pg:Program}{K:PySem.W.Frag}{w:World}
section
variable{T:Tab}{cf:Nat->List D->Res D}{X:Cx}{x y z:E}{p q r tg iter:Expr}{pos pos' pos'':Pos}
theorem Ci{n:Nat}{caps:List Nat}{g:G}{elt src cond:E}{pe:Expr}{ifs:List Expr}{scope:Scope}{Nc:List Str}(hc:X.calm=true)(S:ScopeC X scope)(P:CapsOk X scope n caps Nc)(hb:g.below n=true)
 (hplain:bM iter=true) (hsrc:SI T cf X tg src true iter)
 (body:∀C s2 H2 fp,(cxC X scope C Nc s2 H2 fp).Ok->SG (cxC X scope C Nc s2 H2 fp) g tg/\SE T cf (cxC X scope C Nc s2 H2 fp) elt pe/\pI ifs cond (ST T cf (cxC X scope C Nc s2 H2 fp) cond)) :
 SE T cf X (.comp n caps g elt src cond) (.ListComp pe [⟨tg,iter,ifs,0⟩] scope pos):=by
 intro H_h O_h pins s σ H Q I ⟨O,own,e,d,F,ev,k⟩
 rw[eval_ListComp]
 refine Cg (use:=none) hc S P hb hplain hsrc body I F ev ?_
 intro C s2 H2 Hi s' a I2 s12 hC hI ns hn sm Fi rd nl hne
 obtain⟨m,ns⟩:=ns
 exact⟨m,ns,λh' sb=>⟨.ref a,Hi,hI h' sb,rfl,k _ Hi sm rd λ_=>nl⟩⟩
theorem Jt{i:Nat}{nm:Str}{n:Nat}{caps:List Nat}{g:G}{elt src cond:E}{pe:Expr}{ifs:List Expr}{scope:Scope}{Nc:List Str}(hN:X.N.Nodup)(hi:X.N[i]?=some nm)(hl:Loc X.env.scope nm)(hf:X.fn nm=true\/X.env.scope.names.lookup nm=some .local)
 (hsw:swapsWith (.ListComp pe [⟨tg,iter,ifs,0⟩] scope pos) (some (.Name nm pos')) pos''.line X.env=pure true)
 (hc:X.calm=true) (S:ScopeC X scope) (P:CapsOk X scope n caps Nc) (hb:g.below n=true)
 (hplain:bM iter=true) (hsrc:SI T cf X tg src true iter)
 (body:∀C s2 H2 fp,(cxC X scope C Nc s2 H2 fp).Ok->SG (cxC X scope C Nc s2 H2 fp) g tg/\SE T cf (cxC X scope C Nc s2 H2 fp) elt pe/\pI ifs cond (ST T cf (cxC X scope C Nc s2 H2 fp) cond)) :
 ∀H_h O_h,PS X (.Assign [.Name nm pos'] (.ListComp pe [⟨tg,iter,ifs,0⟩] scope pos) pos'') (λD' σ H=>∃O own e d,Fm X.K H_h O_h H O own e σ/\evE T cf (.comp n caps g elt src cond) e=.ok d/\∀v H',Same H H'->RD X.K H' O d v->NewL X.K H H' O d v->D'.nx (σ.set i (some v)) H'):=by
 intro H_h O_h pins s σ H D' I ⟨O,own,e,d,F,ev,k⟩
 rw[exec_Assign_Name_used _ _ _ _ hsw]
 refine wpAny_bind (wpAny_standAt (wpAny_bind ?_))
 show wpAny _ X.A (do let _<-comprehension (.ListComp pe [⟨tg,iter,ifs,0⟩] scope pos) scope X.env _ (newList []) false (eval iter X.env) (some (assign (.Name nm pos') X.env))) _ _ s
 refine wpAny_bind (wpAny_mono (Cg (use:=some (assign (.Name nm pos') X.env)) (Q:=λ_ s'=>SP X pins D' .next s') hc S P hb hplain hsrc body I F ev ?_) (λ_ s' hq=>wpAny_pure (wpAny_pure hq)) λ_ _ e=>e)
 intro C s2 H2 Hi s' a I2 s12 hC hI ns hn sm Fi rd nl hne
 obtain⟨m,ns⟩:=ns
 have I':Inv X pins σ Hi s':=by
  have:=hI s'.heap (.refl ..)
  exact this
 show wpAny _ X.A (assign (.Name nm pos') X.env (.ref a)) _ _ _
 refine wpAny_assign_Name (An (v:=.ref a) I' hN hi hl rfl (λs'' I'' ⟨a0,sb,ha0⟩=>?_) hf)
 have lt0:a0<s2.heap.objs.size:=by
  rcases ha0 with z|z
  ·rw[z];exact I2.lt
  ·obtain⟨v,w⟩:=I2.cell nm a0 z
   exact w.lt
 have neC:C≠a0:=qZ (Af lt0 hC)
 refine⟨m,ns.sameBut sb neC,λh' sb'=>?_⟩
 refine⟨σ.set i (some (.ref a)),Hi,?_,k _ Hi sm rd nl⟩
 refine I''.turned (t':=s''.toks) (it:=C) (λb o hb' e=>(sb'.2 b hb').trans e) hn (qZ (Af I2.lt hC)) (.inr (eQ I2.sz (mK hC))) (λx c e z=>?_) (λp hp z=>?_)
 ·obtain⟨v,w⟩:=I2.cell x c e
  exact absurd (Af w.lt hC) (by rw[z];exact iM _)
 ·exact absurd (Af (Heap.lt_size (I2.pin p hp).1) hC) (by rw[z];exact iM _)
theorem Ju{i:Nat}{nm:Str}{n:Nat}{caps:List Nat}{g:G}{elt src cond:E}{pe:Expr}{ifs:List Expr}{scope:Scope}{Nc:List Str}(hN:X.N.Nodup)(hi:X.N[i]?=some nm)(hl:Loc X.env.scope nm)(hf:X.fn nm=true\/X.env.scope.names.lookup nm=some .local)
 (hc:X.calm=true) (S:ScopeC X scope) (P:CapsOk X scope n caps Nc) (hb:g.below n=true)
 (hplain:bM iter=true) (hsrc:SI T cf X tg src true iter) (o:Bool)
 (body:∀C s2 H2 fp,(cxC X scope C Nc s2 H2 fp).Ok->SG (cxC X scope C Nc s2 H2 fp) g tg/\SE T cf (cxC X scope C Nc s2 H2 fp) elt pe/\pI ifs cond (ST T cf (cxC X scope C Nc s2 H2 fp) cond)) :
 SS T cf X (if o then .asgO i (.comp n caps g elt src cond)else .asg (.one i) (.comp n caps g elt src cond)) (.Assign [.Name nm pos'] (.ListComp pe [⟨tg,iter,ifs,0⟩] scope pos) pos''):=by
 intro H_h O_h
 have main:PS X (.Assign [.Name nm pos'] (.ListComp pe [⟨tg,iter,ifs,0⟩] scope pos) pos'') (λD' σ H=>∃O own e d,Fm X.K H_h O_h H O own e σ/\evE T cf (.comp n caps g elt src cond) e=.ok d/\∀v H',Same H H'->RD X.K H' O d v->NewL X.K H H' O d v->D'.nx (σ.set i (some v)) H'):=by
  have hsw:∃b:Bool,swapsWith (.ListComp pe [⟨tg,iter,ifs,0⟩] scope pos) (some (.Name nm pos')) pos''.line X.env=pure b:=⟨_,rfl⟩
  obtain⟨b,hsw⟩:=hsw
  cases b with
  |true=>exact Jt hN hi hl hf hsw hc S P hb hplain hsrc body H_h O_h
  |false=>
   refine PS.imp (λD' σ H hq=>?_) (vD hN hi hl (Ci hc S P hb hplain hsrc body H_h O_h) hsw hf)
   obtain⟨O,own,e,d,F,ev,k⟩:=hq
   exact⟨O,own,e,d,F,ev,λv H' s' r n=>k v H' s' r (n rfl)⟩
 refine PS.imp (λD' σ H hq=>?_) main
 obtain⟨ts,e,out,⟨O,own,F,tt⟩,ev,k⟩:=hq
 cases o with
 |true=>
  rw[if_pos rfl]at ev
  (first|rw[rY]at ev|rw[rZ]at ev)
  obtain⟨d,e1,ev⟩:=Res.bind_ok ev
  split at ev
  ·obtain⟨c,ev⟩:=bO ev
   cases ev
   refine⟨O,own,e,_,F,e1,λv H' s' r n=>?_⟩
   obtain⟨p,rfl,h2,h3⟩:=n rfl
   exact k _ H' ⟨_,_,F.setO s' i h2 h3,λt ht=>((tt t ht).new h2).same s'⟩
  ·cases ev
 |false=>
  rw[if_neg bR]at ev
  (first|rw[rY]at ev|rw[rZ]at ev)
  obtain⟨d,e1,ev⟩:=Res.bind_ok ev
  obtain⟨e2,e3,ev⟩:=Res.bind_ok ev
  cases ev
  cases e3
  exact⟨O,own,e,d,F,e1,λv H' s' r n=>k _ H' ⟨O,_,(F.grow s').setV i r,λt ht=>(tt t ht).same s'⟩⟩
theorem Cj{pins:List (Addr×Obj)}{σ:L2.St}{H:Hp}{s:Shared}{h':Heap}{t':Nat}{a b:Addr}(I:Inv X pins σ H s)(k:∀c o,c≠a->c≠b->s.heap.get? c=some o->h'.get? c=some o)(na:H a=none)(nb:H b=none)
 (fa:a≠X.env.locals/\(a∈X.ex\/X.sy.heap.objs.size<=a)/\(∀x c,X.env.cells.lookup x=some c->c≠a)/\∀p∈X.pn++pins,p.1≠a)
 (fb:b≠X.env.locals/\(b∈X.ex\/X.sy.heap.objs.size<=b)/\(∀x c,X.env.cells.lookup x=some c->c≠b)/\∀p∈X.pn++pins,p.1≠b):Inv X pins σ H {s with heap:=h',toks:=t' }:=by
 have nn:∀c u,H c=some u->c≠a/\c≠b:=λc u e=>⟨λz=>(by rw[z,na]at e;cases e),λz=>(by rw[z,nb]at e;cases e)⟩
 have no2:∀{c},c∉[a,b]->c≠a/\c≠b:=λhc=>⟨λz=>hc (by simp[z]),λz=>hc (by simp[z])⟩
 refine I.step (g':=s.gens) (d':=s.drawn) (ch:=[a,b]) (λc hc=>?_) (λc o _ _ hc e _=>k c o (no2 hc).1 (no2 hc).2 e) (λc o _ _ hc e _=>⟨o.slots,k c o (no2 hc).1 (no2 hc).2 e⟩) (λ_ _ _ _ n=>n)
  (λc o hc e=>⟨o,k c o (no2 hc).1 (no2 hc).2 e⟩) (λ_ _ e=>e) (λ_ _ _ e=>e) (λb ps e=>⟨#[],by rw[e];simp⟩) (λm hm=>?_) (λc u e=>?_) I.bare
 ·rcases bL.mp hc with rfl|hc
  ·exact⟨fa.2.1,fa.1,fa.2.2.1,fa.2.2.2⟩
  ·have e:c=b:=by simpa using hc
   subst e
   exact⟨fb.2.1,fb.1,fb.2.2.1,fb.2.2.2⟩
 ·obtain⟨o,es,ep,ho,r⟩:=hm
  exact⟨o,es,ep,k _ o (Ne.symm fa.1) (Ne.symm fb.1) ho,r⟩
 ·refine(I.hok c u e).stay (λc' v hc q=>?_) (λ_ q=>q) (λ_ _ q=>q) λ_ _ _ q=>q
  have:c'≠a/\c'≠b:=by
   rcases hc with z|z
   ·rw[z];exact nn c u e
   ·exact nn c' _ z
  exact k c' v this.1 this.2 q
noncomputable def Ite(K:PySem.W.Frag)(a:Addr):It:=
 ⟨λi H=>∃xs x,SqL K H a xs/\xs[i]?=some x,λi H x H'=>∃p y,H p=none/\x=.ref p/\H'=upd H p (.tup [.int i,y])/\∀xs,SqL K H a xs->xs[i]?=some y,λi H=>∃xs,SqL K H a xs/\xs.length<=i⟩
theorem Jv{pos:Pos}(a en it:Addr)(hne:en≠it):Turn Pg w K (.Tuple es kk pos) (Ite K a) [en,it] en (λi h=>∃old,IsEnum h en it i old/\h.IsListIter it a i) where
 mem:=by simp
 obj:=λi h st b hb=>by
  obtain⟨old,st1,o,e,c,d⟩:=st
  rcases bL.mp hb with rfl|hb
  ·exact⟨_,st1,λv z=>by
    have z':Data.fields _=Data.cell v:=z
    cases z'⟩
  ·have e':b=it:=by simpa using hb
   subst e'
   exact⟨o,e,λv z=>by rw[d]at z;cases z⟩
 keep:=λi h h' st k=>by
  obtain⟨old,st1,st2⟩:=st
  exact⟨old,k en (by simp) _ st1,st2.at λo e=>k it (by simp) o e⟩
 item:=by
  intro X hP hw hK hc i pins s σ H E I hf st hg
  subst hP hw hK
  obtain⟨xs,x,hq,hx⟩:=hg
  obtain⟨old,st1,st2⟩:=st
  obtain⟨its,rv,p,hz⟩:=I.list hq
  obtain⟨u,hu,ru⟩:=rv.get hx
  obtain⟨f0,f1,f2,f3,f4,f5⟩:=hf en (by simp)
  obtain⟨g0,g1,g2,g3,g4,g5⟩:=hf it (by simp)
  refine wpAny_pyNext_enum_item st1 st2 p.isList (x:=u) (by simpa using hu) hne λh_h heo hit1 ht1 hz1 hk1=>?_
  refine⟨_,rfl,wpAny_letOwnedTupleGo_enum heo λhhh he2 hsx=>?_⟩
  replace hsx:Heap.SameBut en h_h hhh:=hsx
  have enl:en<s.heap.objs.size:=Heap.lt_size st1
  have itl:it<s.heap.objs.size:=by
   obtain⟨o,q,_⟩:=id st2
   exact Heap.lt_size q
  have fr:H s.heap.objs.size=none:=I.hok.fresh (aN _)
  have hm:∃hm:Heap,hm=s.heap.push {cls:=.type "tuple", data:=.seq #[.int i s.toks,u] }:=⟨_,rfl⟩
  obtain⟨hm,ehm⟩:=hm
  have I1:Inv X pins σ (upd H s.heap.objs.size (.tup [.int i,x])) {s with heap:=hm}:=by
   rw[ehm]
   refine I.laid (t':=s.toks) (λb o q=>Heap.get?_push_of_some _ q) (aN _) ?_
   exact⟨by show 2<=sizeLine;decide,[.int i s.toks,u],.cons ⟨_,rfl⟩ (.cons ru .nil),⟨_,Heap.get?_push_size _ rfl,rfl,_,rfl⟩⟩
  have kept:∀b o,b≠en->b≠it->hm.get? b=some o->hhh.get? b=some o:=λb o hb1 hb2 q=>by
   refine(hsx.2 b hb1).trans ?_
   rw[ehm]at q
   rcases Heap.get?_push_cases q with⟨e1,e2⟩|q
   ·rw[e1,e2];exact ht1
   ·exact hk1 b o hb1 hb2 q
  have up:∀{c:Addr},c<s.heap.objs.size->H c=none->upd H s.heap.objs.size (.tup [.int i,x]) c=none:=λhl hn=>by rw[bC (cC hl)];exact hn
  have I2:Inv X pins σ (upd H s.heap.objs.size (.tup [.int i,x])) {s with heap:=hhh,toks:=s.toks+1}:=Cj (s:={s with heap:=hm}) (t':=s.toks+1) I1 kept (up enl f0) (up itl g0) ⟨f1,f3,f4,f5⟩ ⟨g1,g3,g4,g5⟩
  refine⟨.ref s.heap.objs.size,_,I2,rfl,⟨_,x,fr,rfl,rfl,λys hy=>by rw[I.list_inj hy hq];exact hx⟩,⟨u,?_,hit1.extBut hsx.extBut (Ne.symm hne)⟩,λb hb=>?_⟩
  ·have:((i+1:Nat):Int)=(i:Int)+1:=by push_cast;rfl
   rw[this];exact he2
  ·rcases bL.mp hb with rfl|hb
   ·exact up enl f0
   ·have e':b=it:=by simpa using hb
    subst e'
    exact up itl g0
 done:=by
  intro X hP hw hK hc i pins s σ H E I hf st hg
  subst hP hw hK
  obtain⟨xs,hq,hx⟩:=hg
  obtain⟨old,st1,st2⟩:=st
  obtain⟨its,rv,p,hz⟩:=I.list hq
  obtain⟨g0,g1,g2,g3,g4,g5⟩:=hf it (by simp)
  have hl:=rv.length
  exact wpAny_pyNext_enum_end (I.ok.hd hc) st1 st2 p.isList (by simp;lia) λh' eb=>⟨rfl,I.turned (t':=s.toks) (λb o hb e=>eb b o hb e) g0 g1 g3 g4 g5⟩
 self:=λ_ _ _ _ _ st h=>by
  obtain⟨old,st1,_⟩:=st
  exact wpAny_pyIter_enum st1 h
noncomputable def IteT(K:PySem.W.Frag)(a:Addr):It:=
 ⟨λi H=>∃xs x,SqT K H a xs/\xs[i]?=some x,λi H x H'=>∃p y,H p=none/\x=.ref p/\H'=upd H p (.tup [.int i,y])/\∀xs,SqT K H a xs->xs[i]?=some y,λi H=>∃xs,SqT K H a xs/\xs.length<=i⟩
theorem Ck {h:Heap} {b:Addr} {its:Array Value} {o:Obj} (ht:h.IsTuple a its) (ho:h.get? b=some o) (hc:o.cls≠.type "tuple"):a≠b:=λe=>by
 subst e
 obtain⟨o',h1,h2,_⟩:=ht
 rw[ho]at h1;cases h1
 exact hc h2
theorem Jw{pos:Pos}(a en it:Addr)(hne:en≠it):Turn Pg w K (.Tuple es kk pos) (IteT K a) [en,it] en (λi h=>∃old,IsEnum h en it i old/\h.IsTupleIter it a i) where
 mem:=by simp
 obj:=λi h st b hb=>by
  obtain⟨old,st1,o,e,c,d⟩:=st
  rcases bL.mp hb with rfl|hb
  ·exact⟨_,st1,λv z=>by
    have z':Data.fields _=Data.cell v:=z
    cases z'⟩
  ·have e':b=it:=by simpa using hb
   subst e'
   exact⟨o,e,λv z=>by rw[d]at z;cases z⟩
 keep:=λi h h' st k=>by
  obtain⟨old,st1,st2⟩:=st
  exact⟨old,k en (by simp) _ st1,st2.at λo e=>k it (by simp) o e⟩
 item:=by
  intro X hP hw hK hc i pins s σ H E I hf st hg
  subst hP hw hK
  obtain⟨xs,x,hq,hx⟩:=hg
  obtain⟨old,st1,st2⟩:=st
  obtain⟨its,rv,p,hz⟩:=I.tuple hq
  obtain⟨u,hu,ru⟩:=rv.get hx
  obtain⟨f0,f1,f2,f3,f4,f5⟩:=hf en (by simp)
  obtain⟨g0,g1,g2,g3,g4,g5⟩:=hf it (by simp)
  have n1:a≠it:=by
   obtain⟨o,q1,q2,_⟩:=id st2
   exact Ck p q1 (by rw[q2];show Value.type "tuple_iterator" ≠ Value.type "tuple"; decide)
  have n2:a≠en:=Ck p st1 (show Value.type "enumerate" ≠ Value.type "tuple" by decide)
  have hlt:i<its.toArray.size:=by rw[bQ];exact(fE.mp hu).1
  refine wpAny_pyNext_enum_itemD (Im (A:=X.A.in1) (I.ok.hd hc) it a n1 its.toArray) st1 ⟨st2,p⟩ hlt hne (by simp[hne,Ne.symm n2]) λu' h_h tk hu' heo hit1 ht1 hz1 hk1=>?_
  have eu:u'=u:=by
   have h1:its[i]?=some u':=by simpa using hu'
   rw[hu]at h1;cases h1;rfl
  subst eu
  refine⟨_,rfl,wpAny_letOwnedTupleGo_enum heo λhhh he2 hsx=>?_⟩
  replace hsx:Heap.SameBut en h_h hhh:=hsx
  have enl:en<s.heap.objs.size:=Heap.lt_size st1
  have itl:it<s.heap.objs.size:=by
   obtain⟨o,q,_⟩:=id st2
   exact Heap.lt_size q
  have fr:H s.heap.objs.size=none:=I.hok.fresh (aN _)
  have hm:∃hm:Heap,hm=s.heap.push {cls:=.type "tuple", data:=.seq #[.int i tk,u'] }:=⟨_,rfl⟩
  obtain⟨hm,ehm⟩:=hm
  have I1:Inv X pins σ (upd H s.heap.objs.size (.tup [.int i,x])) {s with heap:=hm}:=by
   rw[ehm]
   refine I.laid (t':=s.toks) (λb o q=>Heap.get?_push_of_some _ q) (aN _) ?_
   exact⟨by show 2<=sizeLine;decide,[.int i tk,u'],.cons ⟨_,rfl⟩ (.cons ru .nil),⟨_,Heap.get?_push_size _ rfl,rfl,_,rfl⟩⟩
  have kept:∀b o,b≠en->b≠it->hm.get? b=some o->hhh.get? b=some o:=λb o hb1 hb2 q=>by
   refine(hsx.2 b hb1).trans ?_
   rw[ehm]at q
   rcases Heap.get?_push_cases q with⟨e1,e2⟩|q
   ·rw[e1,e2];exact ht1
   ·exact hk1 b o hb1 hb2 q
  have up:∀{c:Addr},c<s.heap.objs.size->H c=none->upd H s.heap.objs.size (.tup [.int i,x]) c=none:=λhl hn=>by rw[bC (cC hl)];exact hn
  have I2:Inv X pins σ (upd H s.heap.objs.size (.tup [.int i,x])) {s with heap:=hhh,toks:=tk+1}:=Cj (s:={s with heap:=hm}) (t':=tk+1) I1 kept (up enl f0) (up itl g0) ⟨f1,f3,f4,f5⟩ ⟨g1,g3,g4,g5⟩
  refine⟨.ref s.heap.objs.size,_,I2,rfl,⟨_,x,fr,rfl,rfl,λys hy=>by rw[I.tuple_inj hy hq];exact hx⟩,⟨u',?_,hit1.1.extBut hsx.extBut (Ne.symm hne)⟩,λb hb=>?_⟩
  ·have:((i+1:Nat):Int)=(i:Int)+1:=by push_cast;rfl
   rw[this];exact he2
  ·rcases bL.mp hb with rfl|hb
   ·exact up enl f0
   ·have e':b=it:=by simpa using hb
    subst e'
    exact up itl g0
 done:=by
  intro X hP hw hK hc i pins s σ H E I hf st hg
  subst hP hw hK
  obtain⟨xs,hq,hx⟩:=hg
  obtain⟨old,st1,st2⟩:=st
  obtain⟨its,rv,p,hz⟩:=I.tuple hq
  obtain⟨g0,g1,g2,g3,g4,g5⟩:=hf it (by simp)
  have hl:=rv.length
  have hT:s.TypeIs (.ref en) "enumerate" := ⟨_,st1,rfl⟩
  unfold pyNext
  refine wpAny_bind (wpAny_attempt (wpAny_callSpecial?_slot (name:=Str.ofString "__next__") hT F.slot_enumerate_next
   (wpAny_call_entry F.slot_enumerate_next hT F.entry_enumerate_next ?_ (F.args_enumerate_next_1 _))))
  show wpAny _ _ (field (.ref en) 2>>=_) _ _ _
  refine wpAny_bind (wpAny_field st1 rfl (x:=.ref it) rfl ?_)
  refine wpAny_bind (Bv (I.ok.hd hc) st2 p (by simp;lia) λh' x he' hx'=>?_)
  obtain⟨o,ho,hc'⟩:=hx'
  refine wpAny_bind (wpAny_isInstance (T := "StopIteration") (b:=true) ⟨o,ho,hc'⟩ isSubtype_stop ?_)
  exact wpAny_pure ⟨rfl,I.turned (t':=s.toks) (λb o hb e=>he' b o hb e) g0 g1 g3 g4 g5⟩
 self:=λ_ _ _ _ _ st h=>by
  obtain⟨old,st1,_⟩:=st
  exact wpAny_pyIter_enum st1 h
theorem pJ(k:Int):∀ds:List D,(bX k ds).length=ds.length
 |[]=>rfl
 |d::ds=>by rw[bX,aW,aW,pJ (k+1) ds]
theorem wO:∀(k:Int)(ds:List D)(i:Nat)(d:D),ds[i]?=some d->(bX k ds)[i]?=some (.tup [.int (k+i),d])
 |k,[],i,d,h=>by simp at h
 |k,d0::ds,0,d,h=>by simp at h;subst h;rw[bX];simp
 |k,d0::ds,i+1,d,h=>by
  rw[bX,Of,wO (k+1) ds i d (by simpa using h)]
  congr 4
  push_cast
  lia
theorem Jx:Wk1 K (Ite K a) (.lst ds) (.ref a) (bX 0 ds):=by
 intro i H O r
 obtain⟨a',xs,e,q,w⟩:=r.lst
 cases e
 have hl:=w.length
 rw[pJ]
 refine⟨λh=>?_,λh=>⟨xs,q,by lia⟩,λx H' d hd y=>?_⟩
 ·obtain⟨v,h1,h2⟩:=w.get (aR h)
  exact⟨xs,v,q,h1⟩
 ·obtain⟨p,yv,hp,rfl,rfl,hy⟩:=y
  refine⟨dD hp _,?_⟩
  have hi:i<ds.length:=by
   have:=(fE.mp hd).1
   rwa [pJ]at this
  obtain⟨v,h1,h2⟩:=w.get (aR hi)
  have:=(hy xs q).symm.trans h1
  cases this
  rw[wO 0 ds i _ (aR hi)]at hd
  cases hd
  refine nD (RDs.cons ?_ (RDs.cons h2 RDs.nil)) hp
  show V.int (i:Int)=V.int (0+(i:Int))
  rw[Int.zero_add]
theorem Jy:Wk1 K (IteT K a) (.tup ds) (.ref a) (bX 0 ds):=by
 intro i H O r
 obtain⟨a',xs,e,q,w⟩:=r.tup
 cases e
 have hl:=w.length
 rw[pJ]
 refine⟨λh=>?_,λh=>⟨xs,q,by lia⟩,λx H' d hd y=>?_⟩
 ·obtain⟨v,h1,h2⟩:=w.get (aR h)
  exact⟨xs,v,q,h1⟩
 ·obtain⟨p,yv,hp,rfl,rfl,hy⟩:=y
  refine⟨dD hp _,?_⟩
  have hi:i<ds.length:=by
   have:=(fE.mp hd).1
   rwa [pJ]at this
  obtain⟨v,h1,h2⟩:=w.get (aR hi)
  have:=(hy xs q).symm.trans h1
  cases this
  rw[wO 0 ds i _ (aR hi)]at hd
  cases hd
  refine nD (RDs.cons ?_ (RDs.cons h2 RDs.nil)) hp
  show V.int (i:Int)=V.int (0+(i:Int))
  rw[Int.zero_add]
theorem Jz {rd:Bool} {n:Str} {pn:Pos} {tpos:Pos} (hn:n = "enumerate") (hg:Gl X n) (hm:X.mg "enumerate" = none) (hp:bM p=true) (ha:SR T cf X x p) (hv:rd=false->SE T cf X x p) :
 SI T cf X (.Tuple es kk tpos) (.enum x) rd (.Call (.Name n pn) [p] [] pos):=by
 intro H_h O_h pins s σ H R I h
 subst hn
 obtain⟨O,own,e,ds,F,ev,k⟩:=h
 replace k:=pG k
 rw[B9]at ev
 obtain⟨d1,e1,ev⟩:=Res.bind_ok ev
 have main:∀{u:Value} {s1:Shared} {v:V} {H1:Hp},Inv X pins σ H1 s1->RelV v u->Same H H1->RR X.K H1 O d1 v->(rd=false->RD X.K H1 O d1 v)->wpAny (model X.prog X.w) X.A (call (.type "enumerate") [u]) (λv s1=>wpAny (model X.prog X.w) X.A (pyIter v) (PIE X pins σ (.Tuple es kk tpos) R) X.xe s1) X.xe s1:=by
  intro u s1 v H1 I1 r1 s1' rr rv
  cases d1 with
  |lst dl=>
   cases ev
   obtain⟨a,xs,e,q1,w1⟩:=rr.lst
   subst e
   cases r1
   obtain⟨its,r',pl,hz⟩:=I1.list q1
   refine call_enumerate_list pl.isList λh' he hit hz' hk=>?_
   refine wpAny_pyIter_enum he ?_
   have I2:Inv X pins σ H1 {s1 with heap:=h' }:=I1.kept (t':=s1.toks) hk
   refine⟨s1.heap.objs.size+1,[s1.heap.objs.size+1,s1.heap.objs.size],_,Ite X.K a,H1,rfl,I2,Jv a _ _ (Oj _),⟨_,he,hit⟩,λb hb=>?_,k _ H1 _ _ s1' rr rv Jx⟩
   rcases bL.mp hb with rfl|hb
   ·exact I1.fpOk (oS _) (I1.hok.fresh (oS _))
   ·have e':b=s1.heap.objs.size:=by simpa using hb
    subst e'
    exact I1.fpOk (aN _) (I1.hok.fresh (aN _))
  |tup dl=>
   cases ev
   obtain⟨a,xs,e,q1,w1⟩:=rr.tup
   subst e
   cases r1
   obtain⟨its,r',pl,hz⟩:=I1.tuple q1
   refine Ip pl λh' he hit hz' hk=>?_
   refine wpAny_pyIter_enum he ?_
   have I2:Inv X pins σ H1 {s1 with heap:=h' }:=I1.kept (t':=s1.toks) hk
   refine⟨s1.heap.objs.size+1,[s1.heap.objs.size+1,s1.heap.objs.size],_,IteT X.K a,H1,rfl,I2,Jw a _ _ (Oj _),⟨_,he,hit⟩,λb hb=>?_,k _ H1 _ _ s1' rr rv Jy⟩
   rcases bL.mp hb with rfl|hb
   ·exact I1.fpOk (oS _) (I1.hok.fresh (oS _))
   ·have e':b=s1.heap.objs.size:=by simpa using hb
    subst e'
    exact I1.fpOk (aN _) (I1.hok.fresh (aN _))
  |non=>cases ev
  |bl _=>cases ev
  |int _=>cases ev
  |str _=>cases ev
 cases rd with
 |true=>
  refine Call_ (lI I hg hm PyProof.Rows.boot_enumerate (PyProof.Rows.callWith_type1 (thn (dC (ha H_h O_h) eG (bD hp) pos pins s σ H (λvs H1=>∃v,vs=[v]/\Same H H1/\RR X.K H1 O d1 v) I ⟨O,own,e,d1,F,e1,λv H' s' r=>⟨v,rfl,s',r⟩⟩) λus s1 ⟨vs,H1,I1,r1,v,ev1,s1',rr⟩=>?_) (bD hp) rfl))
  subst ev1
  obtain⟨u,rfl,ru⟩:=fY r1
  exact main I1 ru s1' rr (λz=>by cases z)
 |false=>
  refine Call_ (lI I hg hm PyProof.Rows.boot_enumerate (PyProof.Rows.callWith_type1 (thn (dC (hv rfl H_h O_h) eG (bD hp) pos pins s σ H (λvs H1=>∃v,vs=[v]/\Same H H1/\RD X.K H1 O d1 v) I ⟨O,own,e,d1,F,e1,λv H' s' r _=>⟨v,rfl,s',r⟩⟩) λus s1 ⟨vs,H1,I1,r1,v,ev1,s1',rr⟩=>?_) (bD hp) rfl))
  subst ev1
  obtain⟨u,rfl,ru⟩:=fY r1
  exact main I1 ru s1' rr.rr (λ_=>rr)
end
end Tr
namespace Tr
open PySem PySem.Spec PyProof.Rows L2
section
variable{K:PySem.W.Frag}{H_h H H':Hp}{O_h O O':Addr->Prop}{own:Nat->Option Addr}{e:Nv}{σ:L2.St}
end
section
variable{T:Tab}{cf:Nat->List D->Res D}{X:Cx}{x y z:E}{p q r tg:Expr}{pos pos':Pos}{es:List Expr}
end
section
variable{prog:Program}{w:World}{A:Around}{E:Value->Shared->Prop}{s:Shared}
end
end Tr
namespace Tr
open PySem PySem.Spec PyProof.Rows L2 PySem.W
variable{X:Cx}{h:Heap}{kss:List (List Int)}{n:Nat}
noncomputable def AskB{α:Type}(n:Nat)(R:α->Prop):KasT α->Prop
 |.ret a=>R a
 |.ask i j k=>i<n/\j<n/\∀b,AskB n R (k b)
theorem AskB.bind{α β:Type}{R:α->Prop}{S:β->Prop}{f:α->KasT β}(hf:∀a,R a->AskB n S (f a)):∀{t:KasT α},AskB n R t->AskB n S (t.bind f)
 |.ret a,h=>hf a h
 |.ask i j k,h=>⟨h.1,h.2.1,λb=>AskB.bind hf (h.2.2 b)⟩
noncomputable def BelA(n:Nat)(p:Array Nat):Prop:=∀x∈p.toList,x<n
theorem BelA.getD{p:Array Nat}(h:BelA n p)(h0:0<n)(i:Nat):p.getD i 0<n:=by
 by_cases hi:i<p.size
 ·rw[show p.getD i 0=p[i] by simp[Array.getD,hi]]
  exact h _ (by simp)
 ·rw[show p.getD i 0=0 by simp[Array.getD,hi]];exact h0
theorem BelA.perm{p q:Array Nat}(h:BelA n p)(e:q.Perm p):BelA n q:=λx hx=>h x ((Ol.mp e).mem_iff.mp hx)
theorem BelA.rev{p:Array Nat}(h:BelA n p)(i j:Nat):BelA n (kas_rev p i j):=h.perm (mirror_perm ..)
theorem wQ(h0:0<n){p:Array Nat}(h:BelA n p):∀f m,AskB n (λ_=>True) (kas_asc p f m)
 |0,_=>trivial
 |f+1,m=>⟨h.getD h0 _,h.getD h0 _,λb=>by
  cases b with
  |true=>exact trivial
  |false=>exact wQ h0 h f (m+1)⟩
theorem sN(h0:0<n):∀(f:Nat)(p:Array Nat)(m q:Nat),BelA n p->AskB n (λr:Array Nat×Nat×Nat=>BelA n r.1) (kas_desc f p m q)
 |0,_,_,_,h=>h
 |f+1,p,m,q,h=>⟨h.getD h0 _,h.getD h0 _,λb=>by
  cases b with
  |true=>
   dsimp only
   rw[if_pos rfl]
   split
   ·exact sN h0 f _ _ _ (h.rev _ _)
   ·exact sN h0 f _ _ _ h
  |false=>
   dsimp only
   rw[if_neg bR]
   exact⟨h.getD h0 _,h.getD h0 _,λb=>by
    cases b with
    |true=>exact h
    |false=>exact sN h0 f _ _ _ h⟩⟩
theorem Cm(h0:0<n){p:Array Nat}(h:BelA n p)(m r:Nat):AskB n (λr:Nat×Array Nat=>BelA n r.2) (kas_tail3 m r p):=by
 unfold kas_tail3
 refine AskB.bind (R:=λ_=>True) ?_ (wQ h0 (h.rev 0 m) _ _)
 exact λ_ _=>h.rev 0 m
theorem Cn(h0:0<n){p:Array Nat}(h:BelA n p)(m r:Nat):AskB n (λr:Nat×Array Nat=>BelA n r.2) (kas_descPart m r p):=
 AskB.bind (λz hz=>by
  split
  ·exact Cm h0 (BelA.rev hz _ _) _ _
  ·exact Cm h0 hz _ _) (sN h0 _ p _ _ h)
theorem KA(h0:0<n){p:Array Nat}(h:BelA n p)(r:Nat):AskB n (λr:Nat×Array Nat=>BelA n r.2) (kas_count r p):=
 AskB.bind (R:=λ_=>True) (λm _=>by
  split
  ·exact h
  ·split
   ·exact⟨h.getD h0 _,h.getD h0 _,λb=>by
     cases b with
     |true=>exact h
     |false=>exact Cn h0 (h.rev _ _) _ _⟩
   ·exact Cn h0 h _ _) (wQ h0 h _ _)
theorem wR(h0:0<n){p:Array Nat}(h:BelA n p)(k:Nat):∀f l r,AskB n (λ_=>True) (kas_place p k f l r)
 |0,_,_=>trivial
 |f+1,l,r=>by
  show AskB n _ (if l≥r then _ else _)
  split
  ·exact trivial
  ·exact⟨h.getD h0 _,h.getD h0 _,λb=>by
    cases b with
    |true=>exact wR h0 h k f _ _
    |false=>exact wR h0 h k f _ _⟩
theorem Co(h0:0<n):∀(f:Nat)(p:Array Nat)(k:Nat),BelA n p->AskB n (λr:Array Nat=>BelA n r) (kas_bin f p k)
 |0,_,_,h=>h
 |f+1,p,k,h=>AskB.bind (R:=λ_=>True) (λl _=>Co h0 f _ _ (h.perm (bubble_perm ..))) (wR h0 h k k 0 k)
theorem KB(h0:0<n):AskB n (λr:Array Nat=>BelA n r) (kas_sort n):=
 AskB.bind (λr hr=>by
  split
  ·exact Co h0 _ _ _ hr
  ·exact hr) (KA h0 (λx hx=>by simpa using hx) n)
noncomputable def TpI (h:Heap) (v:Value) (ks:List Int):Prop:=∃a o items n,v=.ref a/\h.get? a=some o/\o.cls=.type "tuple" /\ o.data=.seq items n/\IntsAre items.toList ks
noncomputable def TpIs(h:Heap):List Value->List (List Int)->Prop
 |[],kss=>kss=[]
 |v::vs,kss=>∃ks r,kss=ks::r/\TpI h v ks/\TpIs h vs r
theorem TpIs.len:∀{vs:List Value} {kss:List (List Int)},TpIs h vs kss->kss.length=vs.length
 |[],_,e=>by cases (show _=[]from e);rfl
 |v::vs,_,e=>by
  obtain⟨ks,r,rfl,_,e⟩:=e
  rw[aW,aW,TpIs.len e]
theorem TpIs.at:∀{vs:List Value} {kss:List (List Int)},TpIs h vs kss->∀i,i<vs.length->TpI h (vs.getD i .none) (kss.getD i [])
 |v::vs,_,e,0,_=>by
  obtain⟨ks,r,rfl,e,_⟩:=e
  exact e
 |v::vs,_,e,i+1,hi=>by
  obtain⟨ks,r,rfl,_,e⟩:=e
  exact TpIs.at e i (by rw[aW]at hi;lia)
theorem TpIs.mono {h':Heap} (k:∀b o,o.cls=.type "tuple" -> h.get? b=some o->h'.get? b=some o):∀{vs:List Value} {kss:List (List Int)},TpIs h vs kss->TpIs h' vs kss
 |[],_,e=>e
 |v::vs,_,e=>by
  obtain⟨ks,r,rfl,⟨a,o,xs,n,h1,h2,h3⟩,e⟩:=e
  exact⟨ks,r,rfl,⟨a,o,xs,n,h1,k _ _ h3.1 h2,h3⟩,TpIs.mono k e⟩
section
variable{prog:Program}{w:World}{A:Around}{E:Value->Shared->Prop}{s:Shared}
theorem Cp{α:Type}{R:α->Prop}{lt:Nat->Nat->Bool}{cmp:Nat->Nat->(Bool->Shared->Prop)->Shared->Prop}{Q:α->Shared->Prop}(hc:∀i j C,i<n->j<n->C (lt i j) s->cmp i j C s):∀(t:KasT α),AskB n R t->Q (cO lt t) s->t.kasWp cmp Q s
 |.ret a,_,h=>h
 |.ask i j k,hb,h=>hc i j _ hb.1 hb.2.1 (Cp hc (k (lt i j)) (hb.2.2 _) h)
theorem KC{a b:Int}{t u:Tok}{Q:Value->Shared->Prop}(h:Q (.bool (decide (a<b))) s):wpAny (model prog w) A (richCompare .Lt (.int a t) (.int b u)) Q E s:=
 wpAny_richCompare_same (op:=.Lt) (typeIs_int s a t) (typeIs_int s b u) slot_int_lt (call_int_lt ⟨nofun,h⟩) rfl
theorem Cq:∀{vs:List Value} {kss:List (List Int)},TpIs h vs kss->(∀k∈kss,k.length=2)->∃fs:List Value,KatTups h vs fs/\fs.length=vs.length/\∀f∈fs,∃n t,f=.int n t
 |[],_,h,_=>⟨[],.nil,rfl,λf z=>nomatch z⟩
 |v::vs,_,h,h2=>by
  obtain⟨ks,kss,rfl,⟨a,o,xs,n,rfl,ho,hc,hd,hi⟩,h1⟩:=h
  obtain⟨fs,k1,k2,k3⟩:=Cq h1 λk hk=>h2 k (aY _ hk)
  have hl:=h2 ks bA
  cases hi':xs.toList with
  |nil=>rw[hi']at hi;cases hi;cases hl
  |cons z r=>
   rw[hi']at hi
   cases hi with
   |cons m t _=>
    refine⟨.int m t::fs,.cons ho hc hd (by rw[<-Gk,hi'];rfl) k1,by rw[aW,aW,k2],λf hf=>?_⟩
    rcases bL.mp hf with rfl|hf
    ·exact⟨m,t,rfl⟩
    ·exact k3 f hf
theorem KD{vs:List Value}{Q:SortKind->Shared->Prop}(h:TpIs s.heap vs kss)(h2:∀k∈kss,k.length=2)(h0:0<vs.length)(hq:Q (tuples' true) s):wpAny (model prog w) A (keyKind' vs.toArray) Q E s:=by
 obtain⟨fs,k1,k2,k3⟩:=Cq h h2
 refine kat_kind (T:=.type "int") k1 (by lia) (λv hv=>?_) rfl hq
 obtain⟨n,t,rfl⟩:=k3 v hv
 exact .now
theorem KF{u v:Value}{x y:List Int}{Q:Bool->Shared->Prop}(hx:TpI s.heap u x)(hy:TpI s.heap v y)(lx:x.length=2)(ly:y.length=2)(h:Q (eV x y) s):wpAny (model prog w) A (keyLt' (tuples' true) u v) Q E s:=by
 obtain⟨a,oa,xs,na,rfl,hoa,hca,hda,hia⟩:=hx
 obtain⟨b,ob,ys,nb,rfl,hob,hcb,hdb,hib⟩:=hy
 refine kat_lt hoa hda hob hdb ?_
 have e1:xs.size=xs.toList.length:=rfl
 have e2:ys.size=ys.toList.length:=rfl
 rw[e1,e2]
 generalize xs.toList=xl at *
 generalize ys.toList=yl at *
 match x,xl,hia,lx with
 |[x0,x1],_,.cons _ t0 (.cons _ t1 .nil),_=>
  match y,yl,hib,ly with
  |[y0,y1],_,.cons _ u0 (.cons _ u1 .nil),_=>
   refine kat_cons (wpAny_eqBool_int ?_)
   by_cases c:x0=y0
   ·rw[eV,if_pos c]at h
    rw[show(x0==y0)=true by simpa using c]
    refine kat_yes (kat_cons (wpAny_eqBool_int ?_))
    by_cases d:x1=y1
    ·rw[eV,if_pos d]at h
     rw[show(x1==y1)=true by simpa using d]
     exact kat_yes (kat_nil h)
    ·rw[eV,if_neg d]at h
     rw[show(x1==y1)=false by simpa using d]
     exact kat_no (kat_one _ _ (KC h))
   ·rw[eV,if_neg c]at h
    rw[show(x0==y0)=false by simpa using c]
    refine kat_no ?_
    show wpAny _ _ (oneLt' true _ _) _ _ _
    rw[<-keyLt'_oneType]
    exact kat_lt_int h
theorem Cr(hk:∀k∈kss,k.length=2){i:Nat}(h:i<kss.length):(kss.getD i []).length=2:=by
 rw[gI,aR h]
 exact hk _ (jH h)
theorem KG {a:Addr} {vs:List Value} {kss:List (List Int)} {n:Nat} {P:PySem.Fin->Shared->Prop} (ho:s.heap.get? a=some (seqObj "list" vs.toArray n)) (ht:TpIs s.heap vs kss) (hk:∀k∈kss,k.length=2) (h64:vs.length<64)
 (h:(dR kss).length=vs.length->P (.done (.ret .none)) {s with heap:=sortedHeap s.heap a vs (iT ((dR kss).map λi=>vs.getD i Value.none)) }) :
 wpAny (model prog w) A (Builtin.«list.sort» ⟨[.ref a],[]⟩) P E s:=by
 have ha:a<s.heap.objs.size:=Heap.lt_size ho
 obtain⟨e1,ho1⟩:∃e1,(s.heap.update a (Obj.mapSeq λ_=>(#[]:Array Value))).get? a=some (seqObj "list" #[] e1):=⟨_,get?_update_seq ho λ_=>#[]⟩
 have ho6:(((s.heap.update a (Obj.mapSeq λ_=>(#[]:Array Value))).push (seqObj "tuple" vs.toArray 0)).push (seqObj "list" #[] 0)).get? a=some (seqObj "list" #[] e1):=
  Heap.get?_push_of_some _ (Heap.get?_push_of_some _ ho1)
 have tp:TpIs (((s.heap.update a (Obj.mapSeq λ_=>(#[]:Array Value))).push (seqObj "tuple" vs.toArray 0)).push (seqObj "list" #[] 0)) vs kss:=ht.mono λb o hc hb=>by
  have ne:b≠a:=λz=>by
   rw[z,ho]at hb
   cases hb
   injection hc with hc
   exact absurd hc (by decide)
  refine Heap.get?_push_of_some _ (Heap.get?_push_of_some _ ?_)
  rw[Heap.get?_update_ne _ _ _ _ ne];exact hb
 have hl:=ht.len
 rw[list_sort_plain]
 refine wpAny_bind (listItems_at ho rfl ?_)
 refine wpAny_bind (listUpdate_at ho rfl ?_ (by rw[bQ,sizeLine_eq];lia) (eT _))
 refine wpAny_bind (seqEpoch_at ho1 rfl ?_)
 refine wpAny_bind (wpAny_newTuple ?_ (by show vs.length<=_;rw[sizeLine_eq];lia))
 refine wpAny_bind (wpAny_newList ?_ (eT _))
 refine wpAny_holding ?_
 show wpAny (model prog w) A _ P E {s with heap:=((s.heap.update a (Obj.mapSeq λ_=>(#[]:Array Value))).push (seqObj "tuple" vs.toArray 0)).push (seqObj "list" #[] 0) }
 dsimp only
 by_cases h2:vs.length<2
 ·have hn2:vs.toArray.size<2:=by rw[bQ];exact h2
  rw[if_pos hn2,if_pos hn2]
  refine wpAny_bind (wpAny_pure ?_)
  rw[StateT.run_pure]
  refine wpAny_bind (wpAny_pure ?_)
  dsimp only
  have e0:dR kss=aI vs.length:=by unfold dR;rw[hl,if_pos h2]
  have hlen:(dR kss).length=vs.length:=by rw[e0,eS]
  have hout:(arrOf (SortSt.mk' general' (vs.toArray.zip vs.toArray) #[] 7 none)).map (·.2)=iT ((dR kss).map λi=>vs.getD i Value.none):=by
   apply A9.mp
   rw[e0]
   show((vs.toArray.zip vs.toArray).map (·.2)).toList=_
   rw[Om,ksk_zip]
   rcases vs with _|⟨v,_|⟨v2,r⟩⟩
   ·rfl
   ·rfl
   ·exact absurd h2 (by rw[aW,aW];lia)
  have hsz:(iT ((dR kss).map λi=>vs.getD i Value.none)).size=vs.length:=by rw[bQ,aD,hlen]
  rw[hout]
  refine wpAny_bind (seqEpoch_at ho6 rfl ?_)
  refine wpAny_bind (listUpdate_at ho6 rfl ?_ (eT _) (eQ (Ge hsz) (by rw[sizeLine_eq];lia)))
  simp only[bne_self_eq_false,Ae,if_false]
  exact wpAny_pure (h hlen)
 have hn2:¬vs.toArray.size<2:=by rw[bQ];exact h2
 rw[if_neg hn2,if_neg hn2]
 refine wpAny_bind (KD (s:={s with heap:=((s.heap.update a (Obj.mapSeq λ_=>(#[]:Array Value))).push (seqObj "tuple" vs.toArray 0)).push (seqObj "list" #[] 0) }) tp hk (by lia) ?_)
 have est:SortSt.mk' (tuples' true) (vs.toArray.zip vs.toArray) #[] 7 none=kas_st (tuples' true) (pairsOf vs) (iT (aI vs.length)):=by
  have e:=kas_range (pairsOf vs)
  rw[pairsOf_size]at e
  show SortSt.mk' (tuples' true) (pairsOf vs) #[] 7 none=SortSt.mk' (tuples' true) ((iT (aI vs.length)).map (kas_item (pairsOf vs))) #[] 7 none
  rw[e]
 have run:=kas_runs (prog:=prog) (w:=w) (A:=A) (κ:=(tuples' true)) (it:=pairsOf vs) (E:=E) (s:={s with heap:=((s.heap.update a (Obj.mapSeq λ_=>(#[]:Array Value))).push (seqObj "tuple" vs.toArray 0)).push (seqObj "list" #[] 0) }) (G:=λp s'=>p=cO (λi j=>eV (kss.getD i []) (kss.getD j [])) (kas_sort vs.length)/\s'={s with heap:=((s.heap.update a (Obj.mapSeq λ_=>(#[]:Array Value))).push (seqObj "tuple" vs.toArray 0)).push (seqObj "list" #[] 0) }) (Q:=λ_ st' s'=>∃p:Array Nat,p.size=vs.length/\arrOf st'=p.map (kas_item (pairsOf vs))/\failedOf st'=none/\p=cO (λi j=>eV (kss.getD i []) (kss.getD j [])) (kas_sort vs.length)/\s'={s with heap:=((s.heap.update a (Obj.mapSeq λ_=>(#[]:Array Value))).push (seqObj "tuple" vs.toArray 0)).push (seqObj "list" #[] 0) })
  (by lia) h64 (λp' st' s' a1 a2 a3 a4=>⟨p',a1,a2,a3,a4⟩) (Cp (lt:=λi j=>eV (kss.getD i []) (kss.getD j [])) (λi j C hi hj hC=>by
   rw[<-kas_ask_eq]
   show wpAny (model prog w) A (keyLt' (tuples' true) (vs.getD i Value.none) (vs.getD j Value.none)) C _ _
   exact KF (tp.at i hi) (tp.at j hj) (Cr hk (by lia)) (Cr hk (by lia)) hC) (kas_sort vs.length) (KB (by lia)) ⟨rfl,rfl⟩)
 rw[<-est]at run
 refine wpAny_bind (wpAny_mono run ?_ λ_ _ e=>e)
 rintro⟨⟨⟩,st'⟩ s' ⟨p,hp,har,hf,hpe,rfl⟩
 dsimp only
 have hout:(arrOf st').map (·.2)=iT ((dR kss).map λi=>vs.getD i Value.none):=by
  apply A9.mp
  rw[har,Array.map_map,Om]
  unfold dR vO
  rw[hl,if_neg h2,<-hpe]
  exact gH λi _=>by show(kas_item (pairsOf vs) i).2=_;rw[kas_item_eq]
 have hsz:(iT ((dR kss).map λi=>vs.getD i Value.none)).size=vs.length:=by
  rw[<-hout,On,har,On,hp]
 have hlen:(dR kss).length=vs.length:=by rw[bQ,aD]at hsz;exact hsz
 rw[hout]
 refine wpAny_bind (seqEpoch_at ho6 rfl ?_)
 refine wpAny_bind (listUpdate_at ho6 rfl ?_ (eT _) (eQ (Ge hsz) (by rw[sizeLine_eq];lia)))
 rw[hf]
 simp only[bne_self_eq_false,Ae,if_false]
 exact wpAny_pure (h hlen)
theorem KH{l:Addr}{vs:List Value}{kss:List (List Int)}{Q:Value->Shared->Prop}(hl:s.heap.IsList l vs.toArray)(ht:TpIs s.heap vs kss)(hk:∀k∈kss,k.length=2)(h64:vs.length<64)(hu:A.units+64<cLine)
 (h:(dR kss).length=vs.length->Q (.ref (s.heap.objs.size+1)) {s with heap:=sortedAll s.heap vs (iT ((dR kss).map λi=>vs.getD i Value.none)) }) :
 wpAny (model prog w) A (call (.builtin "sorted") [.ref l]) Q E s:=by
 refine Calls.call_function_entry kind_sorted plain_sorted entry_sorted (args_sorted1 _) ?_
 unfold Builtin.«sorted»
 refine wpAny_bind (m:=checkCount "sorted" 1 1 _) (wpAny_pure ?_)
 refine wpAny_bind (collect_list hl ?_ (by rw[sizeLine_eq];lia))
 refine wpAny_bind (wpAny_newList ?_ (by rw[sizeLine_eq];lia))
 have hsz:((s.heap.push (seqObj "list" #[] 0)).update s.heap.objs.size (Obj.mapSeq (·++vs.toArray))).objs.size=s.heap.objs.size+1:=by
  rw[Heap.size_update,size_push']
 have hoL:(((s.heap.push (seqObj "list" #[] 0)).update s.heap.objs.size (Obj.mapSeq (·++vs.toArray))).push (seqObj "list" vs.toArray 0)).get? (s.heap.objs.size+1)=some (seqObj "list" vs.toArray 0):=by
  rw[<-hsz];exact Heap.get?_push_size _ rfl
 have tp:TpIs (((s.heap.push (seqObj "list" #[] 0)).update s.heap.objs.size (Obj.mapSeq (·++vs.toArray))).push (seqObj "list" vs.toArray 0)) vs kss:=ht.mono λb o _ hb=>by
  refine Heap.get?_push_of_some _ ?_
  rw[Heap.get?_update_ne _ _ _ _ (cC (Heap.lt_size hb))]
  exact Heap.get?_push_of_some _ hb
 show wpAny _ _ _ _ _ {s with heap:=((s.heap.push (seqObj "list" #[] 0)).update s.heap.objs.size (Obj.mapSeq (·++vs.toArray))).push (seqObj "list" vs.toArray 0) }
 rw[hsz]
 refine wpAny_bind (wpAny_holding (wpAny_call_entry slot_list_sort ⟨_,hoL,rfl⟩ entry_list_sort (KG (s:={s with heap:=((s.heap.push (seqObj "list" #[] 0)).update s.heap.objs.size (Obj.mapSeq (·++vs.toArray))).push (seqObj "list" vs.toArray 0) }) hoL tp hk h64 λhp=>⟨_,rfl,?_⟩) (args_list_sort _)))
 exact wpAny_pure ⟨_,rfl,h hp⟩
end
noncomputable def TpV(K:PySem.W.Frag)(H:Hp):List V->List (List Int)->Prop
 |[],kss=>kss=[]
 |v::r,kss=>∃a ks q,v=.ref a/\kss=ks::q/\SqT K H a (ks.map V.int)/\TpV K H r q
theorem Ct{pins:List (Addr×Obj)}{σ:L2.St}{H:Hp}{s:Shared}(I:Inv X pins σ H s):∀{xs:List V} {its:List Value} {kss:List (List Int)},TpV X.K H xs kss->Vals xs its->TpIs s.heap its kss
 |[],its,kss,h,r=>by
  cases r
  exact h
 |v::xs,its,kss,h,r=>by
  obtain⟨a,ks,q,rfl,rfl,h1,h2⟩:=h
  cases r with
  |cons r1 r=>
   cases r1
   obtain⟨its',r',⟨o,e,hc,n,hd⟩,_⟩:=I.tuple h1
   exact⟨ks,q,rfl,⟨a,o,_,n,rfl,e,hc,hd,by simpa using CB r'⟩,Ct I h2 r⟩
theorem Cu:∀{xs:List V} {its:List Value},Vals xs its->∀i,RelV (xs.getD i .non) (its.getD i Value.none)
 |_,_,.nil,i=>by cases i<;>exact rfl
 |_,_,.cons r1 r,0=>r1
 |_,_,.cons r1 r,i+1=>Cu r i
theorem Cv{xs:List V}{its:List Value}(r:Vals xs its):∀ps:List Nat,Vals (ps.map λi=>xs.getD i .non) (ps.map λi=>its.getD i Value.none)
 |[]=>.nil
 |p::ps=>.cons (Cu r p) (Cv r ps)
theorem KI (hR:X.A.units+64<cLine):dB X (.builtin "sorted") (λvs H Q=>∃(a:Addr) (xs:List V) (kss:List (List Int)),vs=[.ref a]/\SqL X.K H a xs/\TpV X.K H xs kss/\(∀k∈kss,k.length=2)/\xs.length<64/\∀l:Addr,H l=none->Q (.ref l) (upd H l (.lst ((dR kss).map λi=>xs.getD i .non)))):=by
 intro pins s σ H vs us Q I rv h
 obtain⟨a,xs,kss,rfl,hS,ht,h2,h64,q⟩:=h
 obtain⟨u,rfl,ru⟩:=rv.one
 cases ru
 obtain⟨its,r,pl,hz⟩:=I.list hS
 have hl:=r.length
 refine KH pl.isList (Ct I ht r) h2 (by lia) hR λhp=>?_
 obtain⟨e,he⟩:=sortedAll_at s.heap its (iT ((dR kss).map λi=>its.getD i Value.none))
 have hge:s.heap.objs.size<=s.heap.objs.size+1:=oS _
 refine⟨.ref (s.heap.objs.size+1),_,I.laid (t':=s.toks) (λb o x=>sortedAll_old x) hge ?_,rfl,q _ (I.hok.fresh hge)⟩
 exact⟨by rw[aD,hp,sizeLine_eq];lia,_,e,Cv r _,he⟩
end Tr
namespace Tr
open PySem PySem.Spec PyProof.Rows L2
variable{O:Addr->Prop}{H:Hp}{K:PySem.W.Frag}
section
variable{prog:Program}{w:World}{A:Around}{s:Shared}{d:Addr}{es:Array DictEntry}{ep:Nat}
end
theorem Cw:∀{ds:List D} {kss:List (List Int)} {xs:List V},kK ds=.ok kss->RDs K H O ds xs->TpV K H xs kss
 |[],kss,xs,h,r=>by
  cases h
  cases (show xs=[]from r)
  exact rfl
 |.tup ks::ds,kss,xs,h,r=>by
  obtain⟨a,e1,h⟩:=Res.bind_ok (show(gP ks>>=λa=>kK ds>>=λq=>Res.ok (a::q))=.ok kss from h)
  obtain⟨q,e2,h⟩:=Res.bind_ok h
  cases h
  obtain⟨v,r',rfl,⟨b,ys,rfl,h1,h2⟩,h3⟩:=r
  rw[wH e1 h2]at h1
  exact⟨b,a,q,rfl,rfl,h1.sq,Cw e2 h3⟩
 |.non::_,_,_,h,_ | .bl _::_,_,_,h,_ | .int _::_,_,_,h,_ | .str _::_,_,_,h,_ | .lst _::_,_,_,h,_=>by cases h
theorem Cy:∀{ds:List D} {xs:List V},RDs K H O ds xs->∀i,RD K H O (ds.getD i .non) (xs.getD i .non)
 |[],xs,h,i=>by
  cases (show xs=[]from h)
  cases i<;>exact rfl
 |d::ds,xs,h,0=>by
  obtain⟨v,r,rfl,h1,_⟩:=h
  exact h1
 |d::ds,xs,h,i+1=>by
  obtain⟨v,r,rfl,_,h2⟩:=h
  exact Cy h2 i
theorem Cz{ds:List D}{xs:List V}(h:RDs K H O ds xs):∀ps:List Nat,RDs K H O (ps.map λi=>ds.getD i .non) (ps.map λi=>xs.getD i .non)
 |[]=>rfl
 |p::ps=>⟨_,_,rfl,Cy h p,Cz h ps⟩
section
variable{T:Tab}{cf:Nat->List D->Res D}{X:Cx}{x:E}{p:Expr}{pos:Pos}
theorem KJ {pn:Pos} (hR:gW X) (hm1:X.mg "sorted" = none) (hg1:Gl X "sorted") (hp:bM p=true) (ha:SR T cf X x p):SE T cf X (.srtT x) (.Call (.Name "sorted" pn) [p] [] pos):=λH_h O_h=>by
 refine PE.imp (λσ H Q hq=>?_) (mX (KI hR) hg1 hm1 (by decide +kernel) (dC (ha H_h O_h) eG (bD hp)) (by decide) (by decide) (bD hp) rfl)
 obtain⟨O,own,e,d,F,ev,k⟩:=hq
 (first|rw[B4]at ev|rw[lN]at ev)
 obtain⟨d1,e1,ev1⟩:=Res.bind_ok ev
 refine⟨O,own,e,d1,F,e1,λv1 H1 s1 r1=>?_⟩
 cases d1 with
 |lst ds=>
  obtain⟨kss,e2,ev2⟩:=Res.bind_ok (show(kK ds>>=_)=Res.ok d from ev1)
  obtain⟨a,xs,rfl,q1,w1⟩:=r1.lst
  obtain⟨c,ev3⟩:=bO ev2
  cases ev3
  rw[aM,decide_eq_true_eq]at c
  have hl:=w1.length
  refine⟨a,xs,_,rfl,q1,Cw e2 w1,λk hk=>by simpa using gO.mp c.1 k hk,by lia,λl hl=>?_⟩
  have z:=λps=>nC (K:=X.K) (O:=O) (Cz w1 ps) hl (F.grow s1).trk
  exact k _ _ (s1.trans (dD hl _)) (z _).1 λ_=>(z _).2.back s1
 |_=>cases ev1
end
end Tr
namespace Tr
open PySem PySem.Spec PyProof.Rows L2 PySem.W
section
variable{P:Program}{w:World}{K:PySem.W.Frag}{mg:Str->Option Value}{base:Heap}
end
section
variable{X:Cx}{pins:List (Addr×Obj)}{σ:L2.St}{H:Hp}{s:Shared}
end
section
variable{prog:Program}{w:World}{A:Around}{E:Value->Shared->Prop}{s:Shared}
end
section
variable{X:Cx}{pins:List (Addr×Obj)}{σ:L2.St}{H:Hp}{s:Shared}
end
section
variable{X:Cx}{pins:List (Addr×Obj)}{σ:L2.St}{H:Hp}{s:Shared}
end
noncomputable def LamX (X:Cx) (p:Pos):Prop:=Room 2 X.A/\∃c0 P,X.env.code=.ref c0/\codeHdIn X.K c0 P=true/\(P,p,X.env.qual ++ "<lambda>")∈oZ X.K
section
variable{T:Tab}{cf:Nat->List D->Res D}{X:Cx}{y:E}{p:Expr}{pos cpos pn kp lp:Pos}
end
end Tr
namespace Tr
open PySem PySem.Spec PyProof.Rows L2
variable{F:List D->Res D}{i:Nat}{K:PySem.W.Frag}
section
variable{T:Tab}{cf:Nat->List D->Res D}{X:Cx}{x y z:E}{p q r tg:Expr}{pos pos':Pos}{es:List Expr}
noncomputable def spM(K:PySem.W.Frag)(j:Nat)(F:List D->Res D)(fr:Bool):Sp:=λvs H Q E=>∃O ds Hb d0 v0,Same Hb H/\Trk K Hb O/\RDs K H O ds vs/\ds[j]?=some d0/\vs[j]?=some v0/\NV K H O d0 v0/\(∀a,v0=.ref a->Hb a=none) /\
 ((∃d,F ds=.ok d/\∀v H',Same Hb H'->RD K H' O d v->(fr=true->NewR K Hb H' O d v)->Q v H')\/∃c d,F ds=.err c d/\∀od H',Same Hb H'->wF d od H'->E (cvK K c) od H')
noncomputable def wU(a b:Addr)(H H':Hp):Prop:=∀c o,c≠a->c≠b->H c=some o->H' c=some o
noncomputable def spR(K:PySem.W.Frag)(F:List D->Res D)(vs:List V)(H:Hp)(Q:VK)(_:XK):Prop:=∃(O:Addr->Prop)(y:D)(j k:List D)(w:V)(a b:Addr)(j' k':List D),
 vs=[.ref a,.ref b,w]/\a≠b/\(O a/\O b/\Trk K H O)/\(RD K H O y w/\OwnAt K H O a (.lst j)/\OwnAt K H O b (.lst k))/\F [.tup [.int (a:Nat),.lst j],.tup [.int (b:Nat),.lst k],y]=.ok (.tup [.lst j',.lst k']) /\
 ∀H',wU a b H H'->OwnAt K H' O a (.lst j')->OwnAt K H' O b (.lst k')->Q .non H'
noncomputable def iF(K:PySem.W.Frag)(T:Tab)(F:List D->Res D)(i:Nat):Sp:=match T.mv i with
 |none=>spD K F (T.fresh i)
 |some j=>if j=1000 then spR K F else spM K j F (T.fresh i)
theorem pK(h:T.mv i=none):iF K T F i=spD K F (T.fresh i):=by unfold iF;rw[h]
theorem DA{j:Nat}(h:T.mv i=some j)(hj:¬j=1000):iF K T F i=spM K j F (T.fresh i):=by unfold iF;rw[h];exact if_neg hj
theorem wV(h:T.mv i=some 1000):iF K T F i=spR K F:=by unfold iF;rw[h];exact if_pos rfl
noncomputable def wW(T:Tab)(cf:Nat->List D->Res D)(X:Cx)(f:Nat)(n:Str):Prop:=
 ∃k a fd ps,FnOk X.prog X.w X.K X.mg X.base (CXE X.prog X.w) k a fd ps (iF X.K T (cf f) f)/\Room k X.A/\X.mg n=some (.ref a)/\PySem.W.keepIn X.K (.ref a)=true/\Binds X.K fd ps []
end
end Tr
namespace Tr
open PySem PySem.Spec PyProof.Rows L2
section
variable{prog:Program}{w:World}
variable{A:Around}{R:Result->Shared->Prop}{I:Addr}{fp wr:List Addr}{G:Array GenState->Array GenState->Prop}{n:Nat}{P:Nat->Value->Prop}{St:Nat->Shared->Prop}
end
section
variable{prog:Program}{w:World}{A:Around}{E:Value->Shared->Prop}{s:Shared}
end
variable{K:PySem.W.Frag}
section
variable{T:Tab}{cf:Nat->List D->Res D}{X:Cx}{x y z:E}{p q r tg:Expr}{pos pos':Pos}{es:List Expr}
noncomputable def Itv(K:PySem.W.Frag)(a:Addr)(n:Nat):It:=
 ⟨λi H=>i<n/\∃xs,SqL K H a xs/\xs.length=n,λi H x H'=>H'=H/\∀xs,SqL K H a xs->xs[n-1-i]?=some x,λi H=>n<=i/\∃xs,SqL K H a xs/\xs.length=n⟩
theorem KL{P:Program}{w:World}{tg:Expr}(a it:Addr)(n:Nat):Turn P w K tg (Itv K a n) [it] it (λi h=>i<=n/\h.IsRevIter it a ((n:Int)-1-(i:Int))) where
 mem:=by simp
 obj:=λi h st b hb=>by
  have e:b=it:=by simpa using hb
  subst e
  obtain⟨_,o,e,c,d⟩:=st
  exact⟨o,e,λv z=>by rw[d]at z;cases z⟩
 keep:=λi h h' st k=>⟨st.1,st.2.at λo e=>k it (by simp) o e⟩
 item:=by
  intro X hP hw hK hc i pins s σ H E I hf st hg
  subst hP hw hK
  obtain⟨_,st⟩:=st
  obtain⟨hi,xs,hq,hx⟩:=hg
  obtain⟨its,rv,p,hz⟩:=I.list hq
  obtain⟨x,hx'⟩:∃x,xs[n-1-i]?=some x:=⟨_,aR (by lia)⟩
  obtain⟨u,hu,ru⟩:=rv.get hx'
  obtain⟨f0,f1,f2,f3,f4,f5⟩:=hf it (by simp)
  have ei:(n:Int)-1-(i:Int)=((n-1-i:Nat):Int):=by lia
  rw[ei]at st
  refine wpAny_pyNext_rev_item st p.isList (x:=u) (by simpa using hu) λh' st' sb=>?_
  have I1:Inv X pins σ H {s with heap:=h' }:=I.turned (t':=s.toks) (λb o hb e=>(sb.2 b hb).trans e) f0 f1 f3 f4 f5
  have ei2:((n-1-i:Nat):Int)-1=(n:Int)-1-((i+1:Nat):Int):=by lia
  rw[ei2]at st'
  obtain⟨o,e,c,d⟩:=id st'
  exact⟨u,rfl,oU (s:={s with heap:=h' }) e c d (by decide) ⟨x,H,I1,ru,⟨rfl,λys hy=>by rw[I.list_inj hy hq];exact hx'⟩,⟨hi,st'⟩,λb hb=>(hf b hb).1⟩⟩
 done:=by
  intro X hP hw hK hc i pins s σ H E I hf st hg
  subst hP hw hK
  obtain⟨hi,st⟩:=st
  obtain⟨hi2,xs,hq,hx⟩:=hg
  have ei:i=n:=Nat.le_antisymm hi hi2
  subst ei
  obtain⟨f0,f1,f2,f3,f4,f5⟩:=hf it (by simp)
  rw[show(i:Int)-1-(i:Int) = -1 by lia]at st
  exact wpAny_pyNext_rev_end (I.ok.hd hc) st λh' eb=>⟨rfl,I.turned (t':=s.toks) (λb o hb e=>eb b o hb e) f0 f1 f3 f4 f5⟩
 self:=λ_ _ _ _ _ st h=>wpAny_pyIter_revIter st.2 h
theorem wk_rev{a:Addr}{ds:List D}:Wk1 K (Itv K a ds.length) (.lst ds) (.ref a) ds.reverse:=by
 intro i H O r
 obtain⟨a',xs,e,q,w⟩:=r.lst
 cases e
 have hl:=w.length
 refine⟨λh=>?_,λh=>?_,λx H' d hd y=>?_⟩
 ·rw[Ag]at h
  exact⟨h,xs,q,hl⟩
 ·rw[Ag]at h
  exact⟨h,xs,q,hl⟩
 ·obtain⟨rfl,y⟩:=y
  refine⟨Same.refl _,?_⟩
  have hi:i<ds.length:=by have:=(fE.mp hd).1;rw[Ag]at this;exact this
  rw[List.getElem?_reverse hi]at hd
  obtain⟨v,h1,h2⟩:=w.get hd
  have:=(y xs q).symm.trans h1
  cases this
  exact h2
theorem KM:bootBuiltins "reversed" = some (.type "reversed"):=by decide +kernel
theorem KN {rd:Bool} {n:Str} {pn:Pos} (hn:n = "reversed") (hg:Gl X n) (hm:X.mg "reversed" = none) (hp:bM p=true) (hv:SE T cf X x p):SI T cf X tg (.seqD x) rd (.Call (.Name n pn) [p] [] pos):=by
 intro H_h O_h pins s σ H R I h
 subst hn
 obtain⟨O,own,e,ds,F,ev,k⟩:=h
 replace k:=pG k
 rw[B3]at ev
 obtain⟨d1,e1,ev⟩:=Res.bind_ok ev
 refine Call_ (lI I hg hm KM (PyProof.Rows.callWith_type1 (thn (dC (hv H_h O_h) eG (bD hp) pos pins s σ H (λvs H1=>∃v,vs=[v]/\Same H H1/\RD X.K H1 O d1 v) I ⟨O,own,e,d1,F,e1,λv H' s' r _=>⟨v,rfl,s',r⟩⟩) λus s1 ⟨vs,H1,I1,r1,v,e0,s1',rr⟩=>?_) (bD hp) rfl))
 subst e0
 cases r1 with
 |cons r1 rn=>
  cases rn
  cases d1 with
  |lst dl=>
   cases (show Res.ok _=Res.ok ds from ev)
   obtain⟨a,xs,e,q1,w1⟩:=rr.rr.lst
   subst e
   cases r1
   obtain⟨its,r',pl,hz⟩:=I1.list q1
   refine call_reversed_list pl.isList ?_
   have hl:(its.toArray.size:Int)=(dl.length:Int):=by have:=r'.length;have:=w1.length;simp;lia
   refine wpAny_pyIter_revIter (it:=s1.heap.objs.size) (l:=a) ⟨_,Heap.get?_push_size _ rfl,rfl,rfl⟩ ?_
   refine⟨s1.heap.objs.size,[s1.heap.objs.size],_,Itv X.K a dl.length,H1,rfl,I1.kept (t':=s1.toks) λb u e=>Heap.get?_push_of_some _ e,KL a _ _,⟨eT _,_,Heap.get?_push_size _ rfl,rfl,?_⟩,λb hb=>?_,k _ H1 _ _ s1' rr.rr (λ_=>rr) wk_rev⟩
   ·rw[show(dl.length:Int)-1-((0:Nat):Int)=(dl.length:Int)-1 by lia,<-hl]
    rfl
   ·rcases bL.mp hb with rfl|hb
    ·exact I1.fpOk (aN _) (I1.hok.fresh (aN _))
    ·cases hb
  |_=>cases ev
end
end Tr
namespace Tr
open PySem PySem.Spec PyProof.Rows L2 PySem.SeqAt AutoSeq1 MeetsSeq MeetsSeq2 MeetsSeq3 SeqRoads2
theorem KO(l:Addr)(items:Array Value)(n:Nat)(x:Value)(e:Value->Bool)(j:Nat)(hj:j<items.size)(hit:e items[j]=true)(hs1:items.size<=sizeLine)(k:Nat) :
 ∀i:Nat,j-i=k->i<=j->(∀m (hm:m<items.size),i<=m->m<j->e items[m]=false)->Meets (Builtin.«list.remove.loop» ⟨[.ref l,x,rawInt i],[]⟩)
  (λA R s=>s.heap.get? l=some {cls:=.type "list", dict:=none,data:=.seq items n,slots:=#[] }/\(∀y,y∈items->EqAt A.in1 s y x (e y))/\R (.ok (.ret .none)) {s with heap:=s.heap.update l (Obj.mapSeq λxs=>xs.eraseIdxIfInBounds j) }):=by
 induction k with
 |zero=>
  intro i hk hij hno prog w A R s h
  obtain⟨hp,g,d,tk,os⟩:=s;obtain⟨hl,he,h⟩:=h
  have hij':i=j:=by lia
  subst hij'
  wp_walk using wpAny_loadPart' hl
  have hi:items[((i:Nat):Int).toNat]?=some items[i]:=by simp[hj]
  rw[hi]
  refine wpAny_bind (he _ (Oo hj) prog w _ _ ?_)
  rw[hit]
  have hz':(items.eraseIdxIfInBounds i).size<=sizeLine+1:=eQ (size_erased items _) (Oi hs1)
  wp_walk using(wpAny_updateSeq hl rfl (hz:=hs1) (_hz':=hz')),wpAny_loadPart' hl
  simpa using h
 |succ k ih=>
  intro i hk hij hno prog w A R s h
  obtain⟨hp,g,d,tk,os⟩:=s;obtain⟨hl,he,h⟩:=h
  have hlt:i<items.size:=by lia
  wp_walk using wpAny_loadPart' hl
  have hi:items[((i:Nat):Int).toNat]?=some items[i]:=by simp[hlt]
  have hc:((i:Int)+1)=((i+1:Nat):Int):=by push_cast;rfl
  rw[hi]
  refine wpAny_bind (he _ (Oo hlt) prog w _ _ ?_)
  rw[hno i hlt (aN _) (by lia)]
  wp_walk
  rw[hc]
  exact⟨plainId_quiet plain_remove_loop _,codeAny_builtin entry_remove_loop (by
   rw[Around.under_plainId plain_remove_loop _]
   exact ih (i+1) (by lia) (by lia) (λm hm h1 h2=>hno m hm (by lia) h2) prog w A R _ ⟨hl,he,h⟩)⟩
theorem KP(l:Addr)(items:Array Value)(n:Nat)(x:Value)(e:Value->Bool)(j:Nat)(hj:j<items.size)(hit:e items[j]=true)(hno:∀m (hm:m<items.size),m<j->e items[m]=false)(hs1:items.size<=sizeLine) :
 Meets (Builtin.«list.remove» ⟨[.ref l,x],[]⟩)
  (λA R s=>s.heap.get? l=some {cls:=.type "list", dict:=none,data:=.seq items n,slots:=#[] }/\(∀y,y∈items->EqAt A.in1 s y x (e y))/\R (.ok (.ret .none)) {s with heap:=s.heap.update l (Obj.mapSeq λxs=>xs.eraseIdxIfInBounds j) }):=by
 intro prog w A R s h
 obtain⟨hp,g,d,tk,os⟩:=s;obtain⟨hl,he,h⟩:=h
 wp_walk using wpAny_loadPart' hl
 exact⟨plainId_quiet plain_remove_loop _,codeAny_builtin entry_remove_loop (by
  rw[Around.under_plainId plain_remove_loop _]
  exact KO l items n x e j hj hit hs1 _ 0 rfl (eT _) (λm hm _ h2=>hno m hm h2) prog w A R _ ⟨hl,he,h⟩)⟩
section
variable{X:Cx}
theorem DB{H:Hp}{s:Shared}{pins:List (Addr×Obj)}{σ:L2.St}(I:Inv X pins σ H s){x:D}:∀{ds:List D} {xs:List V} {us:List Value},RDs X.K H no ds xs->Vals xs us->D.mem x ds=true ->
 ∃h:plD x ds<us.length,seen X H s x us[plD x ds]=true/\∀m (hm:m<us.length),m<plD x ds->seen X H s x us[m]=false
 |[],xs,us,w,r,f=>nomatch f
 |d::ds,xs,us,w,r,f=>by
  obtain⟨v,ys,rfl,e1,e2⟩:=w
  cases r with
  |cons a1 r1=>
   have sd:=lO I e1 a1
   cases c:D.eqb d x with
   |true=>
    have e0:plD x (d::ds)=0:=by rw[plD,c];rfl
    refine⟨by rw[e0];exact Nat.zero_lt_succ _,?_,λm hm h=>by rw[e0]at h;exact absurd h (rH _)⟩
    simp only[e0,Oq]
    rw[sI I sd];exact c
   |false=>
    have e0:plD x (d::ds)=plD x ds+1:=by rw[plD,c];rfl
    have f':D.mem x ds=true:=by
     have f:(D.eqb d x||D.mem x ds)=true:=f
     rw[c]at f;exact f
    obtain⟨h1,h2,h3⟩:=DB I e2 r1 f'
    refine⟨by rw[e0];exact Nat.succ_lt_succ h1,?_,λm hm h=>?_⟩
    ·simp only[e0,Os];exact h2
    ·cases m with
     |zero=>rw[Oq,sI I sd];exact c
     |succ m=>rw[Os];exact h3 m (uV hm) (by rw[e0]at h;exact uV h)
noncomputable def KQ(X:Cx):V->List V->Hp->VK->Prop:=λx vs H Q=>∃(l:Addr)(xs:List V)(y:V)(O:Addr->Prop)(d:D)(ds:List D),x=.ref l/\vs=[y]/\H l=some (.lst xs)/\RD X.K H O d y/\RDs X.K H O ds xs/\D.pl 29 d=true/\D.pls 30 ds=true/\D.mem d ds=true/\Q .non (upd H l (.lst (xs.eraseIdx (plD d ds))))
theorem KR (hr:gW X):MtM X "list.remove" (KQ X):=by
 intro pins s σ H x vs v us Q I rx rv h
 obtain⟨l,xs,y,O,d,ds,rfl,rfl,hH,rd,rds,p1,p2,hm,q⟩:=h
 have hr':X.A.units+64<cLine:=hr
 cases rx
 obtain⟨u,rfl,ru⟩:=rv.one
 obtain⟨z,its,n,r,hl,e⟩:=I.lstM hH
 have rd':=rd.weak (O':=no) λ_ z=>z.elim
 have rds':=rds.weak (O':=no) λ_ z=>z.elim
 have sx:=lO I rd' ru
 have t:=nE I (n:=29) (A:=X.A.in1) sx p1 (by show X.A.units+1+29<cLine;lia) rds' r p2
 obtain⟨k1,k2,k3⟩:=DB I rds' r hm
 refine call_meets PySem.F.slot_list_remove ⟨_,e,rfl⟩ PySem.F.entry_list_remove (PySem.F.args_list_remove_2 _ _) (KP l its.toArray n u (seen X H s d) (plD d ds) (by simpa using k1) (by simpa using k2) (λm hm h=>by simpa using k3 m (by simpa using hm) h) (by rw[bQ];lia)) ⟨e,λw hw=>t.1 w (by simpa using hw),?_⟩
 refine⟨.non,_,I.lset (its':=its.eraseIdx (plD d ds)) hH e ?_ (r.eraseIdx _) ?_,rfl,q⟩
 ·show its.toArray.eraseIdxIfInBounds (plD d ds)=(its.eraseIdx (plD d ds)).toArray
  rw[List.eraseIdxIfInBounds_toArray]
 ·exact eQ (List.length_eraseIdx_le ..) z
end
end Tr
namespace Tr
open PySem PySem.Spec PyProof.Rows L2
variable{a b:Addr}{i:Nat}{g:Nat×List D}{apos cpos px:Pos}{n:Str}
section
variable{K:PySem.W.Frag}{H_h H H':Hp}{O_h O:Addr->Prop}{own:Nat->Option Addr}{e:Nv}{σ:L2.St}
theorem KS{u1 u2 n1 n2:HO}(ab:a≠b)(h1:H a=some u1)(h2:H b=some u2)(g1:H' a=some n1)(g2:H' b=some n2)(s:wU a b H H') :
 Same H (upd (upd H' a u1) b u2)/\upd (upd (upd (upd H' a u1) b u2) a n1) b n2=H'/\upd (upd (upd H' a u1) b u2) a n1=upd H' b u2:=by
 refine⟨λc o q=>?_,funext λc=>?_,funext λc=>?_⟩
 ·by_cases z2:c=b
  ·subst z2;rw[cW,<-h2,q]
  ·rw[bC z2]
   by_cases z1:c=a
   ·subst z1;rw[cW,<-h1,q]
   ·rw[bC z1];exact s c o z1 z2 q
 ·by_cases z2:c=b
  ·subst z2;rw[cW,g2]
  ·rw[bC z2]
   by_cases z1:c=a
   ·subst z1;rw[cW,g1]
   ·rw[bC z1,bC z2,bC z1]
 ·by_cases z1:c=a
  ·subst z1;rw[cW,bC ab,g1]
  ·rw[bC z1]
   by_cases z2:c=b
   ·subst z2;rw[cW,cW]
   ·rw[bC z2,bC z2,bC z1]
theorem Sl.refL_ok{x:Sl}(h:x.refL=.ok g):x=.r g.1 (.lst g.2):=by
 unfold Sl.refL at h
 split at h
 ·cases h;rfl
 ·cases h
theorem Fm.ref(F:Fm K H_h O_h H O own e σ)(h:(e.at i).refL=.ok g):∃xs,cQ σ i=some (.ref g.1)/\H g.1=some (.lst xs)/\RDs K H O g.2 xs/\O g.1 /\
 ∀ds' xs',RDs K H O ds' xs'->Fm K H_h O_h (upd H g.1 (.lst xs')) O own (e.set i (.r g.1 (.lst ds'))) σ:=by
 have q:=F.sl i
 have hi:=Sl.refL_ok h
 rw[hi]at q
 obtain⟨e1,e2,xs,h1,h2⟩:=q
 have hn:=F.new i _ e1
 have hlen:i<e.length:=by
  by_cases h:i<e.length
  ·exact h
  ·rw[jN h]at hi;cases hi
 refine⟨xs,e2,h1,h2,hn.1,λds' xs' r=>⟨by rw[fG];exact F.len,λj=>?_,F.inj,λb u hb=>?_,F.sub,F.trk0,λa ha=>?_,F.new,vW (λd z=>by cases z) F.nw⟩⟩
 ·by_cases h:i=j
  ·subst h
   rw[kO hlen,e2]
   exact⟨e1,rfl,xs',cW,r.upd hn.1 h1⟩
  ·rw[gR h]
   refine RS.map (λq=>q.updM hn.1 h1 trivial) (λq=>q.updM hn.1 h1 trivial) (λa u ea _ q=>?_) (F.sl j) (vX hn.1) (iW (K:=K) hn.1 h1 trivial).1
   have:a≠g.1:=λz=>h (F.inj i j g.1 e1 (z▸ea))
   rw[bC this];exact q
 ·rw[bC (λz=>by rw[z,hn.2]at hb;cases hb)];exact F.same b u hb
 ·by_cases h:a=g.1
  ·subst h;exact⟨_,cW⟩
  ·obtain⟨ys,q⟩:=F.trk a ha
   exact⟨ys,by rw[bC h];exact q⟩
theorem Fm.ownA(F:Fm K H_h O_h H O own e σ){ds:List D}(hi:e.at i=.o (.lst ds)):∃a,own i=some a/\cQ σ i=some (.ref a)/\OwnAt K H O a (.lst ds)/\O a:=by
 have q:=F.sl i
 rw[hi]at q
 obtain⟨a,e1,e2,h1⟩:=q
 exact⟨a,e1,e2,h1,(F.new i a e1).1⟩
theorem Fm.mut2(F:Fm K H_h O_h H O own e σ){j:Nat}(ij:i≠j){g h g' h':List D}(hi:e.at i=.o (.lst g))(hj:e.at j=.o (.lst h))(ea:own i=some a)(eb:own j=some b)(s:wU a b H H')(oa:OwnAt K H' O a (.lst g'))(ob:OwnAt K H' O b (.lst h')) :
 Fm K H_h O_h H' O own ((e.set i (.o (.lst g'))).set j (.o (.lst h'))) σ/\∀t,PinOk K H O t->PinOk K H' O t:=by
 obtain⟨a',ea',sa,⟨u1,w1,_⟩,hn1⟩:=F.ownA hi
 rw[ea]at ea';cases ea'
 obtain⟨b',eb',sb,⟨u2,w2,_⟩,hn2⟩:=F.ownA hj
 rw[eb]at eb';cases eb'
 have ab:a≠b:=λz=>ij (F.inj i j a ea (z▸eb))
 obtain⟨ps1,g1,r1⟩:=oa
 obtain⟨ps2,g2,r2⟩:=ob
 obtain⟨s1,eq,eq2⟩:=KS ab w1 w2 g1 g2 s
 have F0:=F.grow s1
 obtain⟨p,xs,f1,f2,f3,f4,f5⟩:=F0.mut i hi
 have ep:p=a:=by rw[sa]at f1;cases f1;rfl
 subst ep
 have x2:upd (upd H' p (.lst u1)) b (.lst u2) b=some (.lst u2):=cW
 have gb:upd H' p (.lst u1) b=some (.lst ps2):=by rw[bC (Ne.symm ab)];exact g2
 have F1:=f5 g' ps1 ((r1.updM hn1 g1 trivial).updM hn2 gb trivial)
 rw[eq2]at F1
 obtain⟨q,ys,k1,k2,k3,k4,k5⟩:=F1.mut j (ds:=h) (by rw[gR ij];exact hj)
 have eq':q=b:=by rw[sb]at k1;cases k1;rfl
 subst eq'
 have F2:=k5 h' ps2 (r2.updM hn2 g2 trivial)
 have e3:upd (upd H' q (.lst u2)) q (.lst ps2)=H':=by rw[<-eq2];exact eq
 rw[e3]at F2
 refine⟨F2,λt ht=>?_⟩
 have y2:upd (upd (upd H' p (.lst u1)) q (.lst u2)) p (.lst ps1) q=some (.lst u2):=by rw[bC (Ne.symm ab)];exact x2
 have z:=((ht.same s1).updM hn1 f2 trivial (o':=.lst ps1)).updM hn2 y2 trivial (o':=.lst ps2)
 rw[eq]at z
 exact z
end
section
variable{T:Tab}{cf:Nat->List D->Res D}{X:Cx}{x:E}{p q:Expr}{pos pos':Pos}
theorem KU {nm:Str} (hN:X.N[i]?=some n) (hv:Vis X.env.scope n) (hd:(n==("__debug__" : Str))=false) (hc:(n==("__classdict__" : Str))=false) (hnm:nm = "append") (hline:(apos.endLine==cpos.line)=true) (hp:bM p=true) (h:SE T cf X x p) :
 SS T cf X (.appR i x) (.Expr (.Call (.Attribute (.Name n px) nm apos) [p] [] cpos) pos):=λH_h O_h=>by
 subst hnm
 refine PS.imp (λD' σ H hq=>?_) (mT (lJ PySem.F.plainAttrs_list PySem.F.slot_list_append PySem.F.type_list_append vI (jL hN hv hd hc) (dC (h H_h O_h) eG (bD hp)) rfl (by rw[bD hp];rfl) hline (bD hp) rfl) rfl)
 obtain⟨ts,e,out,⟨O,own,F,tt⟩,ev,k⟩:=hq
 rw[Bb]at ev
 obtain⟨d,e1,ev⟩:=Res.bind_ok ev
 obtain⟨l,e2,ev⟩:=Res.bind_ok ev
 obtain⟨c,ev⟩:=bO ev
 cases ev
 obtain⟨xs0,f1,f2,f3,f4,f5⟩:=F.ref e2
 refine⟨.ref l.1,gA f1,.inl ⟨rfl,xs0,.of f2⟩,O,own,e,d,F,e1,λv H' s' r _=>?_⟩
 obtain⟨xs1,g1,g2,g3,g4,g5⟩:=(F.grow s').ref e2
 refine⟨l.1,xs1,v,rfl,rfl,g2,by rw[g3.length,<-gU];exact of_decide_eq_true c,?_⟩
 exact k _ _ ⟨O,own,g5 _ _ (g3.append ⟨v,[],rfl,r,rfl⟩),λt ht=>((tt t ht).same s').upd g4 g2⟩
theorem DC{K:PySem.W.Frag}{H:Hp}{O:Addr->Prop}:∀{ds:List D} {xs:List V} (n:Nat),RDs K H O ds xs->RDs K H O (ds.eraseIdx n) (xs.eraseIdx n)
 |[],xs,n,w=>by rw[RDs]at w;subst w;exact rfl
 |d::ds,xs,0,w=>by obtain⟨v,ys,rfl,e1,e2⟩:=w;exact e2
 |d::ds,xs,n+1,w=>by obtain⟨v,ys,rfl,e1,e2⟩:=w;exact⟨v,_,rfl,e1,DC n e2⟩
theorem KW {nm:Str} (hR:gW X) (hN:X.N[i]?=some n) (hv:Vis X.env.scope n) (hd:(n==("__debug__" : Str))=false) (hc:(n==("__classdict__" : Str))=false) (hnm:nm = "remove") (hline:(apos.endLine==cpos.line)=true) (hp:bM p=true) (h:SE T cf X x p) :
 SS T cf X (.remR i x) (.Expr (.Call (.Attribute (.Name n px) nm apos) [p] [] cpos) pos):=λH_h O_h=>by
 subst hnm
 refine PS.imp (λD' σ H hq=>?_) (mT (lJ PySem.F.plainAttrs_list PySem.F.slot_list_remove PySem.F.type_list_remove (KR hR) (jL hN hv hd hc) (dC (h H_h O_h) eG (bD hp)) rfl (by rw[bD hp];rfl) hline (bD hp) rfl) rfl)
 obtain⟨ts,e,out,⟨O,own,F,tt⟩,ev,k⟩:=hq
 rw[Bc]at ev
 obtain⟨d,e1,ev⟩:=Res.bind_ok ev
 obtain⟨l,e2,ev⟩:=Res.bind_ok ev
 obtain⟨c,ev⟩:=bO ev
 rw[aM,aM]at c
 cases ev
 obtain⟨xs0,f1,f2,f3,f4,f5⟩:=F.ref e2
 refine⟨.ref l.1,gA f1,.inl ⟨rfl,xs0,.of f2⟩,O,own,e,d,F,e1,λv H' s' r _=>?_⟩
 obtain⟨xs1,g1,g2,g3,g4,g5⟩:=(F.grow s').ref e2
 refine⟨l.1,xs1,v,O,d,l.2,rfl,rfl,g2,r,g3,c.1.1,c.1.2,c.2,?_⟩
 exact k _ _ ⟨O,own,g5 _ _ (DC _ g3),λt ht=>((tt t ht).same s').upd g4 g2⟩
theorem KY {f i j:Nat} {n n1 n2:Str} {pn p1 p2:Pos} (hd:wW T cf X f n) (hg:Gl X n) (hdb:(n==("__debug__" : Str))=false) (hq:bM q=true)
 (h1:X.N[i]?=some n1/\Vis X.env.scope n1/\(n1==("__debug__" : Str))=false/\(n1==("__classdict__" : Str))=false) (h2:X.N[j]?=some n2/\Vis X.env.scope n2/\(n2==("__debug__" : Str))=false/\(n2==("__classdict__" : Str))=false)
 (hx:SE T cf X x q):SS T cf X (.laid f i j x) (.Expr (.Call (.Name n pn) [.Name n1 p1,.Name n2 p2,q] [] pos) pos'):=λH_h O_h=>by
 intro D' pins s σ H I hq0
 obtain⟨ts,e,out,⟨O,own,F,tt⟩,ev,k⟩:=hq0
 (first|rw[B_]at ev|rw[Bd]at ev)
 obtain⟨c,ev⟩:=bO ev
 rw[aM,decide_eq_true_eq,decide_eq_true_eq]at c
 obtain⟨k0,a,fd,ps,Fk,hr,hm,hk,hb⟩:=hd
 rw[wV c.1]at Fk
 have hA:=dC (jL (pos:=p1) h1.1 h1.2.1 h1.2.2.1 h1.2.2.2) (dC (jL (pos:=p2) h2.1 h2.2.1 h2.2.2.1 h2.2.2.2) (dC (hx H_h O_h) eG (bD hq)))
 obtain⟨g,e1,ev⟩:=Res.bind_ok ev
 obtain⟨h,e2,ev⟩:=Res.bind_ok ev
 obtain⟨d,e3,ev⟩:=Res.bind_ok ev
 obtain⟨r,e4,ev⟩:=Res.bind_ok ev
 cases ev
 refine(mT (Ax Fk hr hg hm hk hb .nil sC hA hdb rfl (iE (by simp[hq];rfl))) rfl) D' pins s σ H I ?_
 obtain⟨pa,fa,ga,oa,na⟩:=F.ownA (Sl.own_ok e1)
 obtain⟨pb,fb,gb,ob,nb⟩:=F.ownA (Sl.own_ok e2)
 have ab:pa≠pb:=λz=>c.2 (F.inj i j pa fa (z▸fb))
 refine⟨.ref pa,gA ga,.ref pb,gA gb,O,own,e,d,F,e3,λv4 H4 s4 r4 _=>?_⟩
 have F4:=F.grow s4
 refine⟨O,d,g,h,v4,pa,pb,r.1,r.2,rfl,ab,⟨na,nb,F4.trk,F4.tab⟩,⟨r4,oa.same s4,ob.same s4⟩,IR e4 pa pb ab,λH' sx oa' ob'=>?_⟩
 obtain⟨F',pin⟩:=F4.mut2 c.2 (Sl.own_ok e1) (Sl.own_ok e2) fa fb sx oa' ob'
 exact k _ _ ⟨O,own,F',λt ht=>pin t ((tt t ht).same s4)⟩
end
end Tr
namespace Tr
open PySem PySem.Spec PyProof.Rows L2
section
variable{prog:Program}{w:World}
variable{A:Around}{R:Result->Shared->Prop}{I:Addr}{fp wr:List Addr}{G:Array GenState->Array GenState->Prop}{n:Nat}{P:Nat->Value->Prop}{St:Nat->Shared->Prop}
end
section
variable{prog:Program}{w:World}{A:Around}{E:Value->Shared->Prop}{s:Shared}
end
section
variable{T:Tab}{cf:Nat->List D->Res D}{X:Cx}{x:E}{p:Expr}{pos:Pos}
end
variable{l:List Expr}
set_option genInjectivity false in
structure Txt where
 gn:List Str
 dn:List Str
 tf:List (Str×List Nat):=[]
 ts:List (Str×List Str):=[]
 cls:List Str:=[]
 icl:List Str:=[]
 dm:List (Nat×Str):=[]
 lam:Option Pos:=none
noncomputable def Txt.at(Tx:Txt)(st:Stmt):Txt:={Tx with lam:=nB (fZ st) }
noncomputable def iG{α:Type}[BEq α]:List α->Bool
 |[]=>true
 |a::r=>!r.contains a&&iG r
theorem sO{α:Type}[BEq α][LawfulBEq α]:∀{l:List α},iG l=true->l.Nodup
 |[],_=>kF
 |a::r,h=>by
  rw[iG,aM]at h
  refine dP.mpr ⟨λm=>?_,sO h.2⟩
  have:r.contains a=true:=uX.mpr m
  rw[this]at h
  exact absurd h.1 (by simp)
noncomputable def aS:E->Bool
 |.rd _=>true
 |_=>false
noncomputable def visB(sc:Scope)(n:Str):Bool:=(sc.names.lookup n==some .local)||(sc.names.lookup n==some .cell)||(sc.names.lookup n==some .free)
noncomputable def glB(sc:Scope)(n:Str):Bool:=sc.names.lookup n==some .globalImplicit
noncomputable def gL (n:Str):Bool:=!(n==("__debug__" : Str))&&!(n==("__classdict__" : Str))
noncomputable def fJ(N:List Str)(sc:Scope)(i:Nat)(n:Str):Bool:=(N[i]?==some n)&&visB sc n&&gL n
noncomputable def jP(scope sc:Scope):Scope:={scope with names:=scope.names.map λ(n,k)=>if(k==.free&&sc.kind==.function&&sc.names.lookup n==some .cell)then(n,.cell)else(n,k) }
noncomputable def cY:Expr->List Str
 |.Name n _=>[n]
 |.Tuple es _ _=>es.filterMap λ| .Name n _=>some n|_=>none
 |_=>[]
noncomputable def mGs(loc:Bool)(N:List Str)(sc:Scope):List Nat->List Expr->Bool
 |[],[]=>true
 |i::is,.Name n _::es=>(N[i]?==some n)&&((sc.names.lookup n==some .local)||(!loc&&sc.names.lookup n==some .cell))&&mGs loc N sc is es
 |_,_=>false
noncomputable def mG(loc:Bool)(N:List Str)(sc:Scope):G->Expr->Bool
 |.one i,.Name n _=>(N[i]?==some n)&&((sc.names.lookup n==some .local)||(!loc&&sc.names.lookup n==some .cell))
 |.many is,.Tuple es _ _=>mGs loc N sc is es
 |_,_=>false
noncomputable def scB(sc scope:Scope):Bool:=(scope.kind==.function)&&scope.names.all (λx=>!(x.2==.cell))&&scope.names.all (λx=>!(x.2==.local)||(scope.names.lookup x.1==some .local)) &&
 scope.names.all (λx=>!(x.2==.free)||(!(scope.names.lookup x.1==some .local)&&((sc.names.lookup x.1==some .cell)||(sc.names.lookup x.1==some .free))))
noncomputable def cZ (N:List Str) (caps:List Nat):List Str:=caps.map λi=>(N[i]?).getD ""
noncomputable def pL(N:List Str)(scope:Scope)(caps:List Nat):Bool:=caps.all λi=>match N[i]? with|some n=>scope.names.contains (n,.free)|none=>false
noncomputable def sP:E->Bool
 |.con (.bl true)=>true
 |_=>false
noncomputable def iY:E->Bool
 |.omit=>true
 |_=>false
noncomputable def wX:Expr->Bool
 |.Tuple _ _ _=>true
 |_=>false
noncomputable def vC(G:Str->List Expr->Bool):Expr->Bool
 |.Call (.Name n _) es [] _=>G n es
 |_=>false
noncomputable def v1(G:Expr->Bool):List Expr->Bool
 |[q]=>G q
 |_=>false
noncomputable def vL(G:List Expr->Bool):List Expr->Bool
 |[]=>false
 |e::es=>G (e::es)
theorem jQ{G:Str->List Expr->Bool}{p:Expr}(h:vC G p=true):∃n pn es pos,p=.Call (.Name n pn) es [] pos/\G n es=true:=by
 cases p with
 |Call fn es ks pos=>
  cases fn with
  |Name n pn=>cases ks with
   |nil=>exact⟨n,pn,es,pos,rfl,h⟩
   |cons _ _=>exact absurd h bR
  |_=>exact absurd h bR
 |_=>exact absurd h bR
theorem iZ{G:Expr->Bool}(h:v1 G l=true):∃q,l=[q]/\G q=true:=by
 rcases l with _|⟨q,_|⟨q',es⟩⟩
 ·exact absurd h bR
 ·exact⟨q,rfl,h⟩
 ·exact absurd h bR
theorem vL_of{G:List Expr->Bool}(h:vL G l=true):∃e es,l=e::es/\G (e::es)=true:=by
 cases l with
 |nil=>exact absurd h bR
 |cons e es=>exact⟨e,es,rfl,h⟩
noncomputable def vP(G:Expr->Expr->Bool):List Expr->Bool
 |[q,r]=>G q r
 |_=>false
theorem vP_of{G:Expr->Expr->Bool}(h:vP G l=true):∃q r,l=[q,r]/\G q r=true:=by
 rcases l with _|⟨q,_|⟨r,_|⟨q',es⟩⟩⟩
 ·exact absurd h bR
 ·exact absurd h bR
 ·exact⟨q,r,rfl,h⟩
 ·exact absurd h bR
noncomputable def v2(G:Str->Str->Expr->Bool):Expr->Bool:=vC λn=>v1 (vC λm=>v1 (G n m))
theorem v2_of{G:Str->Str->Expr->Bool}{p:Expr}(h:v2 G p=true):∃n pn m pm q pos2 pos,p=.Call (.Name n pn) [.Call (.Name m pm) [q] [] pos2] [] pos/\G n m q=true:=by
 obtain⟨n,pn,es,pos,rfl,g1⟩:=jQ h
 obtain⟨c,rfl,g2⟩:=iZ g1
 obtain⟨m,pm,es2,pos2,rfl,g3⟩:=jQ g2
 obtain⟨q,rfl,g4⟩:=iZ g3
 exact⟨n,pn,m,pm,q,pos2,pos,rfl,g4⟩
noncomputable def vM(G:Str->Str->Pos->Pos->List Expr->Bool):Stmt->Bool
 |.Expr (.Call (.Attribute (.Name n _) nm apos) es [] cpos) _=>G n nm apos cpos es
 |_=>false
theorem sQ{G:Str->Str->Pos->Pos->List Expr->Bool}{p:Stmt}(h:vM G p=true):∃n px nm apos es cpos pos,p=.Expr (.Call (.Attribute (.Name n px) nm apos) es [] cpos) pos/\G n nm apos cpos es=true:=by
 cases p with
 |Expr v pos=>cases v with
  |Call f es ks cpos=>cases f with
   |Attribute o nm apos=>cases o with
    |Name n px=>cases ks with
     |nil=>exact⟨n,px,nm,apos,es,cpos,pos,rfl,h⟩
     |cons _ _=>exact absurd h bR
    |_=>exact absurd h bR
   |_=>exact absurd h bR
  |_=>exact absurd h bR
 |_=>exact absurd h bR
section
variable(Tx:Txt)
mutual
noncomputable def mE:E->List Str->Scope->Expr->Bool
 |.var i,N,sc,.Name n _=>fJ N sc i n
 |.rd i,N,sc,.Name n _=>fJ N sc i n
 |.con d,_,_,.Constant c _ _=>vY d c
 |.glob g,_,sc,.Name n _=>(Tx.gn[g]?==some n)&&glB sc n&&gL n
 |.bin o a b,N,sc,.BinOp l o' r _=>(o==o')&&mE a N sc l&&mE b N sc r
 |.cmp o a b,N,sc,.Compare l [o'] [r] _=>(o==o')&&mE a N sc l&&mE b N sc r
 |.chain o p a b c,N,sc,.Compare l [o',p'] [m,r] _=>(o==o')&&(p==p')&&mE a N sc l&&mE b N sc m&&mE c N sc r
 |.and a b,N,sc,.BoolOp .And [l,r] _=>!aS a&&!aS b&&mE a N sc l&&mE b N sc r
 |.and a b,N,sc,.BoolOp .And (l::r::r'::rest) pos=>!aS a&&!aS b&&mE a N sc l&&mE b N sc (.BoolOp .And (r::r'::rest) pos)
 |.or a b,N,sc,.BoolOp .Or [l,r] _=>!aS a&&!aS b&&mE a N sc l&&mE b N sc r
 |.or a b,N,sc,.BoolOp .Or (l::r::r'::rest) pos=>!aS a&&!aS b&&mE a N sc l&&mE b N sc (.BoolOp .Or (r::r'::rest) pos)
 |.not a,N,sc,.UnaryOp .Not l _=>mE a N sc l
 |.ife c a b,N,sc,.IfExp l m r _=>!aS a&&!aS b&&mE c N sc l&&mE a N sc m&&mE b N sc r
 |.ix a b,N,sc,.Subscript l r _=>mE a N sc l&&mE b N sc r
 |.sl a lo hi,N,sc,.Subscript l (.Slice p q none _) _=>mE a N sc l&&(match p with|none=>iY lo|some p'=>!aS lo&&mE lo N sc p')&&(match q with|none=>iY hi|some q'=>!aS hi&&mE hi N sc q')
 |.tup a,N,sc,.Tuple es _ _=>mA a false N sc es
 |.lst a,N,sc,.List es _=>mA a false N sc es
 |.call f a,N,sc,p=>vC (λn es=>(Tx.dn[f]?==some n)&&glB sc n&&gL n&&mA a false N sc es) p
 |.srtT a,N,sc,p=>vC (λn=>v1 λq=>(n == "sorted")&&glB sc n&&mE a N sc q) p
 |.bt b a,N,sc,p=>vC (λn=>vL λes=>b.use&&(n==b.nm)&&glB sc n&&mA a true N sc es) p
 |.mth m a b,N,sc,.Call (.Attribute o nm apos) [q] [] cpos=>(nm==m.nm)&&wJ o&&(apos.endLine==cpos.line)&&!aS a&&mE a N sc o&&mE b N sc q
 |.callT fs k a,N,sc,.Call (.Subscript (.Name n _) q _) (p::es) [] _=>Tx.tf.contains (n,fs)&&glB sc n&&gL n&&!aS k&&mE k N sc q&&mA a false N sc (p::es)
 |.gidx ss a,N,sc,.Call (.Attribute (.Name n _) nm apos) [q] [] cpos=>Tx.ts.contains (n,ss)&&glB sc n&&gL n&&(nm == "index")&&(apos.endLine==cpos.line)&&mE a N sc q
 |.lset a,N,sc,p=>v2 (λn m q=>(n == "len")&&(m == "set")&&glB sc n&&glB sc m&&mE a N sc q) p
 |.comp own caps g elt src cond,N,sc,.ListComp pe [⟨tg,iter,ifs,isa⟩] scope _=>
  (isa==0)&&scB sc scope&&pL N scope caps&&iG caps&&iG (cY tg++cZ N caps)&&(own==(cY tg).length)&&g.below own&&mG true (cY tg++cZ N caps) (jP scope sc) g tg &&
  mI src true N sc tg iter&&!aS elt&&mE elt (cY tg++cZ N caps) (jP scope sc) pe &&
  (match ifs with
   |[]=>sP cond
   |[c]=>mE cond (cY tg++cZ N caps) (jP scope sc) c
   |_=>false)
 |_,_,_,_=>false
termination_by structural x=>x
noncomputable def mA:E->Bool->List Str->Scope->List Expr->Bool
 |.anil,_,_,_,[]=>true
 |.acons a r,rd,N,sc,p::ps=>(rd||!aS a)&&mE a N sc p&&mA r rd N sc ps
 |_,_,_,_,_=>false
termination_by structural x=>x
noncomputable def mI:E->Bool->List Str->Scope->Expr->Expr->Bool
 |.seq a,rd,N,sc,_,p=>(rd||!aS a)&&mE a N sc p
 |.rng a,_,N,sc,_,p=>vC (λn=>v1 λq=>(n == "range")&&glB sc n&&!aS a&&mE a N sc q) p
 |.rng2 a b,_,N,sc,_,p=>vC (λn=>vP λq r=>(n == "range")&&glB sc n&&!aS a&&!aS b&&mE a N sc q&&mE b N sc r) p
 |.enum a,rd,N,sc,tg,p=>vC (λn=>v1 λq=>(n == "enumerate")&&glB sc n&&wX tg&&(rd||!aS a)&&mE a N sc q) p
 |.seqD a,_,N,sc,_,p=>vC (λn=>v1 λq=>(n == "reversed")&&glB sc n&&!aS a&&mE a N sc q) p
 |_,_,_,_,_,_=>false
termination_by structural x=>x
end
end
end Tr
namespace Tr
open PySem PySem.Spec PyProof.Rows L2
variable{o:CmpOp}{a b c:E}{i:Nat}
section
variable{Tx:Txt}{N:List Str}{sc:Scope}{p tg:Expr}
theorem nof{P:Prop}(h:false=true):P:=absurd h bR
theorem bF{a b:Bool}(h:(a&&b)=true):a=true/\b=true:=by rw[aM]at h;exact h
theorem gB{a:Bool}(h:(!a)=true):a=false:=by rw[cL]at h;exact h
theorem sR{α:Type}[BEq α][LawfulBEq α]{a b:α}(h:(a==b)=true):a=b:=eq_of_beq h
theorem DD(h:mE Tx (.var i) N sc p=true):∃n pos,p=.Name n pos/\fJ N sc i n=true:=by
 cases p<;>first|exact nof h|exact⟨_,_,rfl,h⟩
theorem i_rd(h:mE Tx (.rd i) N sc p=true):∃n pos,p=.Name n pos/\fJ N sc i n=true:=by
 cases p<;>first|exact nof h|exact⟨_,_,rfl,h⟩
theorem DE{d:D}(h:mE Tx (.con d) N sc p=true):∃c k pos,p=.Constant c k pos/\vY d c=true:=by
 cases p<;>first|exact nof h|exact⟨_,_,_,rfl,h⟩
theorem DF{g:Nat}(h:mE Tx (.glob g) N sc p=true):∃n pos,p=.Name n pos/\(Tx.gn[g]?==some n&&glB sc n&&gL n)=true:=by
 cases p<;>first|exact nof h|exact⟨_,_,rfl,h⟩
theorem DG{o:Operator}(h:mE Tx (.bin o a b) N sc p=true):∃l r pos,p=.BinOp l o r pos/\mE Tx a N sc l=true/\mE Tx b N sc r=true:=by
 cases p with
 |BinOp l o' r pos=>
  have h:=bF (show((o==o')&&mE Tx a N sc l&&mE Tx b N sc r)=true from h)
  have h1:=bF h.1
  have e:o=o':=sR h1.1
  subst e
  exact⟨l,r,pos,rfl,h1.2,h.2⟩
 |_=>exact nof h
theorem DH(h:mE Tx (.cmp o a b) N sc p=true):∃l r pos,p=.Compare l [o] [r] pos/\mE Tx a N sc l=true/\mE Tx b N sc r=true:=by
 cases p with
 |Compare l os rs pos=>
  rcases os with _|⟨o',_|⟨o'',os⟩⟩
  ·exact nof h
  ·rcases rs with _|⟨r,_|⟨r',rs⟩⟩
   ·exact nof h
   ·have h:=bF (show((o==o')&&mE Tx a N sc l&&mE Tx b N sc r)=true from h)
    have h1:=bF h.1
    have e:o=o':=sR h1.1
    subst e
    exact⟨l,r,pos,rfl,h1.2,h.2⟩
   ·exact nof h
  ·exact nof h
 |_=>exact nof h
theorem DI{o':CmpOp}(h:mE Tx (.chain o o' a b c) N sc p=true):∃l m r pos,p=.Compare l [o,o'] [m,r] pos/\mE Tx a N sc l=true/\mE Tx b N sc m=true/\mE Tx c N sc r=true:=by
 cases p with
 |Compare l os rs pos=>
  rcases os with _|⟨p1,_|⟨p2,_|⟨p3,os⟩⟩⟩
  ·exact nof h
  ·exact nof h
  ·rcases rs with _|⟨r1,_|⟨r2,_|⟨r3,rs⟩⟩⟩
   ·exact nof h
   ·exact nof h
   ·have h:=bF (show((o==p1)&&(o'==p2)&&mE Tx a N sc l&&mE Tx b N sc r1&&mE Tx c N sc r2)=true from h)
    have h1:=bF h.1
    have h2:=bF h1.1
    have h3:=bF h2.1
    have e:o=p1:=sR h3.1
    have e2:o'=p2:=sR h3.2
    subst e e2
    exact⟨l,r1,r2,pos,rfl,h2.2,h1.2,h.2⟩
   ·exact nof h
  ·exact nof h
 |_=>exact nof h
theorem DJ(h:mE Tx (.and a b) N sc p=true):∃l r rest pos,p=.BoolOp .And (l::r::rest) pos/\aS a=false/\aS b=false/\mE Tx a N sc l=true/\((rest=[]/\mE Tx b N sc r=true)\/(∃r' rs,rest=r'::rs/\mE Tx b N sc (.BoolOp .And (r::rest) pos)=true)):=by
 cases p with
 |BoolOp op vs pos=>
  cases op with
  |Or=>exact nof h
  |And=>
   rcases vs with _|⟨l,_|⟨r,_|⟨r',rest⟩⟩⟩
   ·exact nof h
   ·exact nof h
   ·have h:=bF (show(!aS a&&!aS b&&mE Tx a N sc l&&mE Tx b N sc r)=true from h)
    have h1:=bF h.1
    have h2:=bF h1.1
    exact⟨l,r,[],pos,rfl,gB h2.1,gB h2.2,h1.2,.inl ⟨rfl,h.2⟩⟩
   ·have h:=bF (show(!aS a&&!aS b&&mE Tx a N sc l&&mE Tx b N sc (.BoolOp .And (r::r'::rest) pos))=true from h)
    have h1:=bF h.1
    have h2:=bF h1.1
    exact⟨l,r,r'::rest,pos,rfl,gB h2.1,gB h2.2,h1.2,.inr ⟨r',rest,rfl,h.2⟩⟩
 |_=>exact nof h
theorem i_or(h:mE Tx (.or a b) N sc p=true):∃l r rest pos,p=.BoolOp .Or (l::r::rest) pos/\aS a=false/\aS b=false/\mE Tx a N sc l=true/\((rest=[]/\mE Tx b N sc r=true)\/(∃r' rs,rest=r'::rs/\mE Tx b N sc (.BoolOp .Or (r::rest) pos)=true)):=by
 cases p with
 |BoolOp op vs pos=>
  cases op with
  |And=>exact nof h
  |Or=>
   rcases vs with _|⟨l,_|⟨r,_|⟨r',rest⟩⟩⟩
   ·exact nof h
   ·exact nof h
   ·have h:=bF (show(!aS a&&!aS b&&mE Tx a N sc l&&mE Tx b N sc r)=true from h)
    have h1:=bF h.1
    have h2:=bF h1.1
    exact⟨l,r,[],pos,rfl,gB h2.1,gB h2.2,h1.2,.inl ⟨rfl,h.2⟩⟩
   ·have h:=bF (show(!aS a&&!aS b&&mE Tx a N sc l&&mE Tx b N sc (.BoolOp .Or (r::r'::rest) pos))=true from h)
    have h1:=bF h.1
    have h2:=bF h1.1
    exact⟨l,r,r'::rest,pos,rfl,gB h2.1,gB h2.2,h1.2,.inr ⟨r',rest,rfl,h.2⟩⟩
 |_=>exact nof h
theorem DK(h:mE Tx (.not a) N sc p=true):∃l pos,p=.UnaryOp .Not l pos/\mE Tx a N sc l=true:=by
 cases p with
 |UnaryOp op l pos=>cases op<;>first|exact nof h|exact⟨_,_,rfl,h⟩
 |_=>exact nof h
theorem DL(h:mE Tx (.ife c a b) N sc p=true):∃l m r pos,p=.IfExp l m r pos/\aS a=false/\aS b=false/\mE Tx c N sc l=true/\mE Tx a N sc m=true/\mE Tx b N sc r=true:=by
 cases p with
 |IfExp l m r pos=>
  have h:=bF (show(!aS a&&!aS b&&mE Tx c N sc l&&mE Tx a N sc m&&mE Tx b N sc r)=true from h)
  have h1:=bF h.1
  have h2:=bF h1.1
  have h3:=bF h2.1
  exact⟨l,m,r,pos,rfl,gB h3.1,gB h3.2,h2.2,h1.2,h.2⟩
 |_=>exact nof h
theorem i_ix(h:mE Tx (.ix a b) N sc p=true):∃l r pos,p=.Subscript l r pos/\mE Tx a N sc l=true/\mE Tx b N sc r=true:=by
 cases p with
 |Subscript l r pos=>
  have h:=bF (show(mE Tx a N sc l&&mE Tx b N sc r)=true from h)
  exact⟨l,r,pos,rfl,h.1,h.2⟩
 |_=>exact nof h
theorem i_sl{lo hi:E}(h:mE Tx (.sl a lo hi) N sc p=true):∃l pl ph pos pos',p=.Subscript l (.Slice pl ph none pos') pos/\mE Tx a N sc l=true/\((pl=none/\iY lo=true)\/∃q,pl=some q/\aS lo=false/\mE Tx lo N sc q=true)/\((ph=none/\iY hi=true)\/∃q,ph=some q/\aS hi=false/\mE Tx hi N sc q=true):=by
 cases p with
 |Subscript l r pos=>
  cases r with
  |Slice pl ph st pos'=>
   cases st with
   |some _=>exact nof h
   |none=>
    refine⟨l,pl,ph,pos,pos',rfl,?_⟩
    cases pl with
    |none=>
     cases ph with
     |none=>
      have h:=bF (show(mE Tx a N sc l&&iY lo&&iY hi)=true from h)
      exact⟨(bF h.1).1,.inl ⟨rfl,(bF h.1).2⟩,.inl ⟨rfl,h.2⟩⟩
     |some q=>
      have h:=bF (show(mE Tx a N sc l&&iY lo&&(!aS hi&&mE Tx hi N sc q))=true from h)
      exact⟨(bF h.1).1,.inl ⟨rfl,(bF h.1).2⟩,.inr ⟨q,rfl,gB (bF h.2).1,(bF h.2).2⟩⟩
    |some q0=>
     cases ph with
     |none=>
      have h:=bF (show(mE Tx a N sc l&&(!aS lo&&mE Tx lo N sc q0)&&iY hi)=true from h)
      exact⟨(bF h.1).1,.inr ⟨q0,rfl,gB (bF (bF h.1).2).1,(bF (bF h.1).2).2⟩,.inl ⟨rfl,h.2⟩⟩
     |some q=>
      have h:=bF (show(mE Tx a N sc l&&(!aS lo&&mE Tx lo N sc q0)&&(!aS hi&&mE Tx hi N sc q))=true from h)
      exact⟨(bF h.1).1,.inr ⟨q0,rfl,gB (bF (bF h.1).2).1,(bF (bF h.1).2).2⟩,.inr ⟨q,rfl,gB (bF h.2).1,(bF h.2).2⟩⟩
  |_=>exact nof h
 |_=>exact nof h
theorem DM(h:mE Tx (.tup a) N sc p=true):∃es k pos,p=.Tuple es k pos/\mA Tx a false N sc es=true:=by
 cases p<;>first|exact nof h|exact⟨_,_,_,rfl,h⟩
theorem DN(h:mE Tx (.lst a) N sc p=true):∃es pos,p=.List es pos/\mA Tx a false N sc es=true:=by
 cases p<;>first|exact nof h|exact⟨_,_,rfl,h⟩
theorem wY{f:Nat}(h:mE Tx (.call f a) N sc p=true):∃n pn es pos,p=.Call (.Name n pn) es [] pos/\(Tx.dn[f]?==some n&&glB sc n&&gL n&&mA Tx a false N sc es)=true:=by
 exact jQ h
theorem DO (h:mE Tx (.srtT a) N sc p=true):∃n pn q pos,p=.Call (.Name n pn) [q] [] pos/\((n == "sorted")&&glB sc n&&mE Tx a N sc q)=true:=by
 obtain⟨n,pn,es,pos,rfl,g1⟩:=jQ h
 obtain⟨q,rfl,g2⟩:=iZ g1
 exact⟨n,pn,q,pos,rfl,g2⟩
theorem i_bt{b:Bt}(h:mE Tx (.bt b a) N sc p=true):∃n pn e es pos,p=.Call (.Name n pn) (e::es) [] pos/\(b.use&&(n==b.nm)&&glB sc n&&mA Tx a true N sc (e::es))=true:=by
 obtain⟨n,pn,es,pos,rfl,g1⟩:=jQ h
 obtain⟨e,es,rfl,g2⟩:=vL_of g1
 exact⟨n,pn,e,es,pos,rfl,g2⟩
theorem DP{m:Mt}(h:mE Tx (.mth m a b) N sc p=true):∃o nm apos q cpos,p=.Call (.Attribute o nm apos) [q] [] cpos/\((nm==m.nm)&&wJ o&&(apos.endLine==cpos.line)&&!aS a&&mE Tx a N sc o&&mE Tx b N sc q)=true:=by
 cases p with
 |Call fn es ks pos=>
  cases fn with
  |Attribute o nm apos=>
   rcases es with _|⟨q,_|⟨q',es⟩⟩
   ·exact nof h
   ·cases ks with
    |nil=>exact⟨o,nm,apos,q,pos,rfl,h⟩
    |cons _ _=>exact nof h
   ·exact nof h
  |_=>exact nof h
 |_=>exact nof h
theorem DQ{fs:List Nat}{k:E}(h:mE Tx (.callT fs k a) N sc p=true):∃n pn q pos' e es pos,p=.Call (.Subscript (.Name n pn) q pos') (e::es) [] pos/\(Tx.tf.contains (n,fs)&&glB sc n&&gL n&&!aS k&&mE Tx k N sc q&&mA Tx a false N sc (e::es))=true:=by
 cases p with
 |Call fn es ks pos=>
  cases fn with
  |Subscript o q pos'=>cases o with
   |Name n pn=>cases es with
    |nil=>exact nof h
    |cons e es=>cases ks with
     |nil=>exact⟨n,pn,q,pos',e,es,pos,rfl,h⟩
     |cons _ _=>exact nof h
   |_=>exact nof h
  |_=>exact nof h
 |_=>exact nof h
theorem DR {ss:List Str} (h:mE Tx (.gidx ss a) N sc p=true):∃n pn nm apos q cpos,p=.Call (.Attribute (.Name n pn) nm apos) [q] [] cpos/\(Tx.ts.contains (n,ss)&&glB sc n&&gL n&&(nm == "index")&&(apos.endLine==cpos.line)&&mE Tx a N sc q)=true:=by
 cases p with
 |Call fn es ks pos=>
  cases fn with
  |Attribute o nm apos=>cases o with
   |Name n pn=>
    rcases es with _|⟨q,_|⟨q',es⟩⟩
    ·exact nof h
    ·cases ks with
     |nil=>exact⟨n,pn,nm,apos,q,pos,rfl,h⟩
     |cons _ _=>exact nof h
    ·exact nof h
   |_=>exact nof h
  |_=>exact nof h
 |_=>exact nof h
theorem DS (h:mE Tx (.lset a) N sc p=true):∃n pn m pm q pos2 pos,p=.Call (.Name n pn) [.Call (.Name m pm) [q] [] pos2] [] pos/\((n == "len")&&(m == "set")&&glB sc n&&glB sc m&&mE Tx a N sc q)=true:=by
 exact v2_of h
end
end Tr
namespace Tr
open PySem PySem.Spec PyProof.Rows L2
variable{loc:Bool}{a x:E}{tg:Expr}{g:G}{caps:List Nat}{N:List Str}{sc scope:Scope}{n:Str}
noncomputable def nH:List Str:=["len", "sum", "tuple", "list", "int", "str", "isinstance", "range", "enumerate", "bool", "abs", "min", "max", "all", "any", "set", "zip", "sorted", "dict", "reversed"]
set_option genInjectivity false in
structure OkX(T:Tab)(cf:Nat->List D->Res D)(Tx:Txt)(X:Cx):Prop where
 calm:X.calm=true
 roomy:gW X
 defs:∀f n,Tx.dn[f]?=some n->pF T cf X f n
 globs:∀g n,Tx.gn[g]?=some n->CH X n (T.glob g)
 blt:∀n∈nH,X.mg n=none
 nd:X.N.Nodup
 tf:∀q∈Tx.tf,TabF T cf X q.1 q.2
 ts:∀q∈Tx.ts,TabS X q.1 q.2
 dm:∀q∈Tx.dm,wW T cf X q.1 q.2
section
variable{T:Tab}{cf:Nat->List D->Res D}{Tx:Txt}{X:Cx}
theorem jR {i:Nat} (h:fJ N sc i n=true):N[i]?=some n/\Vis sc n/\(n==("__debug__" : Str))=false/\(n==("__classdict__" : Str))=false:=by
 simp only[fJ,visB,gL,aM,iR,cL,beq_iff_eq]at h
 refine⟨h.1.1,?_,h.2.1,h.2.2⟩
 rcases h.1.2 with(z|z)|z
 ·exact .inl z
 ·exact .inr (.inl z)
 ·exact .inr (.inr z)
theorem gC(h:glB X.env.scope n=true):Gl X n:=by
 have h':X.env.scope.names.lookup n=some .globalImplicit:=by simpa[glB]using h
 exact h'
noncomputable def wZ:Expr->Bool
 |.BoolOp _ _ _=>true
 |_=>false
theorem nI (h:gL n=true):(n==("__debug__" : Str))=false:=by
 simp only[gL,aM,cL]at h
 exact h.1
theorem DT(hN:X.N.Nodup)(hf:∀n,loc=false->X.fn n=true):∀{is:List Nat} {es:List Expr},mGs loc X.N X.env.scope is es=true->SGs X is es/\pH es=true/\es.length=is.length
 |[],[],_=>⟨Jb,rfl,rfl⟩
 |[],_::_,h=>by exact nof h
 |_::_,[],h=>by exact nof h
 |i::is,e::es,h=>by
  cases e with
  |Name n pos=>
   change (_&&(_||_)&&_)=true at h
   simp only[aM,iR,beq_iff_eq,cL]at h
   obtain⟨⟨h1,h2⟩,h3⟩:=h
   obtain⟨a1,a2,a3⟩:=DT hN hf h3
   refine⟨Jd hN h1 ?_ ?_ a1,a2,by rw[aW,aW,a3]⟩
   ·rcases h2 with z|z
    ·exact .inl z
    ·exact .inr z.2
   ·rcases h2 with z|z
    ·exact .inr z
    ·exact .inl (hf n z.1)
  |_=>exact nof h
theorem xA(hc:X.calm=true)(hN:X.N.Nodup)(hf:∀n,loc=false->X.fn n=true)(h:mG loc X.N X.env.scope g tg=true):SG X g tg/\bM tg=true:=by
 cases g with
 |one i=>
  cases tg with
  |Name n pos=>
   change (_&&(_||_))=true at h
   simp only[aM,iR,beq_iff_eq,cL]at h
   refine⟨sg_one hN h.1 ?_ ?_,rfl⟩
   ·rcases h.2 with z|z
    ·exact .inl z
    ·exact .inr z.2
   ·rcases h.2 with z|z
    ·exact .inr z
    ·exact .inl (hf n z.1)
  |_=>exact nof h
 |many is=>
  cases tg with
  |Tuple es k pos=>
   obtain⟨a1,a2,a3⟩:=DT hN hf h
   exact⟨Jg hc a2 a3 a1,rfl⟩
  |_=>exact nof h
noncomputable def PEx(T:Tab)(cf:Nat->List D->Res D)(Tx:Txt)(x:E):Prop:=∀X p,OkX T cf Tx X->mE Tx x X.N X.env.scope p=true->SR T cf X x p/\(aS x=false->SE T cf X x p)/\ST T cf X x p/\bM p=true/\(wZ p=true->SW T cf X x p)
noncomputable def PAx(T:Tab)(cf:Nat->List D->Res D)(Tx:Txt)(x:E):Prop:=∀X rd ps,OkX T cf Tx X->mA Tx x rd X.N X.env.scope ps=true->SAr T cf X x ps/\(rd=false->SAv T cf X x ps)/\ps.all bM=true
noncomputable def PIx(T:Tab)(cf:Nat->List D->Res D)(Tx:Txt)(x:E):Prop:=∀X rd tg p,OkX T cf Tx X->mI Tx x rd X.N X.env.scope tg p=true->SI T cf X tg x rd p/\bM p=true
theorem noA(h:∀rd N sc ps,mA Tx x rd N sc ps=false):PAx T cf Tx x:=λX rd ps _ m=>by rw[h]at m;cases m
theorem noI(h:∀rd N sc tg p,mI Tx x rd N sc tg p=false):PIx T cf Tx x:=λX rd tg p _ m=>by rw[h]at m;cases m
theorem noE(h:∀N sc p,mE Tx x N sc p=false):PEx T cf Tx x:=λX p _ m=>by rw[h]at m;cases m
theorem eL{p:Expr}(h:SE T cf X x p)(he:∀whole,isTrue p X.env whole=(do let v<-whole;standAt p.pos;holding [v] (truthy v)))(hp:bM p=true)(hb:wZ p=false:=by rfl):SR T cf X x p/\(aS x=false->SE T cf X x p)/\ST T cf X x p/\bM p=true/\(wZ p=true->SW T cf X x p):=
 ⟨h.sr,λ_=>h,CV h.sr he,hp,λz=>by rw[hb]at z;cases z⟩
theorem okC(ok:OkX T cf Tx X){C:Addr}{Nc:List Str}{s2:Shared}{H2:Hp}{fp:List Addr}(h:Nc.Nodup):OkX T cf Tx (cxC X scope C Nc s2 H2 fp):=
 ⟨ok.calm,ok.roomy,ok.defs,ok.globs,ok.blt,h,ok.tf,ok.ts,ok.dm⟩
theorem scC_of(h:scB X.env.scope scope=true):ScopeC X scope:=by
 simp only[scB,aM,gO,iR,cL,beq_iff_eq,beq_eq_false_iff_ne,ne_eq]at h
 obtain⟨⟨⟨h1,h2⟩,h3⟩,h4⟩:=h
 refine⟨h1,h2,λx hx e=>?_,λx hx e=>?_,λx hx e=>?_⟩
 ·rcases h3 x hx with z|z
  ·exact absurd e z
  ·exact z
 ·rcases h4 x hx with z|z
  ·exact absurd e z
  ·exact z.1
 ·rcases h4 x hx with z|z
  ·exact absurd e z
  ·exact z.2
theorem capsOk{own:Nat}{tn:List Str}(h:pL X.N scope caps=true)(hn:iG caps=true)(ho:own=tn.length):CapsOk X scope own caps (tn++cZ X.N caps):=by
 refine⟨by rw[cP,ho,cZ,aD],sO hn,λj i hj=>?_⟩
 simp only[pL,gO]at h
 have:=h i (iO hj)
 cases e:X.N[i]? with
 |none=>rw[e]at this;cases this
 |some n=>
  rw[e]at this
  refine⟨n,rfl,?_,by simpa using this⟩
  rw[ho,iN (by lia),show tn.length+j-tn.length=j by lia,cZ,cE,hj]
  simp[e]
theorem i_rng {rd:Bool} {p:Expr} (h:mI Tx (.rng a) rd N sc tg p=true):∃n pn q pos,p=.Call (.Name n pn) [q] [] pos/\((n == "range")&&glB sc n&&!aS a&&mE Tx a N sc q)=true:=by
 obtain⟨n,pn,es,pos,rfl,g1⟩:=jQ h
 obtain⟨q,rfl,g2⟩:=iZ g1
 exact⟨n,pn,q,pos,rfl,g2⟩
theorem i_rng2 {b:E} {rd:Bool} {p:Expr} (h:mI Tx (.rng2 a b) rd N sc tg p=true):∃n pn q r pos,p=.Call (.Name n pn) [q,r] [] pos/\((n == "range")&&glB sc n&&!aS a&&!aS b&&mE Tx a N sc q&&mE Tx b N sc r)=true:=by
 obtain⟨n,pn,es,pos,rfl,g1⟩:=jQ h
 obtain⟨q,r,rfl,g2⟩:=vP_of g1
 exact⟨n,pn,q,r,pos,rfl,g2⟩
theorem i_enum {rd:Bool} {p:Expr} (h:mI Tx (.enum a) rd N sc tg p=true):∃n pn q pos,p=.Call (.Name n pn) [q] [] pos/\((n == "enumerate")&&glB sc n&&wX tg&&(rd||!aS a)&&mE Tx a N sc q)=true:=by
 obtain⟨n,pn,es,pos,rfl,g1⟩:=jQ h
 obtain⟨q,rfl,g2⟩:=iZ g1
 exact⟨n,pn,q,pos,rfl,g2⟩
theorem DU{own:Nat}{elt src cond:E}{p:Expr}(h:mE Tx (.comp own caps g elt src cond) N sc p=true):∃pe tg iter ifs scope pos,p=.ListComp pe [⟨tg,iter,ifs,0⟩] scope pos /\
 scB sc scope=true/\pL N scope caps=true/\iG caps=true/\iG (cY tg++cZ N caps)=true/\own=(cY tg).length/\g.below own=true/\mG true (cY tg++cZ N caps) (jP scope sc) g tg=true /\
 mI Tx src true N sc tg iter=true/\aS elt=false/\mE Tx elt (cY tg++cZ N caps) (jP scope sc) pe=true /\
 ((ifs=[]/\sP cond=true)\/∃c,ifs=[c]/\mE Tx cond (cY tg++cZ N caps) (jP scope sc) c=true):=by
 cases p with
 |ListComp pe gens scope pos=>
  rcases gens with _|⟨⟨tg,iter,ifs,isa⟩,_|⟨g2,gens⟩⟩
  ·exact nof h
  ·change (_&&_)=true at h;simp only[aM,cL,beq_iff_eq]at h
   obtain⟨⟨⟨⟨⟨⟨⟨⟨⟨⟨⟨a1,a2⟩,a3⟩,a4⟩,a5⟩,a6⟩,a7⟩,a8⟩,a9⟩,a10⟩,a11⟩,a12⟩:=h
   subst a1
   refine⟨pe,tg,iter,ifs,scope,pos,rfl,a2,a3,a4,a5,a6,a7,a8,a9,a10,a11,?_⟩
   rcases ifs with _|⟨c,_|⟨c',ifs⟩⟩
   ·exact .inl ⟨rfl,a12⟩
   ·exact .inr ⟨c,rfl,a12⟩
   ·cases a12
  ·exact nof h
 |_=>exact nof h
theorem DV{own:Nat}{caps:List Nat}{g:G}{elt src cond:E}{pe tg iter:Expr}{ifs:List Expr}{scope:Scope}(ok:OkX T cf Tx X)(ie:PEx T cf Tx elt)(is:PIx T cf Tx src)(ic:PEx T cf Tx cond)
 (a2:scB X.env.scope scope=true) (a3:pL X.N scope caps=true) (a4:iG caps=true) (a5:iG (cY tg++cZ X.N caps)=true) (a6:own=(cY tg).length) (a8:mG true (cY tg++cZ X.N caps) (jP scope X.env.scope) g tg=true)
 (a9:mI Tx src true X.N X.env.scope tg iter=true) (a10:aS elt=false) (a11:mE Tx elt (cY tg++cZ X.N caps) (jP scope X.env.scope) pe=true)
 (a12:(ifs=[]/\sP cond=true)\/∃c,ifs=[c]/\mE Tx cond (cY tg++cZ X.N caps) (jP scope X.env.scope) c=true) :
 ScopeC X scope/\CapsOk X scope own caps (cY tg++cZ X.N caps)/\bM iter=true/\SI T cf X tg src true iter /\
 ∀C s2 H2 fp,(cxC X scope C (cY tg++cZ X.N caps) s2 H2 fp).Ok->SG (cxC X scope C (cY tg++cZ X.N caps) s2 H2 fp) g tg/\SE T cf (cxC X scope C (cY tg++cZ X.N caps) s2 H2 fp) elt pe/\pI ifs cond (ST T cf (cxC X scope C (cY tg++cZ X.N caps) s2 H2 fp) cond):=by
 obtain⟨s1,s2⟩:=is X true tg iter ok a9
 refine⟨scC_of a2,capsOk a3 a4 a6,s2,s1,λC s2 H2 fp _=>?_⟩
 have okc:OkX T cf Tx (cxC X scope C (cY tg++cZ X.N caps) s2 H2 fp):=okC ok (sO a5)
 refine⟨(xA (X:=cxC X scope C (cY tg++cZ X.N caps) s2 H2 fp) ok.calm okc.nd (λn z=>by cases z) a8).1,(ie _ _ okc a11).2.1 a10,?_⟩
 rcases a12 with⟨z1,z2⟩|⟨c,z1,z2⟩
 ·refine .inl ⟨z1,?_⟩
  unfold sP at z2
  split at z2
  ·rfl
  ·cases z2
 ·exact .inr ⟨c,z1,(ic _ _ okc z2).2.2.1⟩
theorem fK:∀x:E,PEx T cf Tx x/\PAx T cf Tx x/\PIx T cf Tx x:=by
 intro x
 induction x with
 |var i=>
  refine⟨λX p ok h=>?_,noA λrd N sc ps=>rfl,noI λrd N sc tg p=>rfl⟩
  obtain⟨n,pos,rfl,hn⟩:=DD h
  obtain⟨a1,a2,a3,a4⟩:=jR hn
  exact eL (se_var a1 a2 a3 a4) (λ_=>rfl) rfl
 |rd i=>
  refine⟨λX p ok h=>?_,noA λrd N sc ps=>rfl,noI λrd N sc tg p=>rfl⟩
  obtain⟨n,pos,rfl,hn⟩:=i_rd h
  obtain⟨a1,a2,a3,a4⟩:=jR hn
  exact⟨CG a1 a2 a3 a4,(λz=>by cases z),CV (CG a1 a2 a3 a4) (λ_=>rfl),rfl,λz=>by cases z⟩
 |con d=>
  refine⟨λX p ok h=>?_,noA λrd N sc ps=>rfl,noI λrd N sc tg p=>rfl⟩
  obtain⟨c,k,pos,rfl,hn⟩:=DE h
  exact eL (se_con hn) (λ_=>rfl) rfl
 |glob g=>
  refine⟨λX p ok h=>?_,noA λrd N sc ps=>rfl,noI λrd N sc tg p=>rfl⟩
  obtain⟨n,pos,rfl,hn⟩:=DF h
  simp only[aM,beq_iff_eq]at hn
  exact eL (JH (gC hn.1.2) (ok.globs g n hn.1.1) (nI hn.2)) (λ_=>rfl) rfl
 |bin o a b iha ihb=>
  refine⟨λX p ok h=>?_,noA λrd N sc ps=>rfl,noI λrd N sc tg p=>rfl⟩
  obtain⟨l,r,pos,rfl,h1,h2⟩:=DG h
  exact eL (se_bin (iha.1 X l ok h1).1 (ihb.1 X r ok h2).1) (λ_=>rfl) rfl
 |cmp o a b iha ihb=>
  refine⟨λX p ok h=>?_,noA λrd N sc ps=>rfl,noI λrd N sc tg p=>rfl⟩
  obtain⟨l,r,pos,rfl,h1,h2⟩:=DH h
  have hb:=ihb.1 X r ok h2
  have se:=se_cmp (o:=o) (pos:=pos) ok.roomy hb.2.2.2.1 (iha.1 X l ok h1).1 hb.1
  exact⟨se.sr,λ_=>se,st_cmp ok.roomy hb.2.2.2.1 (iha.1 X l ok h1).1 hb.1,rfl,λz=>by cases z⟩
 |chain o o' a b c iha ihb ihc=>
  refine⟨λX p ok h=>?_,noA λrd N sc ps=>rfl,noI λrd N sc tg p=>rfl⟩
  obtain⟨l,m,r,pos,rfl,h1,h2,h3⟩:=DI h
  have hc:=ihc.1 X r ok h3
  have se:=JZ (o:=o) (o':=o') (pos:=pos) ok.roomy hc.2.2.2.1 (iha.1 X l ok h1).1 (ihb.1 X m ok h2).1 hc.1
  exact⟨se.sr,λ_=>se,J0 ok.roomy hc.2.2.2.1 (iha.1 X l ok h1).1 (ihb.1 X m ok h2).1 hc.1,rfl,λz=>by cases z⟩
 |seqD a iha=>
  refine⟨noE λN sc p=>rfl,noA λrd N sc ps=>rfl,λX rd tg p ok h=>?_⟩
  obtain⟨n,pn,es,pos,rfl,g1⟩:=jQ h
  obtain⟨q,rfl,hn⟩:=iZ g1
  simp only[aM,beq_iff_eq,cL]at hn
  obtain⟨_,a2,_,a4,_⟩:=iha.1 X q ok hn.2
  exact⟨KN hn.1.1.1 (gC hn.1.1.2) (ok.blt _ (by simp[nH])) a4 (a2 hn.1.2),rfl⟩
 |and a b iha ihb=>
  refine⟨λX p ok h=>?_,noA λrd N sc ps=>rfl,noI λrd N sc tg p=>rfl⟩
  obtain⟨l,r,rest,pos,rfl,ra,rb,h1,h2⟩:=DJ h
  obtain⟨_,sa,ta,_⟩:=iha.1 X l ok h1
  have sb:SE T cf X b (.BoolOp .And (r::rest) pos)/\SW T cf X b (.BoolOp .And (r::rest) pos):=by
   rcases h2 with⟨rfl,h2⟩|⟨r',rs,rfl,h2⟩
   ·obtain⟨_,b1,b2,_⟩:=ihb.1 X r ok h2
    exact⟨CZ (b1 rb),JX b2⟩
   ·obtain⟨_,b1,b2,_,b5⟩:=ihb.1 X _ ok h2
    exact⟨b1 rb,b5 rfl⟩
  exact⟨(CW (sa ra) sb.1).sr,λ_=>CW (sa ra) sb.1,(C2 ta sb.2).st,rfl,λ_=>C2 ta sb.2⟩
 |or a b iha ihb=>
  refine⟨λX p ok h=>?_,noA λrd N sc ps=>rfl,noI λrd N sc tg p=>rfl⟩
  obtain⟨l,r,rest,pos,rfl,ra,rb,h1,h2⟩:=i_or h
  obtain⟨_,sa,ta,_⟩:=iha.1 X l ok h1
  have sb:SE T cf X b (.BoolOp .Or (r::rest) pos)/\SW T cf X b (.BoolOp .Or (r::rest) pos):=by
   rcases h2 with⟨rfl,h2⟩|⟨r',rs,rfl,h2⟩
   ·obtain⟨_,b1,b2,_⟩:=ihb.1 X r ok h2
    exact⟨CZ (b1 rb),sw_or1 b2⟩
   ·obtain⟨_,b1,b2,_,b5⟩:=ihb.1 X _ ok h2
    exact⟨b1 rb,b5 rfl⟩
  exact⟨(CY (sa ra) sb.1).sr,λ_=>CY (sa ra) sb.1,(C3 ta sb.2).st,rfl,λ_=>C3 ta sb.2⟩
 |not a iha=>
  refine⟨λX p ok h=>?_,noA λrd N sc ps=>rfl,noI λrd N sc tg p=>rfl⟩
  obtain⟨l,pos,rfl,h1⟩:=DK h
  obtain⟨a1,_,a3,_,_⟩:=iha.1 X l ok h1
  exact⟨(C1 a3 a1).sr,λ_=>C1 a3 a1,st_not a3,rfl,λz=>by cases z⟩
 |ife c a b ihc iha ihb=>
  refine⟨λX p ok h=>?_,noA λrd N sc ps=>rfl,noI λrd N sc tg p=>rfl⟩
  obtain⟨l,m,r,pos,rfl,ra,rb,h1,h2,h3⟩:=DL h
  have se:=se_ife (pos:=pos) (ihc.1 X l ok h1).2.2.1 ((iha.1 X m ok h2).2.1 ra) ((ihb.1 X r ok h3).2.1 rb)
  exact⟨se.sr,λ_=>se,st_ife (ihc.1 X l ok h1).2.2.1 (iha.1 X m ok h2).2.2.1 (ihb.1 X r ok h3).2.2.1,rfl,λz=>by cases z⟩
 |ix a b iha ihb=>
  refine⟨λX p ok h=>?_,noA λrd N sc ps=>rfl,noI λrd N sc tg p=>rfl⟩
  obtain⟨l,r,pos,rfl,h1,h2⟩:=i_ix h
  have hb:=ihb.1 X r ok h2
  exact eL (se_ix ok.roomy hb.2.2.2.1 (iha.1 X l ok h1).1 hb.1) (λ_=>rfl) rfl
 |sl a lo hi iha ihl ihh=>
  refine⟨λX p ok h=>?_,noA λrd N sc ps=>rfl,noI λrd N sc tg p=>rfl⟩
  obtain⟨l,pl,ph,pos,pos',rfl,h1,h2,h3⟩:=i_sl h
  have part:∀{y:E} {q:Option Expr},PEx T cf Tx y->((q=none/\iY y=true)\/∃r,q=some r/\aS y=false/\mE Tx y X.N X.env.scope r=true)->SO T cf X y q:=by
   intro y q ih hq
   rcases hq with⟨rfl,z⟩|⟨r,rfl,z1,z2⟩
   ·unfold iY at z
    split at z
    ·exact JR
    ·cases z
   ·exact JS ((ih X r ok z2).2.1 z1)
  exact eL (se_sl (iha.1 X l ok h1).1 (part ihl.1 h2) (part ihh.1 h3)) (λ_=>rfl) rfl
 | «omit»=>exact⟨noE λN sc p=>rfl,noA λrd N sc ps=>rfl,noI λrd N sc tg p=>rfl⟩
 |tup a iha=>
  refine⟨λX p ok h=>?_,noA λrd N sc ps=>rfl,noI λrd N sc tg p=>rfl⟩
  obtain⟨es,k,pos,rfl,h1⟩:=DM h
  exact eL (se_tup ((iha.2.1 X false es ok h1).2.1 rfl)) (λ_=>rfl) rfl
 |lst a iha=>
  refine⟨λX p ok h=>?_,noA λrd N sc ps=>rfl,noI λrd N sc tg p=>rfl⟩
  obtain⟨es,pos,rfl,h1⟩:=DN h
  exact eL (se_lst ((iha.2.1 X false es ok h1).2.1 rfl)) (λ_=>rfl) rfl
 |anil=>
  refine⟨noE λN sc p=>rfl,λX rd ps ok h=>?_,noI λrd N sc tg p=>rfl⟩
  cases ps with
  |nil=>exact⟨JU,λ_=>sav_nil,rfl⟩
  |cons _ _=>exact nof h
 |acons a r iha ihr=>
  refine⟨noE λN sc p=>rfl,λX rd ps ok h=>?_,noI λrd N sc tg p=>rfl⟩
  cases ps with
  |nil=>exact nof h
  |cons p ps=>
   change (_&&_)=true at h;simp only[aM,iR,cL]at h
   obtain⟨a1,a2,_,a4,_⟩:=iha.1 X p ok h.1.2
   obtain⟨b1,b2,b3⟩:=ihr.2.1 X rd ps ok h.2
   refine⟨JV a4 a1 b1,λz=>JT a4 (a2 ?_) (b2 z),by rw[lC,a4,b3];rfl⟩
   rcases h.1.1 with q|q
   ·rw[z]at q;cases q
   ·exact q
 |call f a iha=>
  refine⟨λX p ok h=>?_,noA λrd N sc ps=>rfl,noI λrd N sc tg p=>rfl⟩
  obtain⟨n,pn,es,pos,rfl,hn⟩:=wY h
  simp only[aM,beq_iff_eq]at hn
  obtain⟨_,b2,b3⟩:=iha.2.1 X false es ok hn.2
  cases es with
  |nil=>
   cases a with
   |anil=>exact eL (J3 (ok.defs f n hn.1.1.1) (gC hn.1.1.2) (nI hn.1.2)) (λ_=>rfl) rfl
   |_=>exact nof hn.2
  |cons e es=>exact eL (J2 (ok.defs f n hn.1.1.1) (gC hn.1.1.2) (nI hn.1.2) b3 (b2 rfl)) (λ_=>rfl) rfl
 |srtT a iha=>
  refine⟨λX p ok h=>?_,noA λrd N sc ps=>rfl,noI λrd N sc tg p=>rfl⟩
  obtain⟨n,pn,q,pos,rfl,hn⟩:=DO h
  simp only[aM,beq_iff_eq]at hn
  obtain⟨⟨rfl,h2⟩,h3⟩:=hn
  obtain⟨a1,_,_,a4,_⟩:=iha.1 X q ok h3
  exact eL (KJ ok.roomy (ok.blt _ (by decide)) (gC h2) a4 a1) (λ_=>rfl) rfl
 |bt b a iha=>
  refine⟨λX p ok h=>?_,noA λrd N sc ps=>rfl,noI λrd N sc tg p=>rfl⟩
  obtain⟨n,pn,e,es,pos,rfl,hn⟩:=i_bt h
  simp only[aM,beq_iff_eq]at hn
  obtain⟨b1,_,b3⟩:=iha.2.1 X true (e::es) ok hn.2
  exact eL (se_bt hn.1.1.1 ok.calm hn.1.1.2 (ok.blt _ (by cases b<;>decide)) (gC hn.1.2) b3 b1) (λ_=>rfl) rfl
 |mth m a b iha ihb=>
  refine⟨λX p ok h=>?_,noA λrd N sc ps=>rfl,noI λrd N sc tg p=>rfl⟩
  obtain⟨o,nm,apos,q,cpos,rfl,hn⟩:=DP h
  simp only[aM,cL]at hn
  obtain⟨_,a2,_⟩:=iha.1 X o ok hn.1.2
  obtain⟨b1,_,_,b4,_⟩:=ihb.1 X q ok hn.2
  have e:nm=m.nm:=eq_of_beq hn.1.1.1.1.1
  exact eL (se_mth e (base_of hn.1.1.1.1.2 (by subst e;cases m<;>decide)) hn.1.1.1.2 b4 (a2 hn.1.1.2) b1) (λ_=>rfl) rfl
 |callT fs k a ihk iha=>
  refine⟨λX p ok h=>?_,noA λrd N sc ps=>rfl,noI λrd N sc tg p=>rfl⟩
  obtain⟨n,pn,q,pos',e,es,pos,rfl,hn⟩:=DQ h
  simp only[aM,cL]at hn
  obtain⟨⟨⟨⟨⟨h1,h2⟩,h3⟩,h4⟩,h5⟩,h6⟩:=hn
  obtain⟨_,a2,_,a4,_⟩:=ihk.1 X q ok h5
  obtain⟨_,b2,b3⟩:=iha.2.1 X false (e::es) ok h6
  exact eL (J5 a4 (ok.tf _ (uX.mp h1)) (gC h2) (nI h3) b3 (a2 h4) (b2 rfl)) (λ_=>rfl) rfl
 |gidx ss a iha=>
  refine⟨λX p ok h=>?_,noA λrd N sc ps=>rfl,noI λrd N sc tg p=>rfl⟩
  obtain⟨n,pn,nm,apos,q,cpos,rfl,hn⟩:=DR h
  simp only[aM]at hn
  obtain⟨⟨⟨⟨⟨h1,h2⟩,h3⟩,h4⟩,h5⟩,h6⟩:=hn
  obtain⟨b1,_,_,b4,_⟩:=iha.1 X q ok h6
  exact eL (J6 (ok.ts _ (uX.mp h1)) (gC h2) (nI h3) (eq_of_beq h4) h5 b4 b1) (λ_=>rfl) rfl
 |lset a iha=>
  refine⟨λX p ok h=>?_,noA λrd N sc ps=>rfl,noI λrd N sc tg p=>rfl⟩
  obtain⟨n,pn,m,pm,q,pos2,pos,rfl,hn⟩:=DS h
  simp only[aM]at hn
  obtain⟨⟨⟨⟨h1,h2⟩,h3⟩,h4⟩,h5⟩:=hn
  obtain⟨a1,_,_,a4,_⟩:=iha.1 X q ok h5
  cases eq_of_beq h1
  cases eq_of_beq h2
  exact eL (J7 ok.calm ok.roomy (ok.blt _ (by decide)) (ok.blt _ (by decide)) (gC h3) (gC h4) a4 a1) (λ_=>rfl) rfl
 |comp own caps g elt src cond ihe ihs ihc=>
  refine⟨λX p ok h=>?_,noA λrd N sc ps=>rfl,noI λrd N sc tg p=>rfl⟩
  obtain⟨pe,tg,iter,ifs,scope,pos,rfl,a2,a3,a4,a5,a6,a7,a8,a9,a10,a11,a12⟩:=DU h
  obtain⟨c1,c2,c3,c4,c5⟩:=DV ok ihe.1 ihs.2.2 ihc.1 a2 a3 a4 a5 a6 a8 a9 a10 a11 a12
  exact eL (Ci ok.calm c1 c2 a7 c3 c4 c5) (λ_=>rfl) rfl
 |seq a iha=>
  refine⟨noE λN sc p=>rfl,noA λrd N sc ps=>rfl,λX rd tg p ok h=>?_⟩
  change (_&&_)=true at h;simp only[aM,iR,cL]at h
  obtain⟨a1,a2,_,a4,_⟩:=iha.1 X p ok h.2
  refine⟨si_seq a1 λz=>a2 ?_,a4⟩
  rcases h.1 with q|q
  ·rw[z]at q;cases q
  ·exact q
 |rng a iha=>
  refine⟨noE λN sc p=>rfl,noA λrd N sc ps=>rfl,λX rd tg p ok h=>?_⟩
  obtain⟨n,pn,q,pos,rfl,hn⟩:=i_rng h
  simp only[aM,beq_iff_eq,cL]at hn
  obtain⟨_,a2,_,a4,_⟩:=iha.1 X q ok hn.2
  exact⟨si_rng hn.1.1.1 (gC hn.1.1.2) (ok.blt _ (by simp[nH])) a4 (a2 hn.1.2),rfl⟩
 |rng2 a b iha ihb=>
  refine⟨noE λN sc p=>rfl,noA λrd N sc ps=>rfl,λX rd tg p ok h=>?_⟩
  obtain⟨n,pn,q,r,pos,rfl,hn⟩:=i_rng2 h
  simp only[aM,beq_iff_eq,cL]at hn
  obtain⟨_,a2,_,a4,_⟩:=iha.1 X q ok hn.1.2
  obtain⟨_,b2,_,b4,_⟩:=ihb.1 X r ok hn.2
  exact⟨Ja hn.1.1.1.1.1 (gC hn.1.1.1.1.2) (ok.blt _ (by simp[nH])) a4 b4 (a2 hn.1.1.1.2) (b2 hn.1.1.2),rfl⟩
 |enum a iha=>
  refine⟨noE λN sc p=>rfl,noA λrd N sc ps=>rfl,λX rd tg p ok h=>?_⟩
  obtain⟨n,pn,q,pos,rfl,hn⟩:=i_enum h
  simp only[aM,beq_iff_eq,cL,iR]at hn
  obtain⟨a1,a2,_,a4,_⟩:=iha.1 X q ok hn.2
  cases tg with
  |Tuple es kk tpos=>
   refine⟨Jz hn.1.1.1.1 (gC hn.1.1.1.2) (ok.blt _ (by simp[nH])) a4 a1 λz=>a2 ?_,rfl⟩
   rcases hn.1.2 with q|q
   ·rw[z]at q;cases q
   ·exact q
  |_=>exact absurd hn.1.1.2 (by simp[wX])
end
end Tr
namespace Tr
open PySem PySem.Spec PyProof.Rows L2
variable{x:E}{N:List Str}{i:Nat}{pos pos':Pos}{sc:Scope}{n:Str}
section
variable(Tx:Txt)
noncomputable def KZ:E->Bool
 |.call _ _=>true
 |_=>false
noncomputable def vR(G:Str->Str->Str->Expr->Bool):Stmt->Bool
 |.Expr (.Call (.Name n _) [.Name n1 _,.Name n2 _,q] [] _) _=>G n n1 n2 q
 |_=>false
mutual
noncomputable def mB:S->List Str->Scope->List Stmt->Bool
 |.nil,_,_,[]=>true
 |.cons (.sealed _) r,N,sc,ps=>mB r N sc ps
 |.cons a r,N,sc,p::ps=>mS a N sc p&&mB r N sc ps
 |_,_,_,_=>false
termination_by structural x=>x
noncomputable def mS:S->List Str->Scope->Stmt->Bool
 |.ret x,N,sc,.Return (some p) _=>!aS x&&mE Tx x N sc p
 |.retO i,N,sc,.Return (some (.Name n _)) _=>fJ N sc i n
 |.asg g x,N,sc,.Assign [tg] p _=>!aS x&&mG false N sc g tg&&mE Tx x N sc p&&((iX p&&sM p)||(match g,tg with | .one _,.Name _ _=>true|_,_=>false))
 |.asgO i x,N,sc,.Assign [.Name n pn] p _=>!aS x&&mG false N sc (.one i) (.Name n pn)&&mE Tx x N sc p
 |.ite c a b,N,sc,.If p ps qs _=>mE Tx c N sc p&&mB a N sc ps&&mB b N sc qs
 |.forS g src b,N,sc,.For tg p ps [] _=>mI Tx src false N sc tg p&&mG false N sc g tg&&mB b N sc ps
 |.app i x,N,sc,p=>vM (λn nm apos cpos=>v1 λq=>fJ N sc i n&&(nm == "append")&&(apos.endLine==cpos.line)&&!aS x&&mE Tx x N sc q) p
 |.ext i x,N,sc,p=>vM (λn nm apos cpos=>v1 λq=>fJ N sc i n&&(nm == "extend")&&(apos.endLine==cpos.line)&&!aS x&&mE Tx x N sc q) p
 |.never,_,_,_=>true
 |.exp x,N,sc,.Expr p _=>KZ x&&mE Tx x N sc p
 |.appR i x,N,sc,p=>vM (λn nm apos cpos=>v1 λq=>fJ N sc i n&&(nm == "append")&&(apos.endLine==cpos.line)&&!aS x&&mE Tx x N sc q) p
 |.remR i x,N,sc,p=>vM (λn nm apos cpos=>v1 λq=>fJ N sc i n&&(nm == "remove")&&(apos.endLine==cpos.line)&&!aS x&&mE Tx x N sc q) p
 |.laid f i j x,N,sc,p=>vR (λn n1 n2 q=>Tx.dm.contains (f,n)&&glB sc n&&gL n&&fJ N sc i n1&&fJ N sc j n2&&!aS x&&mE Tx x N sc q) p
 |_,_,_,_=>false
termination_by structural x=>x
end
end
set_option genInjectivity false in
structure OkS(T:Tab)(cf:Nat->List D->Res D)(Tx:Txt)(X:Cx):Prop where
 ok:OkX T cf Tx X
 xe:X.xe=λ_ _=>False
 fn:∀n,X.fn n=true
 lam:∀p,Tx.lam=some p->LamX X p
section
variable{T:Tab}{cf:Nat->List D->Res D}{Tx:Txt}{X:Cx}
theorem OkS.pass(o:OkS T cf Tx X):PassesOwn (model X.prog X.w) X.A X.env X.xe:=by rw[o.xe];exact PassesOwn.never
noncomputable def PSx(T:Tab)(cf:Nat->List D->Res D)(Tx:Txt)(x:S):Prop:=∀X p,OkS T cf Tx X->mS Tx x X.N X.env.scope p=true->SS T cf X x p
noncomputable def PBx(T:Tab)(cf:Nat->List D->Res D)(Tx:Txt)(x:S):Prop:=∀X ps,OkS T cf Tx X->mB Tx x X.N X.env.scope ps=true->SB T cf X x ps
theorem noB{x:S}(h:∀N sc ps,mB Tx x N sc ps=false):PBx T cf Tx x:=λX ps _ m=>by rw[h]at m;cases m
theorem noS{x:S}(h:∀N sc p,mS Tx x N sc p=false):PSx T cf Tx x:=λX ps _ m=>by rw[h]at m;cases m
theorem vR_of{G:Str->Str->Str->Expr->Bool}{p:Stmt}(h:vR G p=true):∃n pn n1 p1 n2 p2 q pos pos',p=.Expr (.Call (.Name n pn) [.Name n1 p1,.Name n2 p2,q] [] pos) pos'/\G n n1 n2 q=true:=by
 unfold vR at h
 split at h
 ·exact⟨_,_,_,_,_,_,_,_,_,rfl,h⟩
 ·cases h
theorem x_comp{p:Expr}(hp:iX p=false)(h:mE Tx x N sc p=true):∃own caps g elt src cond,x=.comp own caps g elt src cond:=by
 cases x with
 |comp own caps g elt src cond=>exact⟨_,_,_,_,_,_,rfl⟩
 |var i=>obtain⟨n,pos,rfl,_⟩:=DD h;cases hp
 |rd i=>obtain⟨n,pos,rfl,_⟩:=i_rd h;cases hp
 |con d=>obtain⟨c,k,pos,rfl,_⟩:=DE h;cases hp
 |glob d=>obtain⟨c,pos,rfl,_⟩:=DF h;cases hp
 |bin o a b=>obtain⟨c,_,pos,rfl,_⟩:=DG h;cases hp
 |cmp o a b=>obtain⟨c,_,pos,rfl,_⟩:=DH h;cases hp
 |and a b=>obtain⟨c,_,_,pos,rfl,_⟩:=DJ h;cases hp
 |or a b=>obtain⟨c,_,_,pos,rfl,_⟩:=i_or h;cases hp
 |not a=>obtain⟨c,pos,rfl,_⟩:=DK h;cases hp
 |ife c a b=>obtain⟨c,_,_,pos,rfl,_⟩:=DL h;cases hp
 |ix a b=>obtain⟨c,_,pos,rfl,_⟩:=i_ix h;cases hp
 |sl a b c=>obtain⟨c,_,_,_,pos,rfl,_⟩:=i_sl h;cases hp
 |tup a=>obtain⟨c,_,pos,rfl,_⟩:=DM h;cases hp
 |lst a=>obtain⟨c,pos,rfl,_⟩:=DN h;cases hp
 |call f a=>obtain⟨c,_,_,pos,rfl,_⟩:=wY h;cases hp
 |srtT a=>obtain⟨c,_,_,pos,rfl,_⟩:=DO h;cases hp
 |bt f a=>obtain⟨c,_,_,_,pos,rfl,_⟩:=i_bt h;cases hp
 |callT fs k a=>obtain⟨_,_,_,_,_,_,pos,rfl,_⟩:=DQ h;cases hp
 |gidx ss a=>obtain⟨_,_,_,_,_,pos,rfl,_⟩:=DR h;cases hp
 |lset a=>obtain⟨_,_,_,_,_,_,pos,rfl,_⟩:=DS h;cases hp
 |mth m a b=>obtain⟨c,_,_,_,pos,rfl,_⟩:=DP h;cases hp
 |chain o o' a b c=>obtain⟨c,_,_,pos,rfl,_⟩:=DI h;cases hp
 |_=>exact nof h
theorem xB(o:OkS T cf Tx X)(h:mG false X.N X.env.scope (.one i) (.Name n pos)=true):X.N[i]?=some n/\Loc X.env.scope n/\(X.fn n=true\/X.env.scope.names.lookup n=some .local):=by
 change (_&&(_||_))=true at h
 simp only[aM,iR,beq_iff_eq,cL,Bool.not_false,true_and]at h
 exact⟨h.1,h.2,.inl (o.fn n)⟩
theorem DW{p:Expr}(b:Bool)(o:OkS T cf Tx X)(hp:iX p=false)(h1:mG false X.N X.env.scope (.one i) (.Name n pos)=true)(h2:mE Tx x X.N X.env.scope p=true):SS T cf X (if b then .asgO i x else .asg (.one i) x) (.Assign [.Name n pos] p pos'):=by
 obtain⟨own,caps,g,elt,src,cond,rfl⟩:=x_comp hp h2
 obtain⟨pe,tg,iter,ifs,scope,pos2,rfl,a2,a3,a4,a5,a6,a7,a8,a9,a10,a11,a12⟩:=DU h2
 obtain⟨c1,c2,c3,c4,c5⟩:=DV o.ok (fK elt).1 (fK src).2.2 (fK cond).1 a2 a3 a4 a5 a6 a8 a9 a10 a11 a12
 obtain⟨n1,n2,n3⟩:=xB o h1
 exact Ju o.ok.nd n1 n2 n3 o.ok.calm c1 c2 a7 c3 c4 b c5
theorem i_app {p:Stmt} (h:mS Tx (.app i x) N sc p=true):∃n px nm apos q cpos pos,p=.Expr (.Call (.Attribute (.Name n px) nm apos) [q] [] cpos) pos/\(fJ N sc i n&&(nm == "append")&&(apos.endLine==cpos.line)&&!aS x&&mE Tx x N sc q)=true:=by
 obtain⟨n,px,nm,apos,es,cpos,pos,rfl,g1⟩:=sQ h
 obtain⟨q,rfl,g2⟩:=iZ g1
 exact⟨n,px,nm,apos,q,cpos,pos,rfl,g2⟩
theorem i_ext {p:Stmt} (h:mS Tx (.ext i x) N sc p=true):∃n px nm apos q cpos pos,p=.Expr (.Call (.Attribute (.Name n px) nm apos) [q] [] cpos) pos/\(fJ N sc i n&&(nm == "extend")&&(apos.endLine==cpos.line)&&!aS x&&mE Tx x N sc q)=true:=by
 obtain⟨n,px,nm,apos,es,cpos,pos,rfl,g1⟩:=sQ h
 obtain⟨q,rfl,g2⟩:=iZ g1
 exact⟨n,px,nm,apos,q,cpos,pos,rfl,g2⟩
theorem K0{p:Expr}(hx:iX p=true)(hN:X.N.Nodup)(hi:X.N[i]?=some n)(hl:Loc X.env.scope n)(hf:X.fn n=true\/X.env.scope.names.lookup n=some .local)(h:SE T cf X x p):SS T cf X (.asg (.one i) x) (.Assign [.Name n pos'] p pos):=λH_h O_h=>by
 refine PS.imp (λD' σ H hq=>?_) (vD hN hi hl (h H_h O_h) (wL hx) hf)
 obtain⟨ts,e,out,⟨O,own,F,tt⟩,ev,k⟩:=hq
 rw[rY]at ev
 obtain⟨d,e1,ev⟩:=Res.bind_ok ev
 obtain⟨e2,e3,ev⟩:=Res.bind_ok ev
 cases ev
 cases e3
 exact⟨O,own,e,d,F,e1,λv H' s' r n=>k _ H' ⟨O,_,(F.grow s').setV i r,λt ht=>(tt t ht).same s'⟩⟩
theorem DX:∀x:S,PSx T cf Tx x/\PBx T cf Tx x:=by
 intro x
 induction x with
 |nil=>
  refine⟨noS λN sc p=>rfl,λX ps o h=>?_⟩
  cases ps with
  |nil=>exact sb_nil
  |cons _ _=>exact nof h
 |cons a r iha ihr=>
  refine⟨noS λN sc p=>rfl,λX ps o h=>?_⟩
  by_cases hs:∃i,a=.sealed i
  ·obtain⟨i,rfl⟩:=hs
   exact Ji (ihr.2 X ps o h)
  ·cases ps with
   |nil=>
    exfalso
    cases a<;>first|(exact hs ⟨_,rfl⟩)|exact nof h
   |cons p ps=>
    have h':(mS Tx a X.N X.env.scope p&&mB Tx r X.N X.env.scope ps)=true:=by
     cases a<;>first|(exact absurd ⟨_,rfl⟩ hs)|exact h
    rw[aM]at h'
    exact Jh (iha.1 X p o h'.1) (ihr.2 X ps o h'.2)
 |ret x=>
  refine⟨λX p o h=>?_,noB λN sc ps=>rfl⟩
  cases p with
  |Return v pos=>cases v with
   |some p=>
    change (_&&_)=true at h;simp only[aM,cL]at h
    exact ss_ret (((fK x).1 X p o.ok h.2).2.1 h.1)
   |none=>exact nof h
  |_=>exact nof h
 |retO i=>
  refine⟨λX p o h=>?_,noB λN sc ps=>rfl⟩
  cases p with
  |Return v pos=>cases v with
   |some p=>cases p with
    |Name n pn=>
     obtain⟨a1,a2,a3,a4⟩:=jR h
     exact Jj a1 a2 a3 a4
    |_=>exact nof h
   |none=>exact nof h
  |_=>exact nof h
 |asg g x=>
  refine⟨λX p o h=>?_,noB λN sc ps=>rfl⟩
  cases p with
  |Assign tgs p pos=>
   rcases tgs with _|⟨tg,_|⟨t2,tgs⟩⟩
   ·exact nof h
   ·change (_&&_)=true at h;simp only[aM,cL,iR]at h
    obtain⟨⟨⟨h1,h2⟩,h3⟩,h4⟩:=h
    obtain⟨g1,g2⟩:=xA o.ok.calm o.ok.nd (λn _=>o.fn n) h2
    by_cases hc:iX p=true
    ·by_cases ht:sM p=true
     ·exact ss_asg hc ht g2 (((fK x).1 X p o.ok h3).2.1 h1) g1
     ·rcases h4 with z|z
      ·exact absurd z.2 ht
      ·cases g with
       |one i=>cases tg with
        |Name n pn=>
         obtain⟨n1,n2,n3⟩:=xB o h2
         exact K0 hc o.ok.nd n1 n2 n3 (((fK x).1 X p o.ok h3).2.1 h1)
        |_=>cases z
       |many _=>cases z
    ·have hc':iX p=false:=by simpa using hc
     rcases h4 with z|z
     ·exact absurd z.1 hc
     ·cases g with
      |one i=>cases tg with
       |Name n pn=>exact DW false o hc' h2 h3
       |_=>cases z
      |many _=>cases z
   ·exact nof h
  |_=>exact nof h
 |asgO i x=>
  refine⟨λX p o h=>?_,noB λN sc ps=>rfl⟩
  cases p with
  |Assign tgs p pos=>
   rcases tgs with _|⟨tg,_|⟨t2,tgs⟩⟩
   ·exact nof h
   ·cases tg with
    |Name n pn=>
     change (_&&_)=true at h;simp only[aM,cL]at h
     obtain⟨⟨h1,h2⟩,h3⟩:=h
     by_cases hc:iX p=true
     ·obtain⟨n1,n2,n3⟩:=xB o h2
      exact Jm hc o.ok.nd n1 n2 n3 (((fK x).1 X p o.ok h3).2.1 h1)
     ·exact DW true o (by simpa using hc) h2 h3
    |_=>exact nof h
   ·cases tg<;>exact nof h
  |_=>exact nof h
 | «sealed» i=>exact⟨noS λN sc p=>rfl,noB λN sc ps=>rfl⟩
 |ite c a b iha ihb=>
  refine⟨λX p o h=>?_,noB λN sc ps=>rfl⟩
  cases p with
  |If p ps qs pos=>
   change (_&&_)=true at h;simp only[aM]at h
   exact ss_ite ((fK c).1 X p o.ok h.1.1).2.2.1 (iha.2 X ps o h.1.2) (ihb.2 X qs o h.2)
  |_=>exact nof h
 |forS g src b ihb=>
  refine⟨λX p o h=>?_,noB λN sc ps=>rfl⟩
  cases p with
  |For tg p ps qs pos=>cases qs with
   |nil=>
    change (_&&_)=true at h;simp only[aM]at h
    have hg:=(xA o.ok.calm o.ok.nd (λn _=>o.fn n) h.1.2).1
    obtain⟨s1,s2⟩:=(fK src).2.2 X false tg p o.ok h.1.1
    exact ss_for o.pass o.ok.calm s2 s1 hg (ihb.2 X ps o h.2)
   |cons _ _=>exact nof h
  |_=>exact nof h
 |app i x=>
  refine⟨λX p o h=>?_,noB λN sc ps=>rfl⟩
  obtain⟨n,px,nm,apos,q,cpos,pos,rfl,hn⟩:=i_app h
  simp only[aM,beq_iff_eq,cL]at hn
  obtain⟨a1,a2,a3,a4⟩:=jR hn.1.1.1.1
  obtain⟨_,b2,_,b4,_⟩:=(fK x).1 X q o.ok hn.2
  exact ss_app a1 a2 a3 a4 hn.1.1.1.2 (by simpa using hn.1.1.2) b4 (b2 hn.1.2)
 |ext i x=>
  refine⟨λX p o h=>?_,noB λN sc ps=>rfl⟩
  obtain⟨n,px,nm,apos,q,cpos,pos,rfl,hn⟩:=i_ext h
  simp only[aM,beq_iff_eq,cL]at hn
  obtain⟨a1,a2,a3,a4⟩:=jR hn.1.1.1.1
  obtain⟨_,b2,_,b4,_⟩:=(fK x).1 X q o.ok hn.2
  exact ss_ext a1 a2 a3 a4 hn.1.1.1.2 (by simpa using hn.1.1.2) b4 (b2 hn.1.2)
 |never=>
  exact⟨λX p o h=>Jn,noB λN sc ps=>rfl⟩
 |exp x=>
  refine⟨λX p o h=>?_,noB λN sc ps=>rfl⟩
  cases p with
  |Expr q pos=>
   change (_&&_)=true at h;simp only[aM]at h
   cases x with
   |call f a=>
    have b:=((fK (.call f a)).1 X q o.ok h.2).2.1 rfl
    obtain⟨c,_,_,pos2,rfl,_⟩:=wY h.2
    exact ss_exp rfl b
   |_=>exact nof h.1
  |_=>exact nof h
 |appR i x=>
  refine⟨λX p o h=>?_,noB λN sc ps=>rfl⟩
  obtain⟨n,px,nm,apos,es,cpos,pos,rfl,g1⟩:=sQ h
  obtain⟨q,rfl,hn⟩:=iZ g1
  simp only[aM,beq_iff_eq,cL]at hn
  obtain⟨a1,a2,a3,a4⟩:=jR hn.1.1.1.1
  obtain⟨_,b2,_,b4,_⟩:=(fK x).1 X q o.ok hn.2
  exact KU a1 a2 a3 a4 hn.1.1.1.2 (by simpa using hn.1.1.2) b4 (b2 hn.1.2)
 |remR i x=>
  refine⟨λX p o h=>?_,noB λN sc ps=>rfl⟩
  obtain⟨n,px,nm,apos,es,cpos,pos,rfl,g1⟩:=sQ h
  obtain⟨q,rfl,hn⟩:=iZ g1
  simp only[aM,beq_iff_eq,cL]at hn
  obtain⟨a1,a2,a3,a4⟩:=jR hn.1.1.1.1
  obtain⟨_,b2,_,b4,_⟩:=(fK x).1 X q o.ok hn.2
  exact KW o.ok.roomy a1 a2 a3 a4 hn.1.1.1.2 (by simpa using hn.1.1.2) b4 (b2 hn.1.2)
 |laid f i j x=>
  refine⟨λX p o h=>?_,noB λN sc ps=>rfl⟩
  obtain⟨n,pn,n1,p1,n2,p2,q,pos,pos',rfl,hn⟩:=vR_of h
  simp only[aM,cL]at hn
  obtain⟨⟨⟨⟨⟨⟨h1,h2⟩,h3⟩,h4⟩,h5⟩,h6⟩,h7⟩:=hn
  obtain⟨_,x2,_,x4,_⟩:=(fK x).1 X q o.ok h7
  exact KY (o.ok.dm (f,n) (uX.mp h1)) (gC h2) (nI h3) x4 (jR h4) (jR h5) (x2 h6)
end
end Tr
namespace Tr
open PySem PySem.Spec PyProof.Rows L2 PySem.W
section
variable{T:Tab}{cf:Nat->List D->Res D}{Tx:Txt}
end
end Tr
namespace Tr
open PySem PySem.Spec PyProof.Rows L2
variable{a b:Addr}{O:Addr->Prop}{H Hb:Hp}{ds j k:List D}{N:List Str}{vs:List V}{K:PySem.W.Frag}
set_option genInjectivity false in
structure DefT where
 nm:Str
 st:Stmt
 N:List Str
 ps:List Str
 body:S
 told:Option Told:=none
noncomputable def DefT.df(t:DefT):Df:=⟨t.N.length,t.ps.length,t.body,t.told⟩
noncomputable def xC(N P:List Str)(sc:Scope):Bool:=(sc.kind==.function)&&!sc.isCoroutine&&!sc.isGenerator&&iG N&&(N.take P.length==P)&&P.all (λx=>(sc.names.lookup x==some .local)||(sc.names.lookup x==some .cell))&&sc.names.all (λy=>!(y.2==.free))
theorem K1{P:List Str}{sc:Scope}(h:xC N P sc=true):FnScope N P sc:=by
 simp only[xC,aM,gO,iR,cL,beq_iff_eq,beq_eq_false_iff_ne,ne_eq]at h
 obtain⟨⟨⟨⟨⟨⟨h1,h2⟩,h3⟩,h4⟩,h5⟩,h6⟩,h7⟩:=h
 exact⟨h1,h2,h3,sO h4,h5,h6,h7⟩
noncomputable def DefT.okB(Tx:Txt)(t:DefT):Bool:=xC t.N t.ps (dX t.st)&&(t.told.isSome||mB (Tx.at t.st) t.body t.N (dX t.st) (fZ t.st))
noncomputable def sS(K:PySem.W.Frag)(mg:Str->Option Value)(n:Str)(d:D):Prop:=∃v u,mg n=some u/\RelV v u/\∀H O,RD K H O d v
noncomputable def IniK(K:PySem.W.Frag)(mg:Str->Option Value)(c:Str):Prop:=False
noncomputable def sT(K:PySem.W.Frag)(v:Value):Bool:=match v with
 |.ref c=>match sE K (.ref c)with
  |some P=>PySem.W.codeHdIn K c P
  |none=>false
 |_=>false
theorem K2{v:Value}(h:sT K v=true):∃c P,v=.ref c/\sE K v=some P/\PySem.W.codeHdIn K c P=true:=by
 unfold sT at h
 split at h
 ·rename_i c
  split at h
  ·rename_i P hP
   exact⟨c,P,rfl,hP,h⟩
  ·cases h
 ·cases h
noncomputable def lamOkB(K:PySem.W.Frag)(fd:FuncData):Bool:=(nB (CC fd.body)).isNone||sT K fd.code
noncomputable def DY(K:PySem.W.Frag):Bool:=K.all λq=>match q.2.data with
 |.func fd=>lamOkB K fd
 |_=>true
structure TextOk0(K:PySem.W.Frag)(mg:Str->Option Value)(T:Tab)(Tx:Txt)(defs:List DefT):Prop where
 dn:∀g nm,Tx.dn[g]?=some nm->T.mv g=none/\∃t,defs[g]?=some t/\nm=t.nm
 ok:defs.all (·.okB Tx)=true
 funs:∀t∈defs,∃f fd,Fun K t.nm t.nm t.st f fd/\mg t.nm=some (.ref f)/\Binds K fd t.ps []
 globs:∀g n,Tx.gn[g]?=some n->sS K mg n (T.glob g)
 blt:∀n∈nH,mg n=none
 tf:∀q∈Tx.tf,∃(a:Addr)(xs:List V),mg q.1=some (.ref a)/\(∀H,SqT K H a xs)/\xs.length=q.2.length/\∀(j f:Nat),q.2[j]?=some f->∃(ad:Addr)(t:DefT),xs[j]?=some (V.ref ad)/\mg t.nm=some (.ref ad)/\defs[f]?=some t
 ts:∀q∈Tx.ts,∃a:Addr,mg q.1=some (.ref a)/\sA K a q.2
 cls:∀c∈Tx.cls,∃C,ClsIs K mg c C
 ini:∀c∈Tx.icl,IniK K mg c
 dm:∀q∈Tx.dm,∃t,defs[q.1]?=some t/\q.2=t.nm
 tmv:∀q∈Tx.tf,∀f∈q.2,T.mv f=none
 lam:DY K=true
 nolam:Tx.lam=none:=by rfl
noncomputable def ToldOk(K:PySem.W.Frag)(mg:Str->Option Value)(T:Tab)(defs:List DefT)(t:DefT):Prop:=∀(P:Program)(w:World)(base:Heap)(n i:Nat)(f:Addr)(fd:FuncData),defs[i]?=some t->Fun K t.nm t.nm t.st f fd ->
 (∀i t,defs[i]?=some t->∀f fd,Fun K t.nm t.nm t.st f fd->FnOk P w K mg base (CXE P w) (n+2) f fd t.ps (iF K T (aA T (defs.map DefT.df) n i) i)) ->
 FnOk P w K mg base (CXE P w) (n+1+2) f fd t.ps (spD K (aA T (defs.map DefT.df) (n+1) i) (T.fresh i))
set_option genInjectivity false in
structure TextOk(K:PySem.W.Frag)(mg:Str->Option Value)(T:Tab)(Tx:Txt)(defs:List DefT):Prop extends TextOk0 K mg T Tx defs where
 told:∀t∈defs,∀td,t.told=some td->ToldOk K mg T defs t
 nmv:∀i t,defs[i]?=some t->t.told.isSome=true->T.mv i=none
theorem dn_of{T:Tab}{Tx:Txt}{defs:List DefT}(h1:(defs.take Tx.dn.length).map (·.nm)=Tx.dn)(h2:(aI Tx.dn.length).all (λg=>(T.mv g).isNone)=true):∀g nm,Tx.dn[g]?=some nm->T.mv g=none/\∃t,defs[g]?=some t/\nm=t.nm:=λg nm h=>by
 have hl:g<Tx.dn.length:=by
  by_cases z:g<Tx.dn.length
  ·exact z
  ·rw[uW (by lia)]at h;cases h
 refine⟨Option.isNone_iff_eq_none.mp (gO.mp h2 g (kC.mpr hl)),?_⟩
 rw[<-h1,cE,O6 hl]at h
 cases e:defs[g]? with
 |none=>rw[e]at h;cases h
 |some t=>rw[e]at h;cases h;exact⟨t,rfl,rfl⟩
theorem DZ{P:Program}{w:World}{K:PySem.W.Frag}{mg:Str->Option Value}{base:Heap}{T:Tab}{Tx:Txt}{defs:List DefT}(X:TextOk0 K mg T Tx defs){n:Nat}{N:List Str}{nm:Str}{sc:Scope}{f:Addr}{cdv:Value}{A:Around}{outer:List Env}{s:Shared}{H:Hp}{E:XK}(hr:Room (n+2) (A.deeper (envOfC nm sc s.heap.objs.size f cdv)))(nd:N.Nodup)
 (ih:∀i t,defs[i]?=some t->∀f fd,Fun K t.nm t.nm t.st f fd->FnOk P w K mg base (CXE P w) (n+2) f fd t.ps (iF K T (aA T (defs.map DefT.df) n i) i)) :
 OkX T (aA T (defs.map DefT.df) n) Tx (gJ (CXE P w) P w K mg base N nm sc f cdv A outer s H E).nox:=by
 have dfa:∀g t',defs[g]?=some t'->wW T (aA T (defs.map DefT.df) n) (gJ (CXE P w) P w K mg base N nm sc f cdv A outer s H E).nox g t'.nm:=λg t' e=>by
  obtain⟨f',fd',F',m',b'⟩:=X.funs t' (iO e)
  exact⟨n+2,f',fd',t'.ps,ih g t' e f' fd' F',hr,m',F'.kp,b'⟩
 have dfi:∀g t',T.mv g=none->defs[g]?=some t'->pF T (aA T (defs.map DefT.df) n) (gJ (CXE P w) P w K mg base N nm sc f cdv A outer s H E).nox g t'.nm:=λg t' hm e=>by
  obtain⟨k',f',fd',ps',h1,h2⟩:=dfa g t' e
  rw[pK hm]at h1
  exact⟨k',f',fd',ps',h1,h2⟩
 exact⟨rfl,hr.units,λg nm hg=>by
  obtain⟨hm,t',e,rfl⟩:=X.dn g nm hg
  exact dfi g t' hm e,λg nm hg=>X.globs g nm hg,X.blt,nd,λq hq=>by
  obtain⟨a,xs,h1,h2,h3,h4⟩:=X.tf q hq
  refine⟨a,xs,h1,h2,h3,λj g hg=>?_⟩
  obtain⟨ad,t',h5,h6,h7⟩:=h4 j g hg
  exact⟨ad,t'.nm,h5,h6,dfi g t' (X.tmv q hq g (iO hg)) h7⟩,X.ts,λq hq=>by
  obtain⟨t',e,e2⟩:=X.dm q hq
  rw[e2]
  exact dfa q.1 t' e⟩
theorem xD{P:Program}{w:World}{K:PySem.W.Frag}{mg:Str->Option Value}{base:Heap}{x qual:Str}{st:Stmt}{f:Addr}{fd:FuncData}{N ps:List Str}{k:Nat}{sp:Sp}(F:Fun K x qual st f fd)(S:FnScope N ps (dX st))(len:∀vs H Q E,sp vs H Q E->vs.length=ps.length)
 (hbody:∀(cdv:Value)(A:Around)(outer:List Env)(s:Shared)(H:Hp)(vs:List V)(Q:VK)(E:XK),fd.code=cdv->Room k (A.deeper (envOfC qual (dX st) s.heap.objs.size f cdv))->sp vs H Q E ->
  ∃t,PSs (gJ (CXE P w) P w K mg base N qual (dX st) f cdv A outer s H E) (fZ st) t/\t {nx:=λ_ H'=>Q .non H',rt:=Q} (cX N vs) H):FnOk P w K mg base (CXE P w) (k+1) f fd ps sp:=by
 obtain⟨oc,od,kV,doc,pm,an,cdv,ct,osl,rfl,lk,hcd⟩:=F.ex
 exact fn_of lk hcd S len λA outer s H vs Q E hr hsp=>hbody cdv A outer s H vs Q E rfl hr hsp
theorem OkX.at{T:Tab}{cf:Nat->List D->Res D}{Tx:Txt}{X:Cx}{st:Stmt}(o:OkX T cf Tx X):OkX T cf (Tx.at st) X:=⟨o.calm,o.roomy,o.defs,o.globs,o.blt,o.nd,o.tf,o.ts,o.dm⟩
theorem D0{P:Program}{w:World}{mg:Str->Option Value}{base:Heap}{Tx:Txt}{nm:Str}{st:Stmt}{f:Addr}{fd:FuncData}{cdv:Value}{A:Around}{outer:List Env}{s:Shared}{E:XK}(hl:DY K=true)(F:Fun K nm nm st f fd)(hc:fd.code=cdv)(hr:Room 2 (A.deeper (envOfC nm (dX st) s.heap.objs.size f cdv))) :
 ∀p,(Tx.at st).lam=some p->LamX (gJ (CXE P w) P w K mg base N nm (dX st) f cdv A outer s H E).nox p:=λp hp=>by
 obtain⟨oc,od,kV,doc,pm,an,cdv',ct,osl,rfl,lk,_⟩:=F.ex
 have hm:=PySem.W.mem_of_lookupK lk
 have h1:=gO.mp hl _ hm
 have hp:nB (fZ st)=some p:=hp
 have h2:((nB (fZ st)).isNone||sT K cdv')=true:=h1
 rw[hp,Option.isNone_some,Bool.false_or]at h2
 have hc:cdv'=cdv:=hc
 subst hc
 obtain⟨c,Q,rfl,hQ,h3⟩:=K2 h2
 refine⟨hr,c,Q,rfl,h3,?_⟩
 refine mM.mpr ⟨_,hm,?_⟩
 show((nB (fZ st)).bind λp=>(sE K (.ref c)).map λP=>(P,p,nm ++ ".<locals>." ++ "<lambda>"))=_
 rw[hp,hQ];rfl
section
variable{P:Program}{w:World}{K:PySem.W.Frag}{mg:Str->Option Value}{base:Heap}{T:Tab}{Tx:Txt}{defs:List DefT}
theorem D1(sm:Same Hb H)(w:RDs K H O ds vs)(tr:Trk K Hb O)(n:Nat)(hn:n=N.length-vs.length) :
 Fm K Hb O H O (λ_=>none) (ds.map Sl.v++aZ n Sl.no) (cX N vs) where
 len:=by
  unfold L2.cX
  rw[cP,cP,aD,aD,eR,eR,w.length,hn,w.length]
 sl:=λi=>by
  by_cases hi:i<ds.length
  ·obtain⟨v,h1,h2⟩:=w.get (aR hi)
   have e1:Nv.at (ds.map Sl.v++aZ n Sl.no) i=.v ds[i]:=by
    unfold Nv.at
    rw[oQ (by rw[aD];exact hi),cE,aR hi];rfl
   have e2:cQ (cX N vs) i=some v:=by
    unfold cQ L2.cX
    rw[oQ (by rw[aD,w.length];exact hi),cE,h1];rfl
   rw[e1,e2]
   exact⟨v,rfl,h2⟩
  ·have e1:Nv.at (ds.map Sl.v++aZ n Sl.no) i=.no:=by
    unfold Nv.at
    rw[iN (by rw[aD];lia),oP]
    split<;>rfl
   rw[e1];trivial
 inj:=λ_ _ _ h=>by cases h
 same:=sm
 sub:=λ_ h=>h
 trk0:=tr
 trk:=λa h=>let ⟨o,q⟩:=tr.1 a h;⟨o,sm _ _ q⟩
 new:=λ_ _ h=>by cases h
 nw:=λi d a h _=>by
  exfalso
  by_cases hi:i<ds.length
  ·have e1:Nv.at (ds.map Sl.v++aZ n Sl.no) i=.v ds[i]:=by
    unfold Nv.at
    rw[oQ (by rw[aD];exact hi),cE,aR hi];rfl
   rw[e1]at h;cases h
  ·have e1:Nv.at (ds.map Sl.v++aZ n Sl.no) i=.no:=by
    unfold Nv.at
    rw[iN (by rw[aD];lia),oP]
    split<;>rfl
   rw[e1]at h;cases h
theorem K3(w:RDs K H O ds vs)(tr:Trk K H O)(n:Nat)(hn:n=N.length-vs.length) :
 Fm K H O H O (λ_=>none) (ds.map Sl.v++aZ n Sl.no) (cX N vs):=D1 (Same.refl H) w tr n hn
theorem K4{N:List Str}(sm:Same Hb H)(w:RDs K H O ds vs)(tr:Trk K Hb O)(n:Nat)(hn:n=N.length-vs.length){j:Nat}{d0:D}{v0:V}(h1:ds[j]?=some d0)(h2:vs[j]?=some v0)(h3:NV K H O d0 v0)(h4:∀a,v0=.ref a->Hb a=none) :
 ∃own,Fm K Hb O H O own (eJ (some j) ds++aZ n Sl.no) (cX N vs):=by
 have F:=(D1 (N:=N) sm w tr n hn).setN j h3 h4
 have e1:(ds.map Sl.v++aZ n Sl.no).set j (.n d0)=eJ (some j) ds++aZ n Sl.no:=by
  have hj:j<ds.length:=by
   by_cases z:j<ds.length
   ·exact z
   ·rw[uW (by lia)]at h1;cases h1
  rw[List.set_append_left _ _ (by rw[aD];exact hj)]
  show _=(ds.map Sl.v).set j (.n (ds.getD j .non))++_
  rw[gI,h1];rfl
 have e2:(cX N vs).set j (some v0)=cX N vs:=by
  have q:(cX N vs)[j]?=some (some v0):=by
   unfold L2.cX
   have hj:j<vs.length:=by
    by_cases z:j<vs.length
    ·exact z
    ·rw[uW (by lia)]at h2;cases h2
   rw[oQ (by rw[aD];exact hj),cE,h2];rfl
  apply List.ext_getElem?
  intro i
  by_cases z:j=i
  ·subst z
   obtain⟨hl,_⟩:=fE.mp q
   rw[uQ hl,q]
  ·rw[uR z]
 rw[e1,e2]at F
 exact⟨_,F⟩
noncomputable def pM(H:Hp)(a b:Addr):Hp:=λc=>if c=a\/c=b then none else H c
theorem sU{c:Addr}(h1:c≠a)(h2:c≠b):pM H a b c=H c:=if_neg λz=>z.elim h1 h2
theorem K5(ha:OwnAt K H O a (.lst j))(hb:OwnAt K H O b (.lst k))(h:TabK K H):TabK K (pM H a b):=by
 obtain⟨_,e1,_⟩:=ha
 obtain⟨_,e2,_⟩:=hb
 refine⟨λt ht=>?_,λn=>?_⟩
 ·have e:=h.1 t ht
  rw[sU (λz=>by rw[z,e1]at e;cases e) (λz=>by rw[z,e2]at e;cases e)]
  exact e
 ·obtain⟨bm,ob,g1,g2,g3⟩:=h.2 n
  exact⟨bm,ob,g1,by rw[sU (λz=>by rw[z,e1]at g2;cases g2) (λz=>by rw[z,e2]at g2;cases g2)];exact g2,g3⟩
theorem K6{y:D}{w:V}(ab:a≠b)(oa:O a)(ob:O b)(tr:Trk K H O)(ry:RD K H O y w)(ha:OwnAt K H O a (.lst j))(hb:OwnAt K H O b (.lst k))(n:Nat)(hn:n=N.length-3) :
 Fm K (pM H a b) (λc=>O c/\c≠a/\c≠b) H O (λi=>if i=0 then some a else if i=1 then some b else none) ([.r a (.lst j),.r b (.lst k),.v y]++aZ n Sl.no) (cX N [.ref a,.ref b,w]) where
 len:=by
  unfold L2.cX
  rw[cP,cP,eR,eR,hn];rfl
 sl:=λi=>by
  match i with
  |0=>exact⟨rfl,rfl,ha⟩
  |1=>exact⟨rfl,rfl,hb⟩
  |2=>exact⟨w,rfl,ry⟩
  |i+3=>
   have e1:Nv.at ([.r a (.lst j),.r b (.lst k),.v y]++aZ n Sl.no) (i+3)=.no:=by
    unfold Nv.at
    rw[iN (by show 3<=i+3;lia),oP]
    split<;>rfl
   rw[e1];trivial
 inj:=λi i' c h1 h2=>by
  split at h1<;>split at h2
  ·lia
  ·split at h2
   ·cases h1;cases h2;exact absurd rfl ab
   ·cases h2
  ·split at h1
   ·cases h1;cases h2;exact absurd rfl ab
   ·cases h1
  ·split at h1<;>split at h2
   ·lia
   ·cases h2
   ·cases h1
   ·cases h1
 same:=λc o q=>by
  unfold pM at q
  split at q
  ·cases q
  ·exact q
 sub:=λc h=>h.1
 trk0:=⟨λc h=>by rw[sU h.2.1 h.2.2];exact tr.1 c h.1,K5 ha hb tr.2⟩
 trk:=tr.1
 new:=λi c h=>by
  split at h
  ·cases h;exact⟨oa,if_pos (.inl rfl)⟩
  ·split at h
   ·cases h;exact⟨ob,if_pos (.inr rfl)⟩
   ·cases h
 nw:=λi d c h _=>by
  exfalso
  match i with
  |0=>cases h
  |1=>cases h
  |2=>cases h
  |i+3=>
   have e1:Nv.at ([.r a (.lst j),.r b (.lst k),.v y]++aZ n Sl.no) (i+3)=.no:=by
    unfold Nv.at
    rw[iN (by show 3<=i+3;lia),oP]
    split<;>rfl
   rw[e1]at h;cases h
theorem D2(X:TextOk K mg T Tx defs):∀n i t,defs[i]?=some t->∀f fd,Fun K t.nm t.nm t.st f fd->FnOk P w K mg base (CXE P w) (n+2) f fd t.ps (iF K T (aA T (defs.map DefT.df) n i) i)
 |0,i,t,hi,f,fd,F=>by
  have no:∀vs H Q E,¬iF K T (aA T (defs.map DefT.df) 0 i) i vs H Q E:=λvs H Q E h=>by
   cases hmv:T.mv i with
   |none=>
    rw[pK hmv]at h
    obtain⟨O,ds,_,_,⟨d,ev,_⟩|⟨c,d,ev,_⟩⟩:=h
    ·cases ev
    ·cases ev
   |some j=>
    by_cases hj:j=1000
    ·subst hj
     rw[wV hmv]at h
     obtain⟨_,_,_,_,_,_,_,_,_,_,_,_,_,ev,_⟩:=h
     cases ev
    ·rw[DA hmv hj]at h
     obtain⟨O,ds,Hb,d0,v0,_,_,_,_,_,_,_,⟨d,ev,_⟩|⟨c,d,ev,_⟩⟩:=h
     ·cases ev
     ·cases ev
  exact⟨λvs H Q E h=>absurd h (no vs H Q E),λA outer s H args us vs Q E _ _ _ _ h=>absurd h (no vs H Q E)⟩
 |n+1,i,t,hi,f,fd,F=>by
  have ih:=D2 X n
  cases ht:t.told with
  |some td=>
   rw[pK (X.nmv i t hi (by rw[ht];rfl))]
   exact X.told t (iO hi) td ht P w base n i f fd hi F ih
  |none=>
  have hok:=gO.mp X.ok t (iO hi)
  unfold DefT.okB at hok
  rw[ht,Option.isSome_none,Bool.false_or,aM]at hok
  have S:=K1 hok.1
  have hdf:(defs.map DefT.df)[i]?=some ⟨t.N.length,t.ps.length,t.body,none⟩:=by rw[cE,hi];show some (DefT.df t)=_;unfold DefT.df;rw[ht]
  have lenOf:∀ds r,aA T (defs.map DefT.df) (n+1) i ds=r->r≠.no->ds.length=t.ps.length:=by
   intro ds r ev hr
   rw[mZ,hdf]at ev
   by_cases c:(ds.length==t.df.pars)=true
   ·exact(by simpa using c:ds.length=t.df.pars)
   ·have c':(ds.length==t.df.pars)=false:=by simpa using c
    have ev:aC (ds.length==t.df.pars) _=r:=ev
    rw[c']at ev
    exact absurd ev.symm hr
  by_cases hrf:T.mv i=some 1000
  ·rw[wV hrf]
   have len4:∀vs H Q E,spR K (aA T (defs.map DefT.df) (n+1) i) vs H Q E->vs.length=t.ps.length:=λvs H Q E h=>by
    obtain⟨_,_,_,_,_,_,_,_,_,rfl,_,_,_,ev,_⟩:=h
    exact lenOf _ _ ev (λz=>by cases z)
   refine xD F S len4 (λcdv A outer s H vs Q E hcd hr h=>?_)
   have hl:=len4 vs H Q E h
   obtain⟨O,y,j,k,u,a,b,j',k',rfl,ab,⟨oa,ob,tr⟩,⟨ry,ha,hb⟩,ev,kk⟩:=h
   have okx:=DZ (P:=P) (w:=w) (base:=base) X.toTextOk0 (cdv:=cdv) (outer:=outer) (H:=H) (E:=E) (f:=f) hr S.nd ih
   have oks:OkS T (aA T (defs.map DefT.df) n) (Tx.at t.st) (gJ (CXE P w) P w K mg base t.N t.nm (dX t.st) f cdv A outer s H E).nox:=⟨okx.at,rfl,λ_=>rfl,D0 X.lam F hcd (hr.mono (by lia))⟩
   rw[mZ,hdf]at ev
   obtain⟨_,ev⟩:=bO ev
   rw[if_pos hrf]at ev
   have ev:(match exS T (aA T (defs.map DefT.df) n) t.body ([.r (a:Nat) (.lst j),.r (b:Nat) (.lst k),.v y]++aZ (t.N.length-t.ps.length) Sl.no)with
    |.ok (.nx e)=>kM a b e
    |_=>.no)=.ok (.tup [.lst j',.lst k']):=ev
   cases hs:exS T (aA T (defs.map DefT.df) n) t.body ([.r (a:Nat) (.lst j),.r (b:Nat) (.lst k),.v y]++aZ (t.N.length-t.ps.length) Sl.no)with
   |ok out=>
    rw[hs]at ev
    cases out with
    |nx e'=>
     have ev:kM a b e'=.ok (.tup [.lst j',.lst k']):=ev
     unfold kM at ev
     split at ev
     ·rename_i a1 j1 b1 k1 w1 w2
      obtain⟨c2,ev⟩:=bO ev
      cases ev
      rw[aM,beq_iff_eq,beq_iff_eq]at c2
      obtain⟨rfl,rfl⟩:=c2
      refine⟨_,((DX t.body).2 _ _ oks hok.2 (pM H a1 b1) (λc=>O c/\c≠a1/\c≠b1)).nox,?_⟩
      refine⟨[],_,_,⟨O,_,K6 (N:=t.N) ab oa ob tr ry ha hb (t.N.length-t.ps.length) (by rw[<-hl];rfl),λt ht=>by cases ht⟩,hs,?_⟩
      rintro σ' H' ⟨O',own',F',_⟩
      have q1:=F'.sl 0
      rw[w1]at q1
      have q2:=F'.sl 1
      rw[w2]at q2
      have wk:∀c,O c->O' c:=λc hc=>by
       by_cases z1:c=a1
       ·rw[z1];exact(F'.new 0 _ q1.1).1
       ·by_cases z2:c=b1
        ·rw[z2];exact(F'.new 1 _ q2.1).1
        ·exact F'.sub c ⟨hc,z1,z2⟩
      exact kk H' (λc o n1 n2 q=>F'.same c o (by rw[sU n1 n2];exact q)) (q1.2.2.weak wk) (q2.2.2.weak wk)
     ·cases ev
    |_=>cases ev
   |err _ _=>rw[hs]at ev;cases ev
   |no=>rw[hs]at ev;cases ev
  have open1:∀ds,ds.length=t.ps.length->aA T (defs.map DefT.df) (n+1) i ds=(match exX T (aA T (defs.map DefT.df) n) t.body (eJ (T.mv i) ds++aZ (t.N.length-t.ps.length) Sl.no)with
   |some z=>.err z.1 z.2
   |none=>match exS T (aA T (defs.map DefT.df) n) t.body (eJ (T.mv i) ds++aZ (t.N.length-t.ps.length) Sl.no)with
    |.ok (.rt x k)=>aC (k||!T.fresh i) (.ok x)
    |.ok (.nx _)=>aC (!T.fresh i) (.ok .non)
    |_=>.no):=by
   intro ds hl
   rw[mZ,hdf]
   exact(bW (by simpa using hl) _).trans (if_neg hrf)
  have un:∀ds d,aA T (defs.map DefT.df) (n+1) i ds=.ok d->∃out,exS T (aA T (defs.map DefT.df) n) t.body (eJ (T.mv i) ds++aZ (t.N.length-t.ps.length) Sl.no)=.ok out /\
   ((∃k,out=.rt d k/\(k=true\/T.fresh i=false))\/(∃e,out=.nx e/\d=.non/\T.fresh i=false)):=by
   intro ds d ev
   rw[open1 ds (lenOf ds _ ev (λz=>by cases z))]at ev
   cases hx:exX T (aA T (defs.map DefT.df) n) t.body (eJ (T.mv i) ds++aZ (t.N.length-t.ps.length) Sl.no)with
   |some z=>rw[hx]at ev;cases ev
   |none=>
    rw[hx]at ev
    cases hs:exS T (aA T (defs.map DefT.df) n) t.body (eJ (T.mv i) ds++aZ (t.N.length-t.ps.length) Sl.no)with
    |ok out=>
     rw[hs]at ev
     refine⟨out,rfl,?_⟩
     cases out with
     |nx e=>
      obtain⟨c2,ev⟩:=bO ev
      cases ev
      exact .inr ⟨e,rfl,rfl,by simpa using c2⟩
     |rt x k=>
      obtain⟨c2,ev⟩:=bO ev
      cases ev
      exact .inl ⟨k,rfl,by simpa using c2⟩
     |bk e=>cases ev
     |ct e=>cases ev
     |rr _ _ _ _ _=>cases ev
    |err _ _=>rw[hs]at ev;cases ev
    |no=>rw[hs]at ev;cases ev
  have unX:∀ds c d,aA T (defs.map DefT.df) (n+1) i ds=.err c d->exX T (aA T (defs.map DefT.df) n) t.body (eJ (T.mv i) ds++aZ (t.N.length-t.ps.length) Sl.no)=some (c,d):=by
   intro ds c d ev
   rw[open1 ds (lenOf ds _ ev (λz=>by cases z))]at ev
   cases hx:exX T (aA T (defs.map DefT.df) n) t.body (eJ (T.mv i) ds++aZ (t.N.length-t.ps.length) Sl.no)with
   |some z=>rw[hx]at ev;cases ev;rfl
   |none=>
    rw[hx]at ev
    exfalso
    cases hs:exS T (aA T (defs.map DefT.df) n) t.body (eJ (T.mv i) ds++aZ (t.N.length-t.ps.length) Sl.no)with
    |ok out=>
     rw[hs]at ev
     cases out with
     |nx e=>have ev:aC (!T.fresh i) (Res.ok D.non)=Res.err c d:=ev;unfold aC at ev;split at ev<;>cases ev
     |rt x k=>have ev:aC (k||!T.fresh i) (Res.ok x)=Res.err c d:=ev;unfold aC at ev;split at ev<;>cases ev
     |bk e=>cases ev
     |ct e=>cases ev
     |rr _ _ _ _ _=>cases ev
    |err _ _=>rw[hs]at ev;cases ev
    |no=>rw[hs]at ev;cases ev
  have core:∀(cdv:Value)(A:Around)(outer:List Env)(s:Shared)(H Hb:Hp)(O:Addr->Prop)(ds:List D)(vs:List V)(own:Nat->Option Addr)(Q:VK)(E:XK),fd.code=cdv->Room (n+2) (A.deeper (envOfC t.nm (dX t.st) s.heap.objs.size f cdv))->Fm K Hb O H O own (eJ (T.mv i) ds++aZ (t.N.length-t.ps.length) Sl.no) (cX t.N vs) ->
   ((∃d,aA T (defs.map DefT.df) (n+1) i ds=.ok d/\∀v H',Same Hb H'->RD K H' O d v->(T.fresh i=true->NewR K Hb H' O d v)->Q v H')\/∃c d,aA T (defs.map DefT.df) (n+1) i ds=.err c d/\∀od H',Same Hb H'->wF d od H'->E (cvK K c) od H') ->
   ∃tt,PSs (gJ (CXE P w) P w K mg base t.N t.nm (dX t.st) f cdv A outer s H E) (fZ t.st) tt/\tt {nx:=λ_ H'=>Q .non H',rt:=Q} (cX t.N vs) H:=by
   intro cdv A outer s H Hb O ds vs own Q E hcd hr Fs h
   have okx:=DZ (P:=P) (w:=w) (base:=base) X.toTextOk0 (cdv:=cdv) (outer:=outer) (H:=H) (E:=E) (f:=f) hr S.nd ih
   have oks:OkS T (aA T (defs.map DefT.df) n) (Tx.at t.st) (gJ (CXE P w) P w K mg base t.N t.nm (dX t.st) f cdv A outer s H E).nox:=⟨okx.at,rfl,λ_=>rfl,D0 X.lam F hcd (hr.mono (by lia))⟩
   rcases h with⟨d,ev,k⟩|⟨c,d,ev,k⟩
   ·obtain⟨out,e1,e2⟩:=un ds d ev
    refine⟨_,((DX t.body).2 _ _ oks hok.2 Hb O).nox,?_⟩
    refine⟨[],_,out,⟨O,own,Fs,λt ht=>by cases ht⟩,e1,?_⟩
    rcases e2 with⟨fr,rfl,hf⟩|⟨e,rfl,rfl,hf⟩
    ·intro v H' s' r nl
     refine k v H' s' r λz=>nl ?_
     rcases hf with q|q
     ·exact q
     ·rw[z]at q;cases q
    ·rintro σ' H' ⟨O',own',F',_⟩
     exact k .non H' F'.same rfl λz=>by rw[z]at hf;cases hf
   ·exact nomatch unX ds c d ev
  cases hmv:T.mv i with
  |none=>
   rw[pK hmv]
   rw[hmv]at core
   refine xD F S (λvs H Q E h=>?_) (λcdv A outer s H vs Q E hcd hr h=>?_)
   ·obtain⟨O,ds,_,rr,⟨d,ev,_⟩|⟨c,d,ev,_⟩⟩:=h
    ·rw[rr.length];exact lenOf ds _ ev (λz=>by cases z)
    ·rw[rr.length];exact lenOf ds _ ev (λz=>by cases z)
   ·obtain⟨O,ds,tr,rr,h⟩:=h
    have hl:ds.length=t.ps.length:=by
     rcases h with⟨d,ev,_⟩|⟨c,d,ev,_⟩
     ·exact lenOf ds _ ev (λz=>by cases z)
     ·exact lenOf ds _ ev (λz=>by cases z)
    exact core cdv A outer s H H O ds vs _ Q E hcd hr (K3 (N:=t.N) rr tr (t.N.length-t.ps.length) (by rw[rr.length,hl])) h
  |some j=>
   rw[DA hmv (λz=>hrf (by rw[hmv,z]))]
   rw[hmv]at core
   refine xD F S (λvs H Q E h=>?_) (λcdv A outer s H vs Q E hcd hr h=>?_)
   ·obtain⟨O,ds,Hb,d0,v0,_,_,rr,_,_,_,_,⟨d,ev,_⟩|⟨c,d,ev,_⟩⟩:=h
    ·rw[rr.length];exact lenOf ds _ ev (λz=>by cases z)
    ·rw[rr.length];exact lenOf ds _ ev (λz=>by cases z)
   ·obtain⟨O,ds,Hb,d0,v0,sm,tr,rr,g1,g2,g3,g4,h⟩:=h
    have hl:ds.length=t.ps.length:=by
     rcases h with⟨d,ev,_⟩|⟨c,d,ev,_⟩
     ·exact lenOf ds _ ev (λz=>by cases z)
     ·exact lenOf ds _ ev (λz=>by cases z)
    obtain⟨own,Fs⟩:=K4 (N:=t.N) sm rr tr (t.N.length-t.ps.length) (by rw[rr.length,hl]) g1 g2 g3 g4
    exact core cdv A outer s H Hb O ds vs own Q E hcd hr Fs h
theorem law_sp{i n:Nat}(hT:∀ns:List Int,ns.length<=63->aA T (defs.map DefT.df) n i [.lst (ns.map D.int)]=.ok (.bl true))(K:PySem.W.Frag)(H:Hp)(a:Addr)(ns:List Int)(hl:ns.length<=63)(ht:TabK K H)(hS:SqL K H a (ns.map V.int)){Q:VK}(hQ:∀H',Same H H'->Q (.bl true) H') :
 spD K (aA T (defs.map DefT.df) n i) (T.fresh i) [.ref a] H Q (λ_ _ _=>False):=by
 refine⟨no,[.lst (ns.map D.int)],⟨λa h=>h.elim,ht⟩,⟨.ref a,[],rfl,⟨a,ns.map V.int,rfl,?_,?_⟩,rfl⟩,.inl ⟨.bl true,hT ns hl,λv H' s r _=>by
  cases (show v=.bl true from r)
  exact hQ H' s⟩⟩
 ·rcases hS with z|z
  ·exact .inl ⟨λq=>q,z⟩
  ·exact .inr z
 ·clear hl hS
  induction ns with
  |nil=>exact rfl
  |cons i r ih=>exact⟨.int i,r.map V.int,rfl,rfl,ih⟩
end
end Tr
namespace Tr
open PySem PySem.Spec PyProof.Rows L2 PySem.W
section
variable{X:Cx}{i:Nat}{x c:Str}{C:Addr}{b:Bool}{p:Expr}
end
noncomputable def isNon:D->Bool
 |.non=>true
 |_=>false
section
variable{T:Tab}{cf:Nat->List D->Res D}
end
section
variable{K:PySem.W.Frag}{mg:Str->Option Value}{T:Tab}{Tx:Txt}{defs:List DefT}
end
section
variable{K:PySem.W.Frag}{mg:Str->Option Value}{T:Tab}{Tx:Txt}{defs:List DefT}
theorem K7(X:TextOk0 K mg T Tx defs)(h:defs.filter (λt=>t.told.isSome)=[]):TextOk K mg T Tx defs:=
 ⟨X,λt ht td e=>by
  have:t∈defs.filter (λt=>t.told.isSome):=dW.mpr ⟨ht,by rw[e];rfl⟩
  rw[h]at this;exact(nomatch this),λi t hi hs=>by
  have:t∈defs.filter (λt=>t.told.isSome):=dW.mpr ⟨iO hi,hs⟩
  rw[h]at this;cases this⟩
end
section
variable{K:PySem.W.Frag}{mg:Str->Option Value}{T:Tab}{Tx:Txt}{defs:List DefT}
end
section
variable{K:PySem.W.Frag}{mg:Str->Option Value}{T:Tab}{Tx:Txt}{defs:List DefT}
end
end Tr
namespace Tr
open PySem PySem.Spec PyProof.Rows L2
variable{h:Heap}{P:List Value->Prop}{K:PySem.W.Frag}{x:Str}{mg:Str->Option Value}{t:Tok}
theorem gM(h:∀a0:Value,P [a0]):∀us:List Value,us.length=1->P us
 |[_],_=>h _
theorem bY(h:∀a0 a1:Value,P [a0,a1]):∀us:List Value,us.length=2->P us
 |[_,_],_=>h _ _
theorem jA(h:∀a0 a1 a2:Value,P [a0,a1,a2]):∀us:List Value,us.length=3->P us
 |[_,_,_],_=>h _ _ _
theorem len4(h:∀a0 a1 a2 a3:Value,P [a0,a1,a2,a3]):∀us:List Value,us.length=4->P us
 |[_,_,_,_],_=>h _ _ _ _
theorem aV{K:PySem.W.Frag}{h:Heap}{mg:Str->Option Value}(X:K.In h)(G:h.Ns mainGlobals mg){x:Str}{st:Stmt}{ps:List Str}{f:Addr}{oc:Value}{od an:Option Addr}{osl:Array (Option Value)}{kV doc pm cdv ct:Value}
 (a:PySem.W.nsIn K mainGlobals x=some (some (.ref f))) (l:K.lookup f=some ⟨oc,od,.func (PySem.W.fnOf x x (lK st) (fZ st) (dX st) .none kV doc pm an cdv ct),osl⟩)
 (c:PySem.W.codeIn K cdv x=true) (k:PySem.W.keepIn K (.ref f)=true)
 (hb:∀(kV doc pm:Value)(an:Option Addr)(cdv ct:Value)(us:List Value),us.length=ps.length->bindArgs (PySem.W.fnOf x x (lK st) (fZ st) (dX st) .none kV doc pm an cdv ct) ⟨us,[]⟩=pure (ps.zip us)) :
 ∃f fd,Fun K x x st f fd/\mg x=some (.ref f)/\Binds K fd ps []:=
 ⟨f,_,BO l c k,PySem.W.mg_of X G a,(BO (st:=st) l c k).binds hb⟩
theorem nJ(X:K.In h)(G:h.Ns mainGlobals mg){i:Int}(a:PySem.W.nsIn K mainGlobals x=some (some (.int i t))):sS K mg x (.int i):=
 ⟨.int i,.int i t,PySem.W.mg_of X G a,⟨t,rfl⟩,λ_ _=>rfl⟩
theorem D3(X:K.In h)(G:h.Ns mainGlobals mg){i:Str}(a:PySem.W.nsIn K mainGlobals x=some (some (.str i t))):sS K mg x (.str i):=
 ⟨.str i,.str i t,PySem.W.mg_of X G a,⟨t,rfl⟩,λ_ _=>rfl⟩
noncomputable def pN:List Value->List Str->Bool
 |[],[]=>true
 |.str x _::r,y::q=>(x==y)&&pN r q
 |_,_=>false
theorem xE:∀{us:List Value} {ss:List Str},pN us ss=true->Vals (ss.map V.str) us
 |[],[],_=>.nil
 |[],_::_,h=>nof h
 |.str x t::r,y::q,h=>by
  have h:=bF (show((x==y)&&pN r q)=true from h)
  cases eq_of_beq h.1
  exact .cons ⟨t,rfl⟩ (xE h.2)
 |u::_,[],h=>by cases u<;>exact nof h
 |.none::_,_::_,h=>nof h
 |.bool _::_,_::_,h=>nof h
 |.int _ _::_,_::_,h=>nof h
 |.float _ _::_,_::_,h=>nof h
 |.bytes _ _::_,_::_,h=>nof h
 |.ref _::_,_::_,h=>nof h
 |.type _::_,_::_,h=>nof h
 |.builtin _::_,_::_,h=>nof h
 |.ellipsis::_,_::_,h=>nof h
 |.notImplemented::_,_::_,h=>nof h
theorem D4{H:Hp}{O:Addr->Prop}:∀ss:List Str,RDs K H O (ss.map D.str) (ss.map V.str)
 |[]=>rfl
 |s::r=>⟨.str s,r.map V.str,rfl,rfl,D4 r⟩
theorem K8{K:PySem.W.Frag}{h:Heap}{mg:Str->Option Value}(X:K.In h)(G:h.Ns mainGlobals mg){x:Str}{ss:List Str}{ds:List D}{ad:Addr}{dd:Option Addr}{its:Array Value}{n:Nat}{sl:Array (Option Value)}
 (a:PySem.W.nsIn K mainGlobals x=some (some (.ref ad))) (l:K.lookup ad=some ⟨.type "tuple", dd,.seq its n,sl⟩) (hz:its.size<=sizeLine) (hv:pN its.toList ss=true) (hd:ds=ss.map D.str) (hne:ss≠[]:=by decide):sS K mg x (.tup ds):=by
 subst hd
 exact⟨.ref ad,.ref ad,PySem.W.mg_of X G a,rfl,λH O=>⟨ad,ss.map V.str,rfl,.inr ⟨⟨ss,hne,rfl⟩,_,its,n,l,rfl,rfl,hz,xE hv⟩,D4 ss⟩⟩
theorem K9{K:PySem.W.Frag}{h:Heap}{mg:Str->Option Value}(X:K.In h)(G:h.Ns mainGlobals mg){x:Str}{ss:List Str}{ad:Addr}{its:Array Value}{n:Nat}{sl:Array (Option Value)}
 (a:PySem.W.nsIn K mainGlobals x=some (some (.ref ad))) (l:K.lookup ad=some ⟨.type "tuple", none,.seq its n,sl⟩) (hv:pN its.toList ss=true):∃a:Addr,mg (x,ss).1=some (.ref a)/\sA K a (x,ss).2:=
 ⟨ad,PySem.W.mg_of X G a,_,its,n,l,rfl,rfl,rfl,xE hv⟩
noncomputable def Ents(K:PySem.W.Frag)(defs:List DefT):List Value->List Nat->Prop
 |[],[]=>True
 |u::us,f::fs=>(∃ad t m,u=.ref ad/\defs[f]?=some t/\t.nm=m/\PySem.W.nsIn K mainGlobals m=some (some (.ref ad)))/\Ents K defs us fs
 |_,_=>False
theorem D5(X:K.In h)(G:h.Ns mainGlobals mg){defs:List DefT}:∀{us:List Value} {fs:List Nat},Ents K defs us fs ->
 ∃xs:List V,Vals xs us/\xs.length=fs.length/\∀(j f:Nat),fs[j]?=some f->∃(ad:Addr)(t:DefT),xs[j]?=some (V.ref ad)/\mg t.nm=some (.ref ad)/\defs[f]?=some t
 |[],[],_=>⟨[],.nil,rfl,λj f h=>by simp at h⟩
 |[],_::_,h=>h.elim
 |_::_,[],h=>h.elim
 |u::us,f::fs,⟨⟨ad,t,m,h1,h2,h3,h4⟩,r⟩=>by
  obtain⟨xs,q1,q2,q3⟩:=D5 X G r
  subst h1 h3
  refine⟨.ref ad::xs,.cons rfl q1,by rw[aW,aW,q2],λj g hj=>?_⟩
  cases j with
  |zero=>simp at hj;subst hj;exact⟨ad,t,rfl,PySem.W.mg_of X G h4,h2⟩
  |succ j=>exact q3 j g (by simpa using hj)
theorem tab_in{K:PySem.W.Frag}{h:Heap}{mg:Str->Option Value}(X:K.In h)(G:h.Ns mainGlobals mg){x:Str}{fs:List Nat}{defs:List DefT}{ad:Addr}{dd:Option Addr}{its:Array Value}{n:Nat}{sl:Array (Option Value)}
 (a:PySem.W.nsIn K mainGlobals x=some (some (.ref ad))) (l:K.lookup ad=some ⟨.type "tuple", dd,.seq its n,sl⟩) (hz:its.size<=sizeLine) (hr:Ents K defs its.toList fs) :
 ∃(a:Addr)(xs:List V),mg (x,fs).1=some (.ref a)/\(∀H,SqT K H a xs)/\xs.length=(x,fs).2.length/\∀(j f:Nat),(x,fs).2[j]?=some f->∃(ad:Addr)(t:DefT),xs[j]?=some (V.ref ad)/\mg t.nm=some (.ref ad)/\defs[f]?=some t:=by
 obtain⟨xs,q1,q2,q3⟩:=D5 X G hr
 exact⟨ad,xs,PySem.W.mg_of X G a,λH=>.inr ⟨_,its,n,l,rfl,rfl,hz,q1⟩,q2,q3⟩
theorem dI(X:K.In h)(G:h.Ns mainGlobals mg)(a:PySem.W.nsIn K mainGlobals x=some none):mg x=none:=PySem.W.mg_none_of X G a
theorem walkT{l:PySem.W.OpenLaw}{q:Program}{loose:List Str}{XP:(Str->Option Value)->Heap->Prop}{YP:World->Heap->Prop}{d:DefRec}{K:Params->PySem.W.Frag}{T:Tab}{Tx:Txt}{defs:List DefT}{i n:Nat}{tl:DefT}{x:Str}
 (hi:defs[i]?=some tl) (hps:tl.ps=[x]) (hnm:tl.nm=d.name)
 (hn:l.most=some 63) (hdf:d.params.defaults=[]) (hr:Room (n+2) callerA)
 (hT:∀ns:List Int,ns.length<=63->aA T (defs.map DefT.df) n i [.lst (ns.map D.int)]=.ok (.bl true))
 (hY:∀(w:World)(h:Heap),YP w h->(K w.params).In h)
 (hX:∀(w:World)(mg:Str->Option Value)(h:Heap),(K w.params).In h->h.Ns mainGlobals mg->TextOk (K w.params) mg T Tx defs)
 (hL:∀p,oZ (K p)=[])
 (hb:∀(kV doc pm:Value)(an:Option Addr)(cdv ct:Value)(u:Value),bindArgs (PySem.W.fnOf tl.nm tl.nm (lK tl.st) (fZ tl.st) (dX tl.st) .none kV doc pm an cdv ct) ⟨[u],[]⟩=pure [(x,u)]) (hmv:T.mv i=none:=by rfl) :
 PySem.W.WalkO q loose XP YP l.row.toRowW d [] (λf vs=>PySem.call f vs):=by
 refine L2.IG (K:=K) (n:=63) (k:=n+2) (x:=x) (CX:=λw=>CXE l.prog w) (sp:=λw=>spD (K w.params) (aA T (defs.map DefT.df) n i) (T.fresh i)) hn (by decide) hdf hr hY ?_ (λw H a ns hl _ hS=>law_sp hT (K w.params) H a ns hl (.none (hL w.params)) hS λ_ _=>rfl) (λ_ _ _ _ _ h=>by obtain⟨_,_,_,_,_,_,_,_,_,_,_,_,_,_,_,_,_,z⟩:=h;exact z.elim)
 intro w mg fa h KX G hmg
 have tx:=hX w mg h KX G
 obtain⟨f,fd,F,m,_⟩:=tx.funs tl (iO hi)
 rw[hnm,hmg]at m
 cases m
 refine⟨fd,λs u=>?_,λbase kb nb=>?_⟩
 ·obtain⟨oc,od,kV,doc,pm,an,cdv,ct,osl,rfl,lk,hcd⟩:=F.ex
  exact .of_eq (hb kV doc pm an cdv ct u)
 ·have:=D2 (P:=l.prog) (w:=w) (base:=base) tx n i tl hi fa fd F
  rw[hps,pK hmv]at this
  exact this
end Tr
namespace Tr
theorem all_cons{α:Type}{p:α->Prop}{a:α}{l:List α}(h:p a)(r:∀x∈l,p x):∀x∈a::l,p x:=List.forall_mem_cons.mpr ⟨h,r⟩
theorem lQ{α:Type}{p:α->Prop}:∀x∈([]:List α),p x:=λ_ h=>by cases h
theorem jS{α:Type}{p:Nat->α->Prop}{a:α}{l:List α}(h:p 0 a)(r:∀g n,l[g]?=some n->p (g+1) n):∀g n,(a::l)[g]?=some n->p g n
 |0,n,e=>by simp at e;subst e;exact h
 |g+1,n,e=>r g n (by simpa using e)
theorem gl_nil{α:Type}{p:Nat->α->Prop}:∀g n,([]:List α)[g]?=some n->p g n:=λg n e=>by simp at e
end Tr
namespace Tr
open PySem
variable{k:Bool}{o:CmpOp}{d:D}{f:D->Nv->Res Out}{a b c src x:E}{g:G}{i j:Int}{ds r:List D}{is:List Nat}{n:Nat}{e e1:Nv}{hi lo:Option Int}
section
variable{T:Tab}{cf:Nat->List D->Res D}{e:Nv}
@[simp] theorem K_{i:Nat}:evE T cf (.var i) e=(e.at i).val:=id rfl
@[simp] theorem evE_rd{i:Nat}:evE T cf (.rd i) e=(e.at i).any:=id rfl
@[simp] theorem Ka:evE T cf (.con d) e=.ok d:=id rfl
@[simp] theorem Kb{g:Nat}:evE T cf (.glob g) e=.ok (T.glob g):=id rfl
@[simp] theorem Kc{o:Operator}:evE T cf (.bin o a b) e=(do let x<-evE T cf a e;let y<-evE T cf b e;D.bin o x y):=id rfl
@[simp] theorem D6:evE T cf (.cmp o a b) e=(do let x<-evE T cf a e;let y<-evE T cf b e;D.cmp o x y):=id rfl
@[simp] theorem Kd:evE T cf (.and a b) e=(do let x<-evE T cf a e;let k<-x.truth;if k then evE T cf b e else .ok x):=id rfl
@[simp] theorem evE_or:evE T cf (.or a b) e=(do let x<-evE T cf a e;let k<-x.truth;if k then .ok x else evE T cf b e):=id rfl
@[simp] theorem Ke:evE T cf (.not a) e=(do let x<-evE T cf a e;let k<-x.truth;.ok (.bl (!k))):=id rfl
@[simp] theorem Kf:evE T cf (.ife c a b) e=(do let x<-evE T cf c e;let k<-x.truth;if k then evE T cf a e else evE T cf b e):=id rfl
@[simp] theorem evE_ix:evE T cf (.ix a b) e=(do let x<-evE T cf a e;let y<-evE T cf b e;D.ix x y):=id rfl
@[simp] theorem evE_sl{lo hi:E}:evE T cf (.sl a lo hi) e=(do let x<-evE T cf a e;let l<-evE T cf lo e;let l<-l.part;let h<-evE T cf hi e;let h<-h.part;D.sl x l h):=id rfl
@[simp] theorem Kg:evE T cf .omit e=.ok .non:=id rfl
@[simp] theorem Kh:evE T cf (.tup a) e=(do let xs<-evA T cf a e;.ok (.tup xs)):=id rfl
@[simp] theorem Ki:evE T cf (.lst a) e=(do let xs<-evA T cf a e;.ok (.lst xs)):=id rfl
@[simp] theorem Kj{f:Nat}:evE T cf (.call f a) e=(do let xs<-evA T cf a e;cf f xs):=id rfl
@[simp] theorem evE_bt{b:Bt}:evE T cf (.bt b a) e=(do let xs<-evA T cf a e;b.run xs):=id rfl
@[simp] theorem Kk{m:Mt}:evE T cf (.mth m a b) e=(do let x<-evE T cf a e;let y<-evE T cf b e;m.run x y):=id rfl
@[simp] theorem evE_callT{fs:List Nat}{k:E}:evE T cf (.callT fs k a) e=(do let x<-evE T cf k e;let f<-kI fs x;let xs<-evA T cf a e;cf f xs):=id rfl
@[simp] theorem evE_gidx{ss:List Str}:evE T cf (.gidx ss a) e=(do let x<-evE T cf a e;kJ ss x):=id rfl
@[simp] theorem evE_lset:evE T cf (.lset a) e=(do let x<-evE T cf a e;x.setN):=id rfl
theorem xF{x:D}{ks:List (Sum Int Str)}(h:x.keys=.ok ks):x.setN=aC (decide (ks.length+1<4096)) (.ok (.int (iD ks).length)):=by
 unfold D.setN
 rw[h]
noncomputable def D7(r:Res D):D->Res D
 |.bl true=>r
 |.bl false=>.ok (.bl false)
 |_=>.no
@[simp] theorem Kl{r:Res D}{b:Bool}:D7 r (.bl b)=if b=true then r else .ok (.bl false):=by cases b<;>rfl
@[simp] theorem Km{p:CmpOp}:evE T cf (.chain o p a b c) e=(do
 let x<-evE T cf a e
 let y<-evE T cf b e
 let w<-D.cmp o x y
 D7 (do let z<-evE T cf c e;D.cmp p y z) w):=by
 rw[vT]
 cases evE T cf a e with
 |ok x=>
  cases evE T cf b e with
  |ok y=>
   show(D.cmp o x y>>=_)=(D.cmp o x y>>=_)
   cases D.cmp o x y with
   |ok w=>
    cases w with
    |bl b=>cases b<;>rfl
    |_=>rfl
   |err _ _=>rfl
   |no=>rfl
  |err _ _=>rfl
  |no=>rfl
 |err _ _=>rfl
 |no=>rfl
noncomputable def bE(T:Tab)(cf:Nat->List D->Res D)(own:Nat)(caps:List Nat)(g:G)(elt cond:E)(e:Nv)(d:D):Res (Option D):=do
 let e1<-g.put d (bT own caps e)
 let c<-evE T cf cond e1
 let k<-c.truth
 if k then do let y<-evE T cf elt e1;.ok (some y)else .ok none
@[simp] theorem Kn{own:Nat}{caps:List Nat}{elt cond:E}:evE T cf (.comp own caps g elt src cond) e=(do
 let ds<-evI T cf src e
 let ys<-aU (bE T cf own caps g elt cond e) ds
 aC (decide (ds.length<=big)) (.ok (.lst ys))):=id rfl
@[simp] theorem Ko:evA T cf .anil e=.ok []:=id rfl
@[simp] theorem Kp{r:E}:evA T cf (.acons a r) e=(do let x<-evE T cf a e;let q<-evA T cf r e;aC (decide (q.length<1000)) (.ok (x::q))):=id rfl
@[simp] theorem Kq:evI T cf (.seq a) e=(do let x<-evE T cf a e;x.items):=id rfl
noncomputable def jB:D->Res (List D)
 |.int n=>aC (eU n) (.ok (cU 0 n.toNat))
 |_=>.no
noncomputable def pO:D->D->Res (List D)
 |.int n,.int m=>aC (eU n&&eU m) (.ok (cU n (m-n).toNat))
 |_,_=>.no
noncomputable def jT:D->Res (List D)
 |.lst ds=>.ok (bX 0 ds)
 |.tup ds=>.ok (bX 0 ds)
 |_=>.no
@[simp] theorem Kr:evI T cf (.rng a) e=(do let x<-evE T cf a e;jB x):=by
 rw[B7]
 cases evE T cf a e with
 |ok x=>cases x<;>rfl
 |err _ _=>rfl
 |no=>rfl
@[simp] theorem Ks:evI T cf (.rng2 a b) e=(do let x<-evE T cf a e;match x with | .int _=>do let y<-evE T cf b e;pO x y|_=>.no):=by
 rw[B8]
 cases evE T cf a e with
 |ok x=>
  cases x<;>try rfl
  show(do let y<-evE T cf b e;_)=(do let y<-evE T cf b e;_)
  cases evE T cf b e with
  |ok y=>cases y<;>rfl
  |err _ _=>rfl
  |no=>rfl
 |err _ _=>rfl
 |no=>rfl
@[simp] theorem Kt:evI T cf (.enum a) e=(do let x<-evE T cf a e;jT x):=by
 rw[B9]
 cases evE T cf a e with
 |ok x=>cases x<;>rfl
 |err _ _=>rfl
 |no=>rfl
theorem lR(h:n<4611686018427387904):jB (.int n)=.ok (cU 0 n):=by
 show aC (eU n) _=_
 rw[bW (by unfold eU;rw[decide_eq_true (by lia),decide_eq_true (by lia)];rfl)]
 simp
theorem Ku{m:Nat}(h:n<4611686018427387904)(h2:m<4611686018427387904):pO (.int n) (.int m)=.ok (cU n (m-n)):=by
 show aC (eU n&&eU m) _=_
 rw[bW (by unfold eU;rw[decide_eq_true (by lia),decide_eq_true (by lia),decide_eq_true (by lia),decide_eq_true (by lia)];rfl)]
 congr 2
 lia
@[simp] theorem Kv:jT (.lst ds)=.ok (bX 0 ds):=id rfl
noncomputable def bJ(T:Tab)(cf:Nat->List D->Res D)(g:G)(b:S)(d:D)(e0:Nv):Res Out:=do let e1<-g.put d e0;exS T cf b e1
noncomputable def nK(T:Tab)(cf:Nat->List D->Res D)(r:S):Out->Res Out
 |.nx e1=>exS T cf r e1
 |o=>.ok o
@[simp] theorem thenS_nx{r:S}:nK T cf r (.nx e)=exS T cf r e:=id rfl
@[simp] theorem Kw{r:S}:nK T cf r (.rt d k)=.ok (.rt d k):=id rfl
@[simp] theorem Kx:exS T cf .nil e=.ok (.nx e):=id rfl
@[simp] theorem D8{a r:S}:exS T cf (.cons a r) e=(exS T cf a e>>=nK T cf r):=by
 rw[rX]
 cases exS T cf a e with
 |ok o=>cases o<;>rfl
 |err _ _=>rfl
 |no=>rfl
@[simp] theorem Ky:exS T cf (.ret x) e=(do let d<-evE T cf x e;.ok (.rt d (cI T x&&!eI d))):=id rfl
@[simp] theorem tupL_lst{a:List D}:eI (.lst a)=false:=id rfl
@[simp] theorem tupL_str{a:Str}:eI (.str a)=false:=id rfl
@[simp] theorem tupL_tnil:eI (.tup ([]))=false:=id rfl
@[simp] theorem tupL_ttup{a:List D}:eI (.tup (.tup a::r))=false:=id rfl
@[simp] theorem tupL_tstr{a:Str}:eI (.tup (.str a::r))=eI (.tup r):=id rfl
@[simp] theorem tupL_tint{a:Int}:eI (.tup (.int a::r))=eI (.tup r):=id rfl
@[simp] theorem Kz{i:Nat}:exS T cf (.retO i) e=(do let a<-(e.at i).ownA;.ok (.rt a (!a.isDct))):=id rfl
@[simp] theorem D9:exS T cf (.asg g x) e=(do let d<-evE T cf x e;let e1<-g.put d e;.ok (.nx e1)):=id rfl
noncomputable def setO(k:Bool)(i:Nat)(e:Nv):D->Res Out
 |.lst a=>aC k (.ok (.nx (e.set i (.o (.lst a)))))
 |_=>.no
@[simp] theorem setO_ok{i:Nat}{a:List D}:setO true i e (.lst a)=.ok (.nx (e.set i (.o (.lst a)))):=id rfl
@[simp] theorem LA{i:Nat}:exS T cf (.asgO i x) e=(do let d<-evE T cf x e;setO (cI T x) i e d):=by
 rw[rZ]
 cases evE T cf x e with
 |ok o=>cases o<;>rfl
 |err _ _=>rfl
 |no=>rfl
@[simp] theorem LB{i:Nat}:exS T cf (.sealed i) e=(do let a<-(e.at i).ownA;.ok (.nx (e.set i (.v a)))):=id rfl
@[simp] theorem LC{a b:S}:exS T cf (.ite c a b) e=(do let x<-evE T cf c e;let k<-x.truth;if k then exS T cf a e else exS T cf b e):=id rfl
@[simp] theorem D_{a:Nat}{k:List D}:(Sl.r a (.lst k)).refL=.ok (a,k):=id rfl
@[simp] theorem LD{b:S}:exS T cf (.forS g src b) e=(do let ds<-evI T cf src e;bH (bJ T cf g b) ds e):=id rfl
@[simp] theorem LF{i:Nat}:exS T cf (.app i x) e=(do
 let d<-evE T cf x e
 let a<-(e.at i).own
 aC (decide (a.length<big)) (.ok (.nx (e.set i (.o (.lst (a++[d]))))))):=id rfl
noncomputable def extO(k:Bool)(i:Nat)(e:Nv):D->Res Out
 |.lst b=>do
  let a<-(e.at i).own
  aC (k&&decide (a.length+b.length<=big)) (.ok (.nx (e.set i (.o (.lst (a++b))))))
 |_=>.no
@[simp] theorem LG{i:Nat}{b:List D}:extO k i e (.lst b)=(do
 let a<-(e.at i).own
 aC (k&&decide (a.length+b.length<=big)) (.ok (.nx (e.set i (.o (.lst (a++b))))))):=id rfl
@[simp] theorem LH{i:Nat}:exS T cf (.ext i x) e=(do let d<-evE T cf x e;extO (cI T x) i e d):=by
 rw[Be]
 cases evE T cf x e with
 |ok o=>cases o<;>rfl
 |err _ _=>rfl
 |no=>rfl
@[simp] theorem exS_never:exS T cf .never e=.no:=id rfl
@[simp] theorem LI:exS T cf (.exp x) e=(do let _<-evE T cf x e;.ok (.nx e)):=id rfl
@[simp] theorem fresh_lst:cI T (.lst a)=true:=id rfl
@[simp] theorem fresh_add:cI T (.bin .Add a b)=true:=id rfl
@[simp] theorem fresh_comp{c:List Nat}{y z:E}:cI T (.comp n c g x y z)=true:=id rfl
@[simp] theorem fresh_call{f:Nat}:cI T (.call f a)=T.fresh f:=id rfl
end
@[simp] theorem when_if{α:Type}{c:Bool}(h:c=true)(r:Res α):aC c r=r:=bW h r
@[simp] theorem at_zero{x:Sl}{r:List Sl}:Nv.at (x::r) 0=x:=id rfl
@[simp] theorem at_succ{x:Sl}{r:List Sl}{i:Nat}:Nv.at (x::r) (i+1)=Nv.at r i:=id rfl
@[simp] theorem val_v:(Sl.v d).val=.ok d:=id rfl
@[simp] theorem any_o:(Sl.o d).any=.ok d:=id rfl
@[simp] theorem sV{a:List D}:(Sl.o (.lst a)).own=.ok a:=id rfl
@[simp] theorem ownA_o:(Sl.o d).ownA=.ok d:=id rfl
@[simp] theorem isDct_lst{i:List D}:(D.lst i).isDct=false:=id rfl
@[simp] theorem put_one{i:Nat}:G.put (.one i) d e=.ok (e.set i (.v d)):=id rfl
@[simp] theorem put_many:G.put (.many is) (.tup ds) e=cR is ds e:=id rfl
@[simp] theorem puts_nil:cR [] [] e=.ok e:=id rfl
@[simp] theorem puts_cons{i:Nat}:cR (i::is) (d::ds) e=cR is ds (e.set i (.v d)):=id rfl
@[simp] theorem LJ{b:Bool}:(D.bl b).truth=.ok b:=id rfl
@[simp] theorem LK:D.bin .Add (.int i) (.int j)=.ok (.int (i+j)):=id rfl
@[simp] theorem LL:D.bin .Sub (.int i) (.int j)=.ok (.int (i-j)):=id rfl
@[simp] theorem LM(h:-(2^64)<i/\i<2^64):D.bin .Mult (.int i) (.int j)=.ok (.int (i*j)):=by
 show aC (eH i||eH j) _=_
 rw[bW]
 unfold eH
 rw[decide_eq_true h.1,decide_eq_true h.2];rfl
@[simp] theorem iH(h:0<j):D.bin .Mod (.int i) (.int j)=.ok (.int (i%j)):=by
 show aC (decide (0<j)) _=_
 rw[bW (decide_eq_true h)]
@[simp] theorem xG(h:0<j/\j<1073741824):D.bin .FloorDiv (.int i) (.int j)=.ok (.int (i/j)):=by
 show aC (decide (0<j)&&decide (j<1073741824)) _=_
 rw[bW]
 rw[decide_eq_true h.1,decide_eq_true h.2];rfl
theorem LN(h:0<=j/\j<=1000000/\i.natAbs<2^64):D.bin .Pow (.int i) (.int j)=.ok (.int (i^j.toNat)):=by
 show aC (decide (0<=j)&&decide (j<=1000000)&&decide (i.natAbs<2^64)) _=_
 rw[bW]
 rw[decide_eq_true h.1,decide_eq_true h.2.1,decide_eq_true h.2.2];rfl
@[simp] theorem bin_pow9:D.bin .Pow (.int 10) (.int 9)=.ok (.int 1000000000):=LN ⟨by decide,by decide,by decide⟩
@[simp] theorem Da:D.cmp .Lt (.int i) (.int j)=.ok (.bl (decide (i<j))):=id rfl
@[simp] theorem cmp_le:D.cmp .LtE (.int i) (.int j)=.ok (.bl (decide (i<=j))):=id rfl
@[simp] theorem cmp_gt:D.cmp .Gt (.int i) (.int j)=.ok (.bl (decide (j<i))):=id rfl
@[simp] theorem cmp_ge:D.cmp .GtE (.int i) (.int j)=.ok (.bl (decide (j<=i))):=id rfl
@[simp] theorem pP:D.cmp .Eq (.int i) (.int j)=.ok (.bl (i==j)):=id rfl
@[simp] theorem LP:D.cmp .NotEq (.int i) (.int j)=.ok (.bl (!(i==j))):=id rfl
@[simp] theorem cmp_is{a:D}:D.cmp .Is a .non=.ok (.bl a.isNon):=id rfl
@[simp] theorem LQ{a:D}:D.cmp .IsNot a .non=.ok (.bl (!a.isNon)):=id rfl
@[simp] theorem isNon_non:D.non.isNon=true:=id rfl
@[simp] theorem isNon_int:(D.int i).isNon=false:=id rfl
@[simp] theorem isNon_tup{i:List D}:(D.tup i).isNon=false:=id rfl
@[simp] theorem xH{a:List D}:Bt.run .len [.lst a]=.ok (.int a.length):=id rfl
@[simp] theorem nL{a:List D}:Bt.run .len [.tup a]=.ok (.int a.length):=id rfl
@[simp] theorem run_tup_l{a:List D}:Bt.run .tuple [.lst a]=.ok (.tup a):=id rfl
@[simp] theorem run_int_b{b:Bool}:Bt.run .int [.bl b]=.ok (.int (b2z b)):=id rfl
theorem Dc:∀ns:List Int,gP (ns.map D.int)=.ok ns
 |[]=>rfl
 |i::r=>by rw[aG,gP,Dc r];rfl
@[simp] theorem LR{ns:List Int}:Bt.run .sum [.lst (ns.map D.int)]=.ok (.int ns.sum):=by
 show(do let q<-gP (ns.map D.int);.ok (D.int q.sum))=_
 rw[Dc];rfl
@[simp] theorem LS{α:Type}{f:α->Int}{xs:List α}:Bt.run .sum [.lst (xs.map (D.int∘f))]=.ok (.int (xs.map f).sum):=by rw[<-bB,LR]
@[simp] theorem part_int:(D.int i).part=.ok (some i):=id rfl
@[simp] theorem part_non:D.non.part=.ok none:=id rfl
@[simp] theorem sl_l{a:List D}:D.sl (.lst a) lo hi=.ok (.lst (cut a lo hi)):=id rfl
@[simp] theorem sl_t{a:List D}:D.sl (.tup a) lo hi=.ok (.tup (cut a lo hi)):=id rfl
@[simp] theorem LU{a:List D}:(D.lst a).items=.ok a:=id rfl
@[simp] theorem LV{a:List D}:(D.tup a).items=.ok a:=id rfl
theorem nM{a:List D}{i:Nat}(h:a[i]?=some d):D.ix (.lst a) (.int i)=.ok d:=by
 have hi:=(fE.mp h).1
 show Res.of (atI a i)=_
 unfold atI ixN
 rw[if_pos (Ot i),if_pos (by lia)]
 simp[h,Res.of]
theorem jC{a:List D}{i:Nat}(h:a[i]?=some d):D.ix (.tup a) (.int i)=.ok d:=by
 have hi:=(fE.mp h).1
 show Res.of (atI a i)=_
 unfold atI ixN
 rw[if_pos (Ot i),if_pos (by lia)]
 simp[h,Res.of]
theorem Dd{a:List D}(h0:0<=i)(h:a[i.toNat]?=some d):D.ix (.lst a) (.int i)=.ok d:=by
 obtain⟨n,rfl⟩:=Ou h0
 exact nM (by simpa using h)
theorem ix_tI{a:List D}(h0:0<=i)(h:a[i.toNat]?=some d):D.ix (.tup a) (.int i)=.ok d:=by
 obtain⟨n,rfl⟩:=Ou h0
 exact jC (by simpa using h)
theorem aJ{T:Tab}{D:List Df}{n f:Nat}{ds:List Tr.D}{d:Df}{x:Tr.D}{k:Bool}(h:D[f]?=some d)(hl:ds.length=d.pars)(hk:(k||!T.fresh f)=true)
 (he:exS T (aA T D n) d.body (ds.map Sl.v++aZ (d.names-d.pars) Sl.no)=.ok (.rt x k)) (ht:d.told=none:=by rfl) (hm:T.mv f=none:=by rfl):aA T D (n+1) f ds=.ok x:=by
 rw[mZ,h]
 show aC (ds.length==d.pars) _=_
 rw[bW (by simpa using hl),ht,hm,show eJ none ds=ds.map Sl.v from rfl]
 dsimp only
 rw[if_neg (λz=>by cases z)]
 cases hx:exX T (aA T D n) d.body (ds.map Sl.v++aZ (d.names-d.pars) Sl.no)with
 |some z=>exact absurd he (Bf hx _)
 |none=>
  dsimp only
  rw[he]
  show aC (k||!T.fresh f) _=_
  rw[bW hk]
theorem LW{T:Tab}{D:List Df}{n f:Nat}{ds:List Tr.D}{d:Df}{e:Nv}(h:D[f]?=some d)(hl:ds.length=d.pars)(hk:T.fresh f=false)
 (he:exS T (aA T D n) d.body (ds.map Sl.v++aZ (d.names-d.pars) Sl.no)=.ok (.nx e)) (ht:d.told=none:=by rfl) (hm:T.mv f=none:=by rfl):aA T D (n+1) f ds=.ok .non:=by
 rw[mZ,h]
 show aC (ds.length==d.pars) _=_
 rw[bW (by simpa using hl),ht,hm,show eJ none ds=ds.map Sl.v from rfl]
 dsimp only
 rw[if_neg (λz=>by cases z)]
 cases hx:exX T (aA T D n) d.body (ds.map Sl.v++aZ (d.names-d.pars) Sl.no)with
 |some z=>exact absurd he (Bf hx _)
 |none=>
  dsimp only
  rw[he]
  show aC (!T.fresh f) _=_
  rw[hk];rfl
theorem LX{T:Tab}{D:List Df}{n f a b:Nat}{y:Tr.D}{j k j' k':List Tr.D}{d:Df}{e:Nv}(hm:T.mv f=some 1000)(h:D[f]?=some d)(hl:3=d.pars)
 (he:exS T (aA T D n) d.body ([.r a (.lst j),.r b (.lst k),.v y]++aZ (d.names-d.pars) Sl.no)=.ok (.nx e)) (h0:e.at 0=.r a (.lst j')) (h1:e.at 1=.r b (.lst k')) (ht:d.told=none:=by rfl) :
 aA T D (n+1) f [.tup [.int a,.lst j],.tup [.int b,.lst k],y]=.ok (.tup [.lst j',.lst k']):=by
 rw[mZ,h]
 show aC (3==d.pars) _=_
 rw[bW (by simpa using hl),ht]
 dsimp only
 rw[if_pos hm]
 show(match exS T (aA T D n) d.body ([.r a (.lst j),.r b (.lst k),.v y]++aZ (d.names-d.pars) Sl.no)with
  |.ok (.nx e)=>kM a b e
  |_=>.no)=_
 rw[he]
 show kM a b e=_
 unfold kM
 rw[h0,h1]
 show aC (a==a&&b==b) _=_
 rw[bW (by simp)]
@[simp] theorem ix_t0{a:D}:D.ix (.tup (a::r)) (.int 0)=.ok a:=jC (i:=0) rfl
@[simp] theorem De{a b:D}:D.ix (.tup (a::b::r)) (.int 1)=.ok b:=jC (i:=1) rfl
@[simp] theorem xI{a b c:D}:D.ix (.tup (a::b::c::r)) (.int 2)=.ok c:=jC (i:=2) rfl
@[simp] theorem Dg{a b c:D}:D.ix (.tup (a::b::c::d::r)) (.int 3)=.ok d:=jC (i:=3) rfl
@[simp] theorem ix_t4{a b c e:D}:D.ix (.tup (a::b::c::d::e::r)) (.int 4)=.ok e:=jC (i:=4) rfl
@[simp] theorem ix_l0{a:D}:D.ix (.lst (a::r)) (.int 0)=.ok a:=nM (i:=0) rfl
@[simp] theorem ix_l1{a b:D}:D.ix (.lst (a::b::r)) (.int 1)=.ok b:=nM (i:=1) rfl
theorem pQ:bH f [] e=.ok (.nx e):=rfl
theorem dY(h:f d e=.ok (.nx e1)):bH f (d::r) e=bH f r e1:=by rw[bH,h];rfl
theorem Dh(h:f d e=.ok (.ct e1)):bH f (d::r) e=bH f r e1:=by rw[bH,h];rfl
theorem Di{x:D}(h:f d e=.ok (.rt x k)):bH f (d::r) e=.ok (.rt x k):=by rw[bH,h];rfl
theorem Dj(I:Nat->Nv->Prop):∀(ds:List D)(e:Nv)(j:Nat),I j e->(∀i d e,ds[i]?=some d->I (j+i) e->∃e',(f d e=.ok (.nx e')\/f d e=.ok (.ct e'))/\I (j+i+1) e')->∃e',bH f ds e=.ok (.nx e')/\I (j+ds.length) e'
 |[],e,j,h,_=>⟨e,rfl,h⟩
 |d::r,e,j,h,st=>by
  obtain⟨e1,h1,h2⟩:=st 0 d e rfl h
  obtain⟨e2,h3,h4⟩:=Dj I r e1 (j+1) h2 λi d' e' hd hI=>by
   have:=st (i+1) d' e' (by simpa using hd) (by rw[show j+(i+1)=j+1+i by lia];exact hI)
   rw[show j+(i+1)+1=j+1+i+1 by lia]at this
   exact this
  refine⟨e2,?_,by rw[aW,show j+(r.length+1)=j+1+r.length by lia];exact h4⟩
  rcases h1 with h1|h1
  ·rw[dY h1,h3]
  ·rw[Dh h1,h3]
theorem jD:∀(lo:Int)(n:Nat),cU lo n=(aI n).map λi=>.int (lo+(i:Int))
 |lo,0=>rfl
 |lo,n+1=>by
  rw[cU,jD (lo+1) n,rE,aG,bB]
  congr 1
  ·simp
  ·apply gH
   intro i _
   simp only[Function.comp]
   congr 1
   push_cast
   lia
@[simp] theorem PP{lo:Int}:(cU lo n).length=n:=by rw[jD];simp
end Tr
namespace Tr
open PySem
variable{k:Bool}{a1:Nat}{e2:Nv}
@[irreducible] noncomputable def gD{α:Type}(k:Bool)(a b:α):α:=if k=true then a else b
theorem iteB_t{α:Type}{a b r:α}(h:k=true)(h2:a=r):gD k a b=r:=by rw[h,<-h2];unfold gD;rfl
theorem iteB_f{α:Type}{a b r:α}(h:k=false)(h2:b=r):gD k a b=r:=by rw[h,<-h2];unfold gD;rfl
noncomputable def hdF(T:Tab):E->Bool
 |.lst _=>true
 |.sl _ _ _=>true
 |.bin .Add _ _=>true
 |.comp _ _ _ _ _ _=>true
 |.call f _=>T.fresh f
 |.con _=>false
 |.tup _=>false
 |.var _=>false
 |.bt _ _=>false
 |x=>cI T x
theorem xJ(T:Tab)(x:E):hdF T x=cI T x:=by
 cases x with
 |bin o a b=>cases o<;>rfl
 |bt b a=>cases b<;>rfl
 |_=>rfl
noncomputable def dJ(T:Tab)(cf:Nat->List D->Res D)(g:G)(elt cond:E)(e:Nv)(d:D):Res (Option D):=do
 let e1<-g.put d e
 let c<-evE T cf cond e1
 let k<-c.truth
 if k then do let y<-evE T cf elt e1;.ok (some y)else .ok none
section
variable{T:Tab}{cf:Nat->List D->Res D}{e e1:Nv}{a b c x:E}{d d1 d2 d3:D}{i f n:Nat}{k:Bool}{r:Res D}{xs ys ds:List D}{g:G}{s s1 s2:S}{o:Res Out}
theorem v_var(h:e.at i=.v d):evE T cf (.var i) e=.ok d:=by rw[K_,h];rfl
theorem v_rd(h:(e.at i).any=.ok d):evE T cf (.rd i) e=.ok d:=h
theorem v_con:evE T cf (.con d) e=.ok d:=Ka
theorem v_glob(h:T.glob i=d):evE T cf (.glob i) e=.ok d:=by rw[Kb,h]
theorem v_omit:evE T cf .omit e=.ok .non:=Kg
theorem v_bin{p:Operator}(h1:evE T cf a e=.ok d1)(h2:evE T cf b e=.ok d2)(h3:D.bin p d1 d2=r):evE T cf (.bin p a b) e=r:=by rw[Kc,h1,h2];exact h3
theorem v_cmp{p:CmpOp}(h1:evE T cf a e=.ok d1)(h2:evE T cf b e=.ok d2)(h3:D.cmp p d1 d2=r):evE T cf (.cmp p a b) e=r:=by rw[D6,h1,h2];exact h3
theorem LY{p q:CmpOp}(h1:evE T cf a e=.ok d1)(h2:evE T cf b e=.ok d2)(h3:D.cmp p d1 d2=.ok (.bl k))(h4:gD k (evE T cf (.cmp q b c) e) (.ok (.bl false))=r):evE T cf (.chain p q a b c) e=r:=by
 rw[Km,h1,h2,Res.ok_bind,Res.ok_bind,h3,Res.ok_bind,Kl,<-h4,D6,h2];unfold gD;rfl
theorem v_and(h1:evE T cf a e=.ok d1)(h2:d1.truth=.ok k)(h3:gD k (evE T cf b e) (.ok d1)=r):evE T cf (.and a b) e=r:=by rw[Kd,h1,Res.ok_bind,h2];unfold gD at h3;exact h3
theorem v_or(h1:evE T cf a e=.ok d1)(h2:d1.truth=.ok k)(h3:gD k (.ok d1) (evE T cf b e)=r):evE T cf (.or a b) e=r:=by rw[evE_or,h1,Res.ok_bind,h2];unfold gD at h3;exact h3
theorem v_ife(h1:evE T cf c e=.ok d1)(h2:d1.truth=.ok k)(h3:gD k (evE T cf a e) (evE T cf b e)=r):evE T cf (.ife c a b) e=r:=by rw[Kf,h1,Res.ok_bind,h2];unfold gD at h3;exact h3
theorem v_not(h1:evE T cf a e=.ok d1)(h2:d1.truth=.ok k):evE T cf (.not a) e=.ok (.bl (!k)):=by rw[Ke,h1,Res.ok_bind,h2];rfl
theorem v_ix(h1:evE T cf a e=.ok d1)(h2:evE T cf b e=.ok d2)(h3:D.ix d1 d2=r):evE T cf (.ix a b) e=r:=by rw[evE_ix,h1,h2];exact h3
theorem v_sl{l h:Option Int}(h1:evE T cf a e=.ok d1)(h2:evE T cf b e=.ok d2)(h3:d2.part=.ok l)(h4:evE T cf c e=.ok d3)(h5:d3.part=.ok h)(h6:D.sl d1 l h=r):evE T cf (.sl a b c) e=r:=by
 rw[evE_sl,h1,h2,Res.ok_bind,Res.ok_bind,h3,Res.ok_bind,h4,Res.ok_bind,h5];exact h6
theorem v_tup(h:evA T cf a e=.ok xs):evE T cf (.tup a) e=.ok (.tup xs):=by rw[Kh,h];rfl
theorem v_lst(h:evA T cf a e=.ok xs):evE T cf (.lst a) e=.ok (.lst xs):=by rw[Ki,h];rfl
theorem v_call(h:evA T cf a e=.ok xs)(h2:cf f xs=r):evE T cf (.call f a) e=r:=by rw[Kj,h];exact h2
theorem v_bt{p:Bt}(h:evA T cf a e=.ok xs)(h2:p.run xs=r):evE T cf (.bt p a) e=r:=by rw[evE_bt,h];exact h2
theorem v_comp{own:Nat}{caps:List Nat}{elt src cond:E}(h:evI T cf src e=.ok ds)(h2:aU (dJ T cf g elt cond e1) ds=.ok ys)(he:bT own caps e=e1)(h3:ds.length<=big):evE T cf (.comp own caps g elt src cond) e=.ok (.lst ys):=by
 rw[<-he]at h2
 rw[Kn,h,Res.ok_bind,show bE T cf own caps g elt cond e=dJ T cf g elt cond (bT own caps e)from rfl,h2,Res.ok_bind,bW (decide_eq_true h3)]
theorem v_srtT(h:evE T cf a e=.ok d)(h2:oW d=r):evE T cf (.srtT a) e=r:=by rw[B4,h];exact h2
theorem i_revL(h:evE T cf a e=.ok d)(h2:rU d=.ok ds):evI T cf (.seqD a) e=.ok ds:=by rw[B3,h];exact h2
theorem s_appR(h:evE T cf x e=.ok d)(h2:e.at i=.r a1 (.lst xs))(h3:xs.length<big):exS T cf (.appR i x) e=.ok (.nx (e.set i (.r a1 (.lst (xs++[d]))))):=by
 rw[Bb,h,Res.ok_bind,h2,D_,Res.ok_bind,bW (decide_eq_true h3)]
theorem s_remR(h:evE T cf x e=.ok d)(h2:e.at i=.r a1 (.lst xs))(h3:(D.pl 29 d&&D.pls 30 xs&&D.mem d xs)=true):exS T cf (.remR i x) e=.ok (.nx (e.set i (.r a1 (.lst (xs.eraseIdx (plD d xs)))))):=by
 rw[Bc,h,Res.ok_bind,h2,D_,Res.ok_bind,bW h3]
theorem s_laid{j:Nat}{gs hs:List D}(hm:T.mv f=some 1000)(hij:decide (i≠j)=true)(h1:e.at i=.o (.lst xs))(h2:e.at j=.o (.lst ys))(h:evE T cf x e=.ok d)(h3:kL cf f xs ys d=.ok (gs,hs)):exS T cf (.laid f i j x) e=.ok (.nx ((e.set i (.o (.lst gs))).set j (.o (.lst hs)))):=by
 rw[Bd,bW (by rw[decide_eq_true hm,hij];rfl),h1,sV,Res.ok_bind,h2,sV,Res.ok_bind,h,Res.ok_bind,h3];rfl
theorem s_seal(h:e.at i=.o d):exS T cf (.sealed i) e=.ok (.nx (e.set i (.v d))):=by rw[LB,h];rfl
theorem v_mth{m:Mt}(h1:evE T cf a e=.ok d1)(h2:evE T cf b e=.ok d2)(h3:m.run d1 d2=r):evE T cf (.mth m a b) e=r:=by rw[Kk,h1,h2];exact h3
theorem a_nil:evA T cf .anil e=.ok []:=Ko
theorem a_cons(h1:evE T cf a e=.ok d)(h2:evA T cf b e=.ok xs)(h3:decide (xs.length<1000)=true):evA T cf (.acons a b) e=.ok (d::xs):=by rw[Kp,h1,h2,Res.ok_bind,Res.ok_bind,bW h3]
theorem i_seqV(h:evE T cf a e=.ok d)(h2:d.items=.ok ds):evI T cf (.seq a) e=.ok ds:=by rw[Kq,h];exact h2
theorem i_rngV(h:evE T cf a e=.ok d)(h2:jB d=.ok ds):evI T cf (.rng a) e=.ok ds:=by rw[Kr,h];exact h2
theorem LZ{m:Int}(h:evE T cf a e=.ok (.int m))(h1:evE T cf b e=.ok d)(h2:pO (.int m) d=.ok ds):evI T cf (.rng2 a b) e=.ok ds:=by rw[Ks,h,Res.ok_bind];dsimp only;rw[h1];exact h2
theorem L0(h:evE T cf a e=.ok d)(h2:jT d=.ok ds):evI T cf (.enum a) e=.ok ds:=by rw[Kt,h];exact h2
theorem c_t(h1:g.put d e1=.ok e2)(h2:evE T cf c e2=.ok d1)(h3:d1.truth=.ok k)(h4:k=true)(h5:evE T cf x e2=.ok d2):dJ T cf g x c e1 d=.ok (some d2):=by
 unfold dJ;rw[h1,Res.ok_bind,h2,Res.ok_bind,h3,Res.ok_bind,if_pos h4,h5];rfl
theorem c_f(h1:g.put d e1=.ok e2)(h2:evE T cf c e2=.ok d1)(h3:d1.truth=.ok k)(h4:k=false):dJ T cf g x c e1 d=.ok none:=by
 unfold dJ;rw[h1,Res.ok_bind,h2,Res.ok_bind,h3,Res.ok_bind,if_neg (by rw[h4];exact bR)]
theorem s_nil'{o:Nv}(h:e=o):exS T cf .nil e=.ok (.nx o):=by rw[<-h];exact Kx
theorem dZ{o1:Out}(h1:exS T cf s e=.ok o1)(h2:nK T cf s1 o1=o):exS T cf (.cons s s1) e=o:=by rw[D8,h1];exact h2
theorem eA(h:exS T cf s e=o):nK T cf s (.nx e)=o:=h
theorem t_rt:nK T cf s (.rt d k)=.ok (.rt d k):=Kw
theorem s_ret(h:evE T cf x e=.ok d)(h2:(hdF T x&&!eI d)=k):exS T cf (.ret x) e=.ok (.rt d k):=by rw[Ky,h,<-h2,xJ];rfl
theorem s_retO(h:e.at i=.o d)(h2:(!d.isDct)=k):exS T cf (.retO i) e=.ok (.rt d k):=by rw[Kz,h,<-h2];rfl
theorem s_asg(h:evE T cf x e=.ok d)(h2:g.put d e=.ok e1):exS T cf (.asg g x) e=.ok (.nx e1):=by rw[D9,h,Res.ok_bind,h2];rfl
theorem s_asgO(h:evE T cf x e=.ok d)(h2:setO (hdF T x) i e d=o):exS T cf (.asgO i x) e=o:=by rw[LA,h,<-xJ];exact h2
theorem s_ite(h1:evE T cf c e=.ok d)(h2:d.truth=.ok k)(h3:gD k (exS T cf s e) (exS T cf s1 e)=o):exS T cf (.ite c s s1) e=o:=by rw[LC,h1,Res.ok_bind,h2];unfold gD at h3;exact h3
theorem s_for(h1:evI T cf x e=.ok ds)(h2:bH (bJ T cf g s) ds e1=o)(he:e=e1):exS T cf (.forS g x s) e=o:=by rw[LD,h1,he];exact h2
theorem s_app(h:evE T cf x e=.ok d)(h2:e.at i=.o (.lst xs))(h3:xs.length<big):exS T cf (.app i x) e=.ok (.nx (e.set i (.o (.lst (xs++[d]))))):=by rw[LF,h,Res.ok_bind,h2,sV,Res.ok_bind,bW (decide_eq_true h3)]
theorem ext_ok(h:e.at i=.o (.lst xs))(h2:xs.length+ys.length<=big):extO true i e (.lst ys)=.ok (.nx (e.set i (.o (.lst (xs++ys))))):=by
 rw[LG,h,sV,Res.ok_bind,A_,bW (decide_eq_true h2)]
theorem s_ext(h:evE T cf x e=.ok (.lst ys))(h1:hdF T x=true)(h2:e.at i=.o (.lst xs))(h3:xs.length+ys.length<=big):exS T cf (.ext i x) e=.ok (.nx (e.set i (.o (.lst (xs++ys))))):=by rw[LH,h,<-xJ,h1];exact ext_ok h2 h3
theorem s_exp(h:evE T cf x e=.ok d):exS T cf (.exp x) e=.ok (.nx e):=by rw[LI,h];rfl
theorem Dk(h1:g.put d e=.ok e1)(h2:exS T cf s e1=o):bJ T cf g s d e=o:=by unfold bJ;rw[h1];exact h2
end
end Tr
set_option maxRecDepth 100000
namespace Tr
open PySem
variable{a:List D}{n s:Nat}
noncomputable def bZ(ns:List Int)(k:Nat):Int:=ns.getD k 0
set_option genInjectivity false in
structure Part where
 name:Str
 voice:Str
 off:Int
 on:Int
noncomputable def Part.enc(p:Part):D:=.tup [.str p.name,.str p.voice,.int p.off,.int p.on]
structure Scene where
 name:Str
 len:Int
 pause:Int
 who:List Nat
noncomputable def aE(ws:List Nat):List D:=ws.map λ(i:Nat)=>D.int (i:Int)
noncomputable def Scene.enc(s:Scene):D:=.tup [.str s.name,.int s.len,.int s.pause,.tup (aE s.who)]
theorem bI:(1000:Nat)<big:=by decide
set_option genInjectivity false in
structure GoodScene(many:Nat)(s:Scene):Prop where
 len:0<=s.len
 pause:0<=s.pause
 nd:s.who.Nodup
 lt:∀i∈s.who,i<many
theorem lS(ws:List Nat):(aE ws).length=ws.length:=by unfold aE;simp
theorem sW(i:Nat):∀ws:List Nat,D.mem (.int i) (aE ws)=decide (i∈ws)
 |[]=>rfl
 |w::r=>by
  show(D.eqb (.int w) (.int i)||D.mem (.int i) (aE r))=_
  rw[sW i r]
  have:D.eqb (.int w) (.int i)=decide (i=w):=by
   show((w:Int)==(i:Int))=_
   by_cases h:i=w
   ·subst h;simp
   ·rw[decide_eq_false h];simp;lia
  rw[this]
  by_cases h1:i=w<;>by_cases h2:i∈r<;>simp[h1,h2]
theorem nN(k:Nat):∀ws:List Nat,D.pls (k+1) (aE ws)=true
 |[]=>rfl
 |w::r=>by
  show(D.pl k (.int w)&&D.pls (k+1) (aE r))=true
  rw[nN k r];cases k<;>rfl
@[simp] theorem sX{i:Nat}{ws:List Nat}:D.cmp .In (.int i) (.tup (aE ws))=.ok (.bl (decide (i∈ws))):=by
 show(do let k<-D.inn (.int i) (.tup (aE ws));.ok (D.bl k))=_
 show(do let k<-aC (D.pls 30 (aE ws)&&D.pl 29 (.int i)) (.ok (D.mem (.int i) (aE ws)));.ok (D.bl k))=_
 rw[nN,sW];rfl
theorem Dl(k:Nat)(s:Scene):D.pl (k+2) s.enc=true:=by
 show D.pls (k+2) [D.str s.name,.int s.len,.int s.pause,.tup (aE s.who)]=true
 simp only[D.pls,D.pl,nN,Bool.and_true,A_]
theorem L1(k:Nat)(s:Part):D.pl (k+1) s.enc=true:=by
 show D.pls (k+1) [D.str s.name,.str s.voice,.int s.off,.int s.on]=true
 cases k<;>rfl
theorem eC{α:Type}(f:α->D)(k:Nat)(h:∀a,D.pl k (f a)=true):∀xs:List α,D.pls (k+1) (xs.map f)=true
 |[]=>rfl
 |a::r=>by rw[aG,D.pls,h a,eC f k h r];rfl
@[simp] theorem nR:D.pl n (.tup a)=D.pls n a:=id rfl
@[simp] theorem xK:D.pl n (.lst a)=D.pls n a:=id rfl
theorem L3{a:D}(h:D.pl 30 a=true):D.cmp .Eq a a=.ok (.bl true):=by
 show aC (D.eqOk a a) (.ok (D.bl (D.eqb a a)))=_
 rw[D.eqb_refl 30 a h,bW (by unfold D.eqOk;rw[h];rfl)]
theorem Dm{a:D}(h:D.pl 30 a=true):D.cmp .NotEq a a=.ok (.bl false):=by
 show aC (D.eqOk a a) (.ok (D.bl (!D.eqb a a)))=_
 rw[D.eqb_refl 30 a h,bW (by unfold D.eqOk;rw[h];rfl)];rfl
noncomputable def Scene.both(s:Scene):Int:=s.len+s.pause
noncomputable def nS(ss:List Scene)(s t:Nat):Int:=((ss[s]?).map Scene.pause).getD 0+(((ss.drop (s+1)).take (t-(s+1))).map Scene.both).sum
theorem cut_nn{α:Type}{xs:List α}{a b:Nat}(ha:a<=xs.length)(hb:b<=xs.length):cut xs (some (a:Int)) (some (b:Int))=(xs.drop a).take (b-a):=by
 unfold cut sIx
 simp only[]
 rw[if_neg (by lia),if_neg (by lia),kE,kE,lE ha,lE hb]
theorem kP{ss:List Scene}{x:Scene}(h:ss[s]?=some x):D.ix (.tup (ss.map Scene.enc)) (.int s)=.ok x.enc:=jC (by rw[cE,h];rfl)
theorem sY{ss:List Part}{x:Part}(h:ss[s]?=some x):D.ix (.tup (ss.map Part.enc)) (.int s)=.ok x.enc:=jC (by rw[cE,h];rfl)
@[simp] theorem enc2{s:Scene}:D.ix s.enc (.int 2)=.ok (.int s.pause):=xI
@[simp] theorem sZ{s:Scene}:D.ix s.enc (.int 3)=.ok (.tup (aE s.who)):=Dg
@[simp] theorem penc2{s:Part}:D.ix s.enc (.int 2)=.ok (.int s.off):=xI
@[simp] theorem penc3{s:Part}:D.ix s.enc (.int 3)=.ok (.int s.on):=Dg
@[simp] theorem xM{α:Type}{f:α->D}{xs:List α}:Bt.run .len [.tup (xs.map f)]=.ok (.int xs.length):=by rw[nL,aD]
end Tr
set_option maxRecDepth 100000
namespace Tr
open PySem
variable{s:Nat}
noncomputable def aL(t:Nat):D:=.int (t:Int)
theorem xN(ws:List Nat):aE ws=ws.map aL:=rfl
theorem L4(lo n:Nat):cU (lo:Int) n=(iA lo n).map aL:=by
 rw[jD,List.range'_eq_map_range,bB]
 apply gH
 intro i _
 simp[aL]
theorem nT{n:Nat}(h:n<=1000):jB (.int (n:Int))=.ok ((aI n).map aL):=by
 rw[lR (by lia),jD]
 congr 1
 apply gH
 intro i _
 simp[aL]
theorem Dn{m:Nat}(h:s<=1000)(h2:m<=1000):pO (.int ((s:Int)+1)) (.int (m:Int))=.ok ((iA (s+1) (m-(s+1))).map aL):=by
 have:pO (.int ((s+1:Nat):Int)) (.int (m:Int))=_:=Ku (by lia) (by lia)
 rw[L4]at this
 exact this
theorem L5{f:D->Nv->Res Out}(I:Nv->Prop)(g:Nat->Option (D×Bool))(ts:List Nat)(e:Nv)(h:I e)
 (st:∀t∈ts,∀e,I e->match g t with|some (x,k)=>f (aL t) e=.ok (.rt x k)|none=>∃e',(f (aL t) e=.ok (.nx e')\/f (aL t) e=.ok (.ct e'))/\I e') :
 match ts.findSome? g with|some (x,k)=>bH f (ts.map aL) e=.ok (.rt x k)|none=>∃e',bH f (ts.map aL) e=.ok (.nx e')/\I e':=by
 induction ts generalizing e with
 |nil=>exact⟨e,rfl,h⟩
 |cons t r ih=>
  have h1:=st t bA e h
  rw[Gm,aG]
  cases hg:g t with
  |some y=>
   rw[hg]at h1
   exact Di h1
  |none=>
   rw[hg]at h1
   obtain⟨e',h2,h3⟩:=h1
   have eq:bH f (aL t::r.map aL) e=bH f (r.map aL) e':=by
    rcases h2 with h2|h2
    ·exact dY h2
    ·exact Dh h2
   rw[eq]
   exact ih e' h3 λd' hd=>st d' (aY _ hd)
theorem Do{α β γ:Type}(h:α->Option β)(F:β->γ):∀l:List α,l.findSome? (λt=>(h t).map F)=(l.findSome? h).map F
 |[]=>rfl
 |a::r=>by
  rw[Gm,Gm]
  cases e:h a with
  |none=>simp[Do h F r]
  |some b=>rfl
inductive Rz where
 |sc (s:Nat)|ch (s t:Nat) (have_ need:Int)
noncomputable def Rz.enc:Rz->D
 |.sc s=>.tup [.str "scene", .int s]
 |.ch s t h n=>.tup [.str "change", .int s,.int t,.int h,.int n]
noncomputable def eY:Option Rz->D
 |none=>.non
 |some r=>r.enc
@[simp] theorem L6{o:Option Rz}:(eY o).isNon=o.isNone:=by
 cases o with
 |none=>rfl
 |some r=>cases r<;>rfl
noncomputable def fL(ss:List Scene)(t:Nat):List Nat:=((ss[t]?).map Scene.who).getD []
noncomputable def jU(ps:List Part)(i j:Nat):Int:=((ps[i]?).map Part.off).getD 0+((ps[j]?).map Part.on).getD 0
noncomputable def tB(ps:List Part)(ss:List Scene)(s one other t:Nat):Option Rz:=
 if other∈fL ss t/\nS ss s t<jU ps one other then some (.ch s t (nS ss s t) (jU ps one other))else none
noncomputable def tD(ps:List Part)(ss:List Scene)(s one other:Nat):Option Rz:=(iA (s+1) (ss.length-(s+1))).findSome? (tB ps ss s one other)
noncomputable def nU(ps:List Part)(ss:List Scene)(i j s:Nat):Option Rz:=
 if i∈fL ss s/\j∈fL ss s then some (.sc s)else if i∈fL ss s then tD ps ss s i j else if j∈fL ss s then tD ps ss s j i else none
noncomputable def dM(ps:List Part)(ss:List Scene)(i j:Nat):Option Rz:=(aI ss.length).findSome? (nU ps ss i j)
noncomputable def begV(ss:List Scene)(k:Nat):Int:=((ss.take k).map Scene.both).sum
theorem Dp{ss:List Scene}(h:s<ss.length):fL ss s=ss[s].who:=by unfold fL;rw[aR h];rfl
theorem L7{ps:List Part}{i j:Nat}(h:i<ps.length)(h2:j<ps.length):jU ps i j=ps[i].off+ps[j].on:=by unfold jU;rw[aR h,aR h2];rfl
noncomputable def Rz.out(r:Rz):D×Bool:=(r.enc,false)
theorem Dq{f:D->Nv->Res Out}{I:Nv->Prop}{g:Nat->Option Rz}{ts:List Nat}{e:Nv}(h:I e)
 (st:∀t∈ts,∀e,I e->match g t with|some r=>f (aL t) e=.ok (.rt r.enc false)|none=>∃e',f (aL t) e=.ok (.nx e')/\I e') :
 match ts.findSome? g with|some r=>bH f (ts.map aL) e=.ok (.rt r.enc false)|none=>∃e',bH f (ts.map aL) e=.ok (.nx e')/\I e':=by
 have:=L5 (f:=f) I (λt=>(g t).map Rz.out) ts e h (by
  intro t ht e he
  have:=st t ht e he
  cases hg:g t with
  |none=>rw[hg]at this;obtain⟨e',h1,h2⟩:=this;exact⟨e',.inl h1,h2⟩
  |some r=>rw[hg]at this;exact this)
 rw[Do]at this
 cases hg:ts.findSome? g with
 |none=>rw[hg]at this;exact this
 |some r=>rw[hg]at this;exact this
end Tr
set_option maxRecDepth 100000
namespace Tr
open PySem
variable{f:D->Res (Option D)}{many:Nat}
theorem gE{α:Type}(enc:α->D)(g:α->Option D):∀{xs:List α},(∀a∈xs,f (enc a)=.ok (g a))->aU f (xs.map enc)=.ok (xs.filterMap g)
 |[],_=>rfl
 |a::r,h=>by
  rw[aG,aU,h a bA,Res.ok_bind,gE enc g λx hx=>h x (aY _ hx),Res.ok_bind,mL]
  cases g a<;>rfl
theorem tF{α:Type}(enc:α->D)(p:α->Bool){xs:List α}(h:∀a∈xs,f (enc a)=.ok (if p a=true then some (enc a)else none)):aU f (xs.map enc)=.ok ((xs.filter p).map enc):=by
 rw[gE enc (λa=>if p a=true then some (enc a)else none) h]
 congr 1
 induction xs with
 |nil=>rfl
 |cons a r ih=>
  rw[mL,Gn,ih λx hx=>h x (aY _ hx)]
  cases p a<;>rfl
noncomputable def aB(p:Nat×Nat):D:=.tup [.int p.1,.int p.2]
noncomputable def jE(many i:Nat):List (Nat×Nat):=(iA (i+1) (many-(i+1))).map λj=>(i,j)
noncomputable def gX(many:Nat):Nat->List (Nat×Nat)
 |0=>[]
 |k+1=>gX many k++jE many k
noncomputable def pairsOf(many:Nat):List (Nat×Nat):=gX many many
theorem L8{i:Nat}{p:Nat×Nat}(h:p∈jE many i):p.1=i/\i<p.2/\p.2<many:=by
 obtain⟨j,hj,rfl⟩:=cN.mp h
 have:=Gp.mp hj
 exact⟨rfl,by lia,by lia⟩
theorem Dr{p:Nat×Nat}:∀{k:Nat},p∈gX many k->p.1<p.2/\p.2<many
 |0,h=>by simp[gX]at h
 |k+1,h=>by
  rcases fD.mp h with q|q
  ·exact Dr q
  ·have:=L8 q;lia
theorem xO(many:Nat):∀k,(gX many k).length<=k*many
 |0=>by simp[gX]
 |k+1=>by
  have:=xO many k
  rw[gX,cP,jE,aD,Ov,A8]
  lia
noncomputable def lenAt(ss:List Scene)(t:Nat):Int:=((ss[t]?).map Scene.len).getD 0
noncomputable def Ds(ss:List Scene)(one:Nat):Nat->Option Int
 |0=>none
 |k+1=>if one∈fL ss k then some (begV ss k+lenAt ss k)else Ds ss one k
noncomputable def Dt(ps:List Part)(ss:List Scene)(one other t:Nat):Bool:=
 decide (other∈fL ss t)&&(match Ds ss one t with|some e=>decide (begV ss t-e<jU ps one other)|none=>false)
noncomputable def hit(ps:List Part)(ss:List Scene)(i j t:Nat):Bool:=(decide (i∈fL ss t)&&decide (j∈fL ss t))||Dt ps ss i j t||Dt ps ss j i t
end Tr
set_option maxRecDepth 100000
namespace Tr
open PySem
variable{c n:Nat}
theorem Du:∀{w:List Nat},c∉w->cM c w=[w]
 |[],_=>rfl
 |x::r,h=>by
  have h1:¬x=c:=λe=>h (by rw[e];exact bA)
  have h2:c∉r:=λe=>h (aY _ e)
  rw[cM,if_neg h1,Du h2]
theorem Dv(q:List Nat):∀{w:List Nat},c∉w->cM c (w++c::q)=w::cM c q
 |[],_=>by rw[eF,cM,if_pos rfl]
 |x::r,h=>by
  have h1:¬x=c:=λe=>h (by rw[e];exact bA)
  have h2:c∉r:=λe=>h (aY _ e)
  rw[Gh,cM,if_neg h1,Dv q h2]
theorem Dw:∀{ws:List (List Nat)},ws≠[]->(∀w∈ws,c∉w)->cM c (dH [c] ws)=ws
 |[],h,_=>absurd rfl h
 |[a],_,h=>by rw[dH];exact Du (h a bA)
 |a::b::r,_,h=>by
  rw[dH,dG,show [c]++dH [c] (b::r)=c::dH [c] (b::r)from rfl,Dv _ (h a bA),
   Dw (by simp) λw hw=>h w (aY _ hw)]
theorem str_of(x:Str):(⟨x.cps.toList.toArray⟩:Str)=x:=by cases x;simp
theorem L9{xs:List Str}(hn:xs≠[])(h:∀x∈xs,c∉x.cps.toList):cT (iU ⟨#[c]⟩ xs) c=xs:=by
 unfold cT iU
 show(cM c (dH [c] (xs.map λx=>x.cps.toList)).toArray.toList).map _=xs
 rw[Ow,Dw (by simpa using hn) (by simpa using h),bB]
 exact(gH λx _=>str_of x).trans (List.map_id _)
noncomputable def cK(n:Nat):List Nat:=(Nat.toDigits 10 n).map Char.toNat
noncomputable def bG(n:Nat):Str:=⟨(cK n).toArray⟩
theorem L_(n:Nat):Str.ofString (toString (n:Int))=bG n:=by
 rw[Str.ofString_eq_toList]
 unfold bG cK
 have e:(toString (n:Int)).toList=Nat.toDigits 10 n:=by
  show(Int.repr (Gq n)).toList=_
  exact Nat.toList_repr
 rw[e]
theorem nV(h:n<10):cK n=[48+n]:=by
 unfold cK
 rw[Ox h]
 have:n=0\/n=1\/n=2\/n=3\/n=4\/n=5\/n=6\/n=7\/n=8\/n=9:=by lia
 rcases this with rfl|rfl|rfl|rfl|rfl|rfl|rfl|rfl|rfl|rfl<;>decide
theorem tH{n:Nat}(h:10<=n):cK n=cK (n/10)++[48+n%10]:=by
 have e:=nV (n:=n%10) (by lia)
 unfold cK at e⊢
 rw[Nat.toDigits_of_base_le (by lia) h,cS]
 rw[Ox (by lia)]at e
 rw[show List.map Char.toNat [(n%10).digitChar]=[48+n%10]from e]
theorem xP{P:Nat->Prop}(h0:∀n,n<10->P n)(h1:∀n,10<=n->P (n/10)->P n)(n:Nat):P n:=by
 induction n using Nat.strongRecOn with
 |ind n ih=>
  by_cases h:n<10
  ·exact h0 n h
  ·exact h1 n (by lia) (ih _ (by lia))
theorem xQ(h:c∈cK n):48<=c/\c<=57:=by
 revert h
 refine xP (P:=λn=>c∈cK n->48<=c/\c<=57) (λn hn h=>?_) (λn hn ih h=>?_) n
 ·rw[nV hn]at h;simp at h;lia
 ·rw[tH hn,fD]at h
  rcases h with h|h
  ·exact ih h
  ·simp at h;lia
theorem Dx(n:Nat):cK n≠[]:=by
 by_cases h:n<10
 ·rw[nV h];simp
 ·rw[tH (by lia)];simp
theorem La(n:Nat):mY (cK n)=true:=by
 unfold mY
 have h1:=Dx n
 rw[aM]
 refine⟨by cases e:cK n with|nil=>exact absurd e h1|cons _ _=>rfl,?_⟩
 rw[gO]
 intro c hc
 have:=xQ hc
 simp[this.1,this.2]
theorem Lb(n:Nat):lM (cK n)=n:=by
 refine xP (P:=λn=>lM (cK n)=n) (λn hn=>?_) (λn hn ih=>?_) n
 ·rw[nV hn]
  show(0*10+(48+n-48))=n
  lia
 ·rw[tH hn]
  unfold lM at ih⊢
  rw[Oc,ih]
  show(n/10*10+(48+n%10-48))=n
  lia
theorem xR{k:Nat}(hk:0<k)(h:n<10^k):(cK n).length<=k:=by
 unfold cK
 rw[aD]
 exact(Nat.length_toDigits_le_iff (by lia) hk).mpr h
theorem Lc(hn:n≠0):∃c r,cK n=c::r/\c≠48:=by
 refine xP (P:=λn=>n≠0->∃c r,cK n=c::r/\c≠48) (λn h hn=>?_) (λn h ih hn=>?_) n hn
 ·exact⟨48+n,[],nV h,by lia⟩
 ·obtain⟨c,r,e,hc⟩:=ih (by lia)
  exact⟨c,r++[48+n%10],by rw[tH h,e];rfl,hc⟩
theorem Ld:cK 0=[48]:=nV (by lia)
theorem Dy{α:Type}[DecidableEq α]:∀(ks acc:List α),acc.Nodup->(∀k∈ks,k∉acc)->ks.Nodup->ks.foldl (λacc k=>if acc.any (λx=>decide (x=k))then acc else acc++[k]) acc=acc++ks
 |[],acc,_,_,_=>by simp
 |k::r,acc,ha,hd,hn=>by
  have h1:acc.any (λx=>decide (x=k))=false:=by
   rw[Gr]
   intro x hx
   simp only[decide_eq_true_eq]
   exact λe=>hd k bA (e▸hx)
  rw[lB,h1]
  simp only[Ae,if_false]
  rw[dP]at hn
  rw[Dy r (acc++[k]) ?_ ?_ hn.2]
  ·simp
  ·rw[kG]
   exact⟨ha,by simp,λa g1 b g2=>by simp at g2;subst g2;exact λe=>hd b bA (e▸g1)⟩
  ·intro x hx hx'
   rw[fD]at hx'
   rcases hx' with z|z
   ·exact hd x (aY _ hx) z
   ·simp at z;subst z;exact hn.1 hx
theorem xS{ks:List (Sum Int Str)}(h:ks.Nodup):iD ks=ks:=by
 have:=Dy ks [] kF (λ_ _=>by simp) h
 rw[eF]at this
 exact this
end Tr
namespace Tr
open PySem
variable{o:CmpOp}{a b:E}{x y:Str}
theorem xT(f:α->Bool):∀xs:List α,gK (xs.map λx=>D.bl (f x))=.ok (xs.map f)
 |[]=>rfl
 |x::r=>by
  rw[aG,gK,xT f r];rfl
noncomputable def dN(g:Str)(c:Nat):Bool:=decide (c∈g.cps.toList)
@[simp] theorem Le(c:Nat)(g:Str):D.cmp .In (.str (cH c)) (.str g)=.ok (.bl (dN g c)):=id rfl
noncomputable def aH(x:Str):List Nat:=x.cps.toList
@[simp] theorem run_all(xs:List D):Bt.run .all [.lst xs]=(do let q<-gK xs;.ok (.bl (q.all id))):=id rfl
@[simp] theorem PQ(x:Str):Bt.run .len [.str x]=aC (decide (x.length<=big)) (.ok (.int x.length)):=id rfl
@[simp] theorem Lf(x:Str):D.keys (.str x)=.ok ((aH x).map λc=>.inr (cH c)):=id rfl
@[simp] theorem items_str(x:Str):D.items (.str x)=.ok ((aH x).map λc=>.str (cH c)):=id rfl
theorem fM(x:Str):x.length=(aH x).length:=by cases x;simp[Str.length,aH]
theorem Lg(x:Str):x.length=x.cps.toList.length:=by cases x;simp[Str.length]
theorem tJ{α β:Type}{f:α->β}(hf:∀a b,f a=f b->a=b):∀{l:List α},l.Nodup->(l.map f).Nodup
 |[],_=>kF
 |a::r,h=>by
  rw[dP]at h
  rw[aG,dP]
  refine⟨λhm=>?_,tJ hf h.2⟩
  obtain⟨b,hb,e⟩:=cN.mp hm
  exact h.1 (hf _ _ e▸hb)
section
variable{T:Tab}
@[simp] theorem fresh_cmp:cI T (.cmp o a b)=false:=id rfl
@[simp] theorem PR{p:CmpOp}{c:E}:cI T (.chain o p a b c)=false:=id rfl
@[simp] theorem fresh_and:cI T (.and a b)=false:=id rfl
@[simp] theorem fresh_or:cI T (.or a b)=false:=id rfl
@[simp] theorem fresh_mod:cI T (.bin .Mod a b)=false:=id rfl
@[simp] theorem fresh_all:cI T (.bt .all a)=false:=id rfl
@[simp] theorem fresh_con{d:D}:cI T (.con d)=false:=id rfl
@[simp] theorem fresh_var{i:Nat}:cI T (.var i)=false:=id rfl
@[simp] theorem fresh_tup:cI T (.tup a)=false:=id rfl
@[simp] theorem fresh_join:cI T (.mth .join a b)=false:=id rfl
end
theorem aX(x y:Str):D.cmp .Eq (.str x) (.str y)=.ok (.bl (x==y)):=rfl
theorem Dz(x y:Str):D.cmp .NotEq (.str x) (.str y)=.ok (.bl (!(x==y))):=rfl
theorem Lh{c:Nat}{r:List Nat}(h:aH x=c::r)(hl:x.length<=big):(D.str x).ix (.int 0)=.ok (.str (cH c)):=by
 have e:atI x.cps.toList 0=some c:=by
  show atI (aH x) 0=some c
  rw[h];unfold atI ixN;simp;try lia
 show aC (decide (x.length<=big)) (Res.of ((atI x.cps.toList 0).map λc=>D.str ⟨#[c]⟩))=_
 rw[e,show decide (x.length<=big)=true from by simpa using hl]
 rfl
theorem pR(h:aH x=aH y):x=y:=by
 cases x;cases y
 simp only[aH]at h
 congr 1
 exact A9.mp h
theorem pS(h:aH x≠aH y):(x==y)=false:=by
 rw[beq_eq_false_iff_ne]
 exact λe=>h (by rw[e])
end Tr
namespace Tr
open PySem
variable{a b c d f g h:D}{cs:List (Nat×Nat)}{r:List D}{i k:Nat}
theorem lT(m:Nat)(h:m<10^9):Bt.run .int [.str (bG m)]=.ok (.int m):=by
 have hs:(bG m).cps.toList=cK m:=by simp[bG]
 have hl:(bG m).length<=640:=by
  rw[fM,show aH (bG m)=cK m from hs]
  have:=xR (k:=9) (by lia) h
  lia
 show aC (mY (bG m).cps.toList&&decide ((bG m).length<=640)) (.ok (D.int (lM (bG m).cps.toList)))=_
 rw[hs,La,Lb,show decide ((bG m).length<=640)=true from by simpa using hl]
 rfl
theorem xU(i k:Nat):∀cs:List (Nat×Nat),(i,k)∉cs->D.mem (.tup [.int i,.int k]) (cs.map λc:Nat×Nat=>D.tup [.int c.1,.int c.2])=false
 |[],_=>rfl
 |c::r,h=>by
  have h1:c≠(i,k):=λe=>h (by rw[e];exact bA)
  have h2:=xU i k r λe=>h (aY _ e)
  rw[aG,D.mem,h2,Bool.or_false]
  show((((c.1:Int)==(i:Int))&&(((c.2:Int)==(k:Int))&&true)))=false
  by_cases a:c.1=i
  ·by_cases b:c.2=k
   ·exact absurd (Prod.ext a b) h1
   ·have:((c.2:Int)==(k:Int))=false:=by simp;lia
    rw[this];simp
  ·have:((c.1:Int)==(i:Int))=false:=by simp;lia
   rw[this];rfl
theorem xV(n:Nat):∀cs:List (Nat×Nat),D.pls (n+2) (cs.map λc:Nat×Nat=>D.tup [.int c.1,.int c.2])=true
 |[]=>rfl
 |c::r=>by
  have:=xV n r
  rw[aG,D.pls,this]
  rfl
theorem Li(h:(i,k)∉cs):D.inn (.tup [.int i,.int k]) (.tup (cs.map λc:Nat×Nat=>D.tup [.int c.1,.int c.2]))=.ok false:=by
 show aC (D.pls 30 _&&D.pl 29 (.tup [.int i,.int k])) (.ok (D.mem _ _))=_
 rw[xU i k cs h,xV 28 cs]
 rfl
theorem Lj(h:(i,k)∉cs):D.inn (.tup [.int i,.int k]) (.lst (cs.map λc:Nat×Nat=>D.tup [.int c.1,.int c.2]))=.ok false:=by
 show aC (D.pls 30 _&&D.pl 29 (.tup [.int i,.int k])) (.ok (D.mem _ _))=_
 rw[xU i k cs h,xV 28 cs]
 rfl
theorem nW{α:Type}{xs:List α}{x:α}(h:xs[k]?=some x):atI xs (k:Int)=some x:=by
 have hk:=(fE.mp h).1
 unfold atI ixN
 rw[if_pos (by lia),if_pos (by lia)]
 exact h
@[simp] theorem ix_lst2:(D.lst (a::b::c::r)).ix (.int 2)=.ok c:=by
 show Res.of (atI _ ((2:Nat):Int))=_
 rw[nW (x:=c) rfl];rfl
@[simp] theorem ix_lst3:(D.lst (a::b::c::d::r)).ix (.int 3)=.ok d:=by
 show Res.of (atI _ ((3:Nat):Int))=_
 rw[nW (x:=d) rfl];rfl
@[simp] theorem ix_lst4:(D.lst (a::b::c::d::f::r)).ix (.int 4)=.ok f:=by
 show Res.of (atI _ ((4:Nat):Int))=_
 rw[nW (x:=f) rfl];rfl
theorem lU{α:Type}{xs:List α}{a:Nat}(ha:a<=xs.length):cut xs (some (a:Int)) none=xs.drop a:=by
 unfold cut sIx
 simp only[]
 rw[if_neg (by lia),kE,lE ha,kD (by simp)]
theorem EA{a b:List Nat}(h:a.length+b.length<=big):D.bin .Add (.str ⟨a.toArray⟩) (.str ⟨b.toArray⟩)=.ok (.str ⟨(a++b).toArray⟩):=by
 show aC (decide ((⟨a.toArray⟩:Str).length+(⟨b.toArray⟩:Str).length<=big)) (.ok (D.str ((⟨a.toArray⟩:Str)++(⟨b.toArray⟩:Str))))=_
 rw[show decide ((⟨a.toArray⟩:Str).length+(⟨b.toArray⟩:Str).length<=big)=true by
  rw[fM,fM];simp only[aH,Ow];exact decide_eq_true h]
 refine congrArg (λz=>Res.ok (D.str z)) (pR ?_)
 show(a.toArray++b.toArray).toList=(a++b).toArray.toList
 simp
theorem nX{α:Type}{xs:List α}{b:Nat}(hb:b<=xs.length):cut xs none (some (b:Int))=xs.take b:=by
 unfold cut sIx
 simp only[]
 rw[if_neg (by lia),kE,lE hb,uS,uT]
theorem pT{a b:List D}(h:a.length+b.length<=big):D.bin .Add (.lst a) (.lst b)=.ok (.lst (a++b)):=by
 show aC (decide (a.length+b.length<=big)) (.ok (D.lst (a++b)))=_
 rw[show decide (a.length+b.length<=big)=true by simpa using h]
 rfl
noncomputable def eZ{α:Type}(c:Int)(l:List α):List α:=l.drop (c%((l.length:Int)+1)).toNat++l.take (c%((l.length:Int)+1)).toNat
theorem xW{α:Type}(c:Int)(l:List α):(c%((l.length:Int)+1)).toNat<=l.length:=by
 have:=jI c (show(0:Int)<(l.length:Int)+1 by lia)
 lia
theorem xX{α:Type}{c:Int}{l:List α}{x:α}:x∈eZ c l↔x∈l:=by
 unfold eZ
 rw[fD]
 constructor
 ·rintro(h|h)
  ·exact Ah h
  ·exact oT h
 ·intro h
  rw[<-uY (c%((l.length:Int)+1)).toNat l,fD]at h
  exact h.symm
theorem tK{α:Type}(c:Int)(l:List α):(eZ c l).Perm l:=by
 unfold eZ
 refine(List.perm_append_comm).trans ?_
 rw[uY]
theorem xY{α β:Type}(f:α->β)(c:Int)(l:List α):eZ c (l.map f)=(eZ c l).map f:=by
 unfold eZ
 rw[aD,cS,rJ,mO]
@[simp] theorem ix_lst5:(D.lst (a::b::c::d::f::g::r)).ix (.int 5)=.ok g:=by
 show Res.of (atI _ ((5:Nat):Int))=_
 rw[nW (x:=g) rfl];rfl
@[simp] theorem ix_lst6:(D.lst (a::b::c::d::f::g::h::r)).ix (.int 6)=.ok h:=by
 show Res.of (atI _ ((6:Nat):Int))=_
 rw[nW (x:=h) rfl];rfl
@[simp] theorem ix_lst7{i:D}:(D.lst (a::b::c::d::f::g::h::i::r)).ix (.int 7)=.ok i:=by
 show Res.of (atI _ ((7:Nat):Int))=_
 rw[nW (x:=i) rfl];rfl
noncomputable def bS (w:Str):Prop:=1<=(aH w).length/\(aH w).length<=8/\(aH w).all (dN "abcdefghijklmnopqrstuvwxyz")=true
noncomputable def ent(p:Str×List D):D:=.tup (.str p.1::p.2)
end Tr
set_option maxRecDepth 100000
namespace Tr
open PySem
variable{cs:List (Option Nat)}{xs:List D}{P:List Part}{Q:List Player}{j k:Nat}{q:Player}
set_option genInjectivity false in
structure Player where
 name:Str
 voices:Str
 hire:Int
noncomputable def Player.enc(p:Player):D:=.tup [.str p.name,.str p.voices,.int p.hire]
@[simp] theorem EB{s:Player}:D.ix s.enc (.int 1)=.ok (.str s.voices):=De
@[simp] theorem EC{s:Part}:D.ix s.enc (.int 1)=.ok (.str s.voice):=De
theorem ED{ss:List Player}{s:Nat}{x:Player}(h:ss[s]?=some x):D.ix (.tup (ss.map Player.enc)) (.int s)=.ok x.enc:=jC (by rw[cE,h];rfl)
noncomputable def aT:Option Nat->D
 |none=>.non
 |some j=>.int (j:Int)
@[simp] theorem optN_none:aT none=.non:=id rfl
@[simp] theorem EE:aT (some j)=.int (j:Int):=id rfl
noncomputable def nY(p:Part)(q:Player):Bool:=match aH p.voice with
 |[c]=>dN q.voices c
 |_=>false
theorem Lk{p:Part}(h:(aH p.voice).length=1):D.cmp .In (.str p.voice) (.str q.voices)=.ok (.bl (nY p q)):=by
 obtain⟨c,hc⟩:∃c,aH p.voice=[c]:=Oy.mp h
 have e:p.voice=cH c:=pR (by rw[hc];rfl)
 unfold nY
 rw[hc]
 rw[e]
 exact Le c q.voices
theorem Ll{p:Part}(h:(aH p.voice).length=1):D.cmp .NotIn (.str p.voice) (.str q.voices)=.ok (.bl (!nY p q)):=by
 obtain⟨c,hc⟩:∃c,aH p.voice=[c]:=Oy.mp h
 have e:p.voice=cH c:=pR (by rw[hc];rfl)
 unfold nY
 rw[hc]
 rw[e]
 rfl
noncomputable def nZ(P:List Part)(Q:List Player)(k j:Nat):Bool:=((P[k]?).bind λp=>(Q[j]?).map λq=>nY p q).getD false
theorem EF(hk:k<P.length)(hj:j<Q.length):nZ P Q k j=nY P[k] Q[j]:=by
 unfold nZ;rw[aR hk,aR hj];rfl
noncomputable def kQ(P:List Part)(Q:List Player)(k:Nat):List Nat:=(aI Q.length).filter (nZ P Q k)
theorem Lm(h:j∈kQ P Q k):j<Q.length:=by simpa using(dW.mp h).1
theorem Ln{o:Option Nat}(h:cs[k]?=some o):D.ix (.lst (cs.map aT)) (.int k)=.ok (aT o):=nM (by rw[cE,h];rfl)
theorem Lo(o:Option Nat)(j:Nat):D.cmp .Eq (aT o) (.int j)=.ok (.bl (decide (o=some j))):=by
 cases o with
 |none=>rfl
 |some i=>
  show Res.ok (D.bl ((i:Int)==(j:Int)))=_
  by_cases h:i=j
  ·subst h;simp
  ·rw[show((i:Int)==(j:Int))=false by simp;lia];simp[h]
theorem Lp(o o':Option Nat):D.cmp .Eq (aT o) (aT o')=.ok (.bl (decide (o=o'))):=by
 cases o' with
 |none=>cases o<;>rfl
 |some j=>exact Lo o j
theorem xZ(k:Nat)(s:Player):D.pl (k+1) s.enc=true:=by
 show D.pls (k+1) [D.str s.name,.str s.voices,.int s.hire]=true
 cases k<;>rfl
theorem EG(k:Nat)(o:Nat):D.pl k (aL o)=true:=by cases k<;>rfl
theorem EH(h:D.pls 30 xs=true):D.cmp .Eq (.tup xs) (.tup [])=.ok (.bl xs.isEmpty):=by
 show aC (D.eqOk _ _) (.ok (D.bl (D.eqb (.tup xs) (.tup []))))=_
 rw[bW (by unfold D.eqOk;rw[nR,h];rfl)]
 cases xs<;>rfl
theorem EI(h:D.pls 30 xs=true):D.cmp .Eq (.lst xs) (.lst [])=.ok (.bl xs.isEmpty):=by
 show aC (D.eqOk _ _) (.ok (D.bl (D.eqb (.lst xs) (.lst []))))=_
 rw[bW (by unfold D.eqOk;rw[xK,h];rfl)]
 cases xs<;>rfl
theorem Lq(h:D.pls 30 xs=true):D.cmp .NotEq (.lst xs) (.lst [])=.ok (.bl (!xs.isEmpty)):=by
 show aC (D.eqOk _ _) (.ok (D.bl (!D.eqb (.lst xs) (.lst []))))=_
 rw[bW (by unfold D.eqOk;rw[xK,h];rfl)]
 cases xs<;>rfl
inductive Flt where
 |nob (i:Nat)|voi (i k:Nat)|cla (i j:Nat)
noncomputable def Flt.enc:Flt->D
 |.nob i=>.tup [.str "nobody", .int i]
 |.voi i k=>.tup [.str "voice", .int i,.int k]
 |.cla i j=>.tup [.str "clash", .int i,.int j]
noncomputable def eM:Option Flt->D
 |none=>.non
 |some x=>x.enc
@[simp] theorem Lr{o:Option Flt}:(eM o).isNon=o.isNone:=by
 cases o with
 |none=>rfl
 |some x=>cases x<;>rfl
theorem flt_pl(k:Nat)(x:Flt):D.pl (k+1) x.enc=true:=by
 cases x<;>simp only[Flt.enc,D.pls,D.pl,Bool.and_true,A_]
noncomputable def gF(P:List Part)(Q:List Player)(cs:List (Option Nat))(k:Nat):Option Flt:=match cs.getD k none with
 |none=>some (.nob k)
 |some j=>if nZ P Q k j=true then none else some (.voi k j)
noncomputable def dE(cs:List (Option Nat))(i j:Nat):Bool:=(cs.getD i none).isSome&&decide (cs.getD i none=cs.getD j none)
noncomputable def gY(P:List Part)(Q:List Player)(ps:List (Nat×Nat))(cs:List (Option Nat)):List Flt:=
 (aI cs.length).filterMap (gF P Q cs)++(ps.filter λp=>dE cs p.1 p.2).map λp=>.cla p.1 p.2
theorem EJ{α:Type}(f:α->D)(x:α):∀(cs:List α)(j:Nat),bX (j:Int) (cs.map f)=(aI cs.length).map (λk=>D.tup [.int ((j+k:Nat):Int),f (cs.getD k x)])
 |[],_=>rfl
 |c::r,j=>by
  rw[aG,bX,aW,rE,aG,bB]
  have h:=EJ f x r (j+1)
  rw[show((j+1:Nat):Int)=(j:Int)+1 by push_cast;rfl]at h
  rw[h]
  congr 1
  apply gH
  intro k _
  simp only[Function.comp,List.getD_cons_succ]
  congr 4
  lia
theorem EK(h:k<cs.length):cs[k]?=some (cs.getD k none):=by
 rw[gI,aR h];rfl
theorem EL(h:k<cs.length):D.ix (.lst (cs.map aT)) (.int k)=.ok (aT (cs.getD k none)):=Ln (EK h)
noncomputable def Flt.names(p:Nat):Flt->Bool
 |.nob i=>i==p
 |.voi i _=>i==p
 |.cla i j=>i==p||j==p
end Tr
set_option maxRecDepth 100000
namespace Tr
open PySem
theorem pU:∀{n:Nat} {l:List Nat},l.Nodup->(∀i∈l,i<n)->l.length<=n
 |0,l,hd,h=>by
  cases l with
  |nil=>exact aN _
  |cons a r=>exact absurd (h a bA) (by lia)
 |n+1,l,hd,h=>by
  have ih:=pU (n:=n) (l:=l.erase n) (hd.erase n) λi hi=>by
   have h1:=(hd.mem_erase_iff).mp hi
   have h2:=h i h1.2
   lia
  by_cases hn:n∈l
  ·rw[Oz hn]at ih
   lia
  ·rw[List.erase_of_not_mem hn]at ih
   lia
theorem jV(k:Nat)(p:Nat×Nat):D.pl (k+1) (aB p)=true:=by
 show D.pls (k+1) [D.int _,D.int _]=true
 cases k<;>rfl
end Tr
set_option maxRecDepth 100000
namespace Tr
open PySem
theorem Lu{many:Nat}{p:Nat×Nat}(h:p∈pairsOf many):p.1<p.2/\p.2<many:=Dr h
theorem EM(p q:Nat×Nat):D.eqb (aB p) (aB q)=decide (p=q):=by
 show D.eqs [D.int _,D.int _] [D.int _,D.int _]=_
 have:D.eqs [D.int (p.1:Int),D.int (p.2:Int)] [D.int (q.1:Int),D.int (q.2:Int)]=(((p.1:Int)==(q.1:Int))&&(((p.2:Int)==(q.2:Int))&&true)):=rfl
 rw[this,PB]
 simp
 constructor
 ·rintro⟨a,b⟩;exact Prod.ext (by lia) (by lia)
 ·rintro rfl;exact⟨rfl,rfl⟩
theorem pV(p:Nat×Nat):∀ps:List (Nat×Nat),D.mem (aB p) (ps.map aB)=decide (p∈ps)
 |[]=>rfl
 |q::r=>by
  rw[aG,D.mem,pV p r,EM]
  by_cases h1:q=p
  ·subst h1;simp
  ·have h2:¬p=q:=λz=>h1 z.symm
   by_cases h3:p∈r<;>simp[h1,h2,h3]
noncomputable def Flt.fst:Flt->Nat
 |.nob i=>i
 |.voi i _=>i
 |.cla i _=>i
noncomputable def aO(P:List Part)(S:List Scene):List (Nat×Nat):=(pairsOf P.length).filter λp=>(dM P S p.1 p.2).isSome
end Tr
set_option maxRecDepth 100000
namespace Tr
open PySem
variable{ps qs:List (Str×List D)}{ws:List Str}{w:Str}
set_option genInjectivity false in
structure PtB where
 name:Str
 v:Nat
 off:Nat
 on:Nat
set_option genInjectivity false in
structure PlB where
 name:Str
 voices:Str
 hire:Nat
set_option genInjectivity false in
structure ScB where
 name:Str
 len:Nat
 pause:Nat
 who:List Nat
noncomputable def PtB.p(x:PtB):Str×List D:=(x.name,[.str (cH x.v),.int x.off,.int x.on])
noncomputable def PlB.p(x:PlB):Str×List D:=(x.name,[.str x.voices,.int x.hire])
noncomputable def ScB.p(x:ScB):Str×List D:=(x.name,[.int x.len,.int x.pause,.tup (x.who.map λi:Nat=>D.int i)])
noncomputable def dS (ps:List (Str×List D)) (i:Nat):Str:=((ps[i]?).map (·.1)).getD ""
noncomputable def fN (x:PtB):List Str:=["part", x.name,cH x.v,bG x.off,bG x.on]
noncomputable def voW (w:Str):Str:=if aH w=[]then "-" else w
noncomputable def fA (x:PlB):List Str:=["player", x.name,voW x.voices,bG x.hire]
noncomputable def fO (ps:List (Str×List D)) (x:ScB):List Str := "scene" :: x.name::bG x.len::bG x.pause::x.who.map (dS ps)
noncomputable def fP (ps qs:List (Str×List D)) (l:Nat×Nat×Nat):List Str:=["like", dS qs l.1,dS ps l.2.1,bG l.2.2]
noncomputable def fQ (ps qs:List (Str×List D)) (c:Nat×Nat):List Str:=["cover", dS ps c.1,dS qs c.2]
noncomputable def bK (ws:List Str):Str:=iU " " ws
noncomputable def lkT(l:Nat×Nat×Nat):D:=.tup [.int l.1,.int l.2.1,.int l.2.2]
noncomputable def cvT(c:Nat×Nat):D:=.tup [.int c.1,.int c.2]
noncomputable def bkT(ps qs ss:List (Str×List D))(ls:List (Nat×Nat×Nat))(cs:List (Nat×Nat)):List D:=[.tup (ps.map ent),.tup (qs.map ent),.tup (ss.map ent),.tup (ls.map lkT),.tup (cs.map cvT)]
noncomputable def wd(w:Str):Prop:=32∉aH w/\w.length<=100
theorem EN:(" " : Str)=⟨#[32]⟩:=by decide +kernel
theorem EO(g:List Nat):∀ls:List (List Nat),(dH g ls).length<=(ls.map A7).sum+ls.length*g.length
 |[]=>by simp[dH]
 |[a]=>by simp[dH]
 |a::b::r=>by
  have ih:=EO g (b::r)
  rw[dH,cP,cP,aG,List.sum_cons,aW,A8]
  lia
theorem yA(c:Nat):∀ls:List Nat,(∀x∈ls,x<=c)->ls.sum<=ls.length*c
 |[],_=>by simp
 |a::r,h=>by
  have ih:=yA c r λx hx=>h x (aY _ hx)
  have:=h a bA
  rw[List.sum_cons,aW,A8];lia
theorem pW(h:∀w∈ws,wd w)(hl:ws.length<=100):(bK ws).length<=20000:=by
 unfold bK iU
 have e:(⟨(dH (" " : Str).cps.toList (ws.map λx=>x.cps.toList)).toArray⟩:Str).length=(dH (" " : Str).cps.toList (ws.map λx=>x.cps.toList)).length:=by simp[Str.length]
 rw[e]
 have h1:=EO (" " : Str).cps.toList (ws.map λx=>x.cps.toList)
 have h2:=yA 100 ((ws.map λx=>x.cps.toList).map A7) (by
  intro x hx
  rw[bB]at hx
  obtain⟨w,hw,rfl⟩:=cN.mp hx
  have:=(h w hw).2
  rw[Lg]at this
  exact this)
 have h3:(" " : Str).cps.toList.length=1:=by rw[EN];rfl
 rw[h3]at h1
 simp only[aD]at h1 h2
 lia
theorem pX(hn:ws≠[])(h:∀w∈ws,wd w):cT (bK ws) 32=ws:=by
 unfold bK
 rw[EN]
 exact L9 hn λx hx=>(h x hx).1
theorem pY (h:∀w∈ws,wd w) (hl:ws.length<=100):Mt.run .join (.str " ") (.lst (ws.map D.str))=.ok (.str (bK ws)):=by
 have e:∀l:List Str,iV (l.map D.str)=.ok l:=by
  intro l
  induction l with
  |nil=>rfl
  |cons a r ih=>rw[aG,iV,ih];rfl
 show(do let xs<-iV (ws.map D.str);aC (decide ((" " : Str).length<=64)&&decide ((xs.map λx:Str=>x.length).sum+xs.length*64<=big)) (.ok (D.str (iU " " xs))))=_
 rw[e,Res.ok_bind,bW]
 ·rfl
 ·have h2:=yA 100 (ws.map λx:Str=>x.length) (by
   intro x hx
   obtain⟨w,hw,rfl⟩:=cN.mp hx
   exact(h w hw).2)
  rw[aD]at h2
  have h3:(" " : Str).length<=64:=by decide +kernel
  have hb:20000<big:=by decide
  rw[decide_eq_true h3,decide_eq_true (by lia)];rfl
theorem kR(h:bS w):wd w:=by
 obtain⟨h1,h2,h3⟩:=h
 refine⟨λhm=>?_,by rw[fM];lia⟩
 have:=gO.mp h3 32 hm
 revert this
 decide +kernel
theorem oA{n:Nat}(h:n<10^9):wd (bG n):=by
 have e:aH (bG n)=cK n:=by simp[aH,bG]
 refine⟨λhm=>?_,?_⟩
 ·rw[e]at hm
  have:=xQ hm
  lia
 ·rw[fM,e]
  have:=xR (by lia) h
  lia
theorem ER (h:(aH w).all (dN "abcdefghijklmnopqrstuvwxyz")=true) (hl:(aH w).length<=100):wd w:=by
 refine⟨λhm=>?_,by rw[fM];exact hl⟩
 have:=gO.mp h 32 hm
 revert this
 decide +kernel
theorem Lv:wd "part" := ⟨by decide +kernel,by decide +kernel⟩
theorem Lw:wd "player" := ⟨by decide +kernel,by decide +kernel⟩
theorem Lx:wd "scene" := ⟨by decide +kernel,by decide +kernel⟩
theorem Ly:wd "like" := ⟨by decide +kernel,by decide +kernel⟩
theorem Lz:wd "cover" := ⟨by decide +kernel,by decide +kernel⟩
theorem MA:wd "-" := ⟨by decide +kernel,by decide +kernel⟩
set_option genInjectivity false in
structure GP(x:PtB):Prop where
 nm:bS x.name
 v:dN "abcdefghijklmnopqrstuvwxyz" x.v=true
 off:x.off<10^9
 on:x.on<10^9
set_option genInjectivity false in
structure GQ(x:PlB):Prop where
 nm:bS x.name
 nd:(aH x.voices).Nodup
 vs:(aH x.voices).all (dN "abcdefghijklmnopqrstuvwxyz")=true
 len:(aH x.voices).length<=100
 hire:x.hire<10^9
set_option genInjectivity false in
structure GS(many:Nat)(x:ScB):Prop where
 nm:bS x.name
 len:x.len<10^9
 pause:x.pause<10^9
 nd:x.who.Nodup
 lt:∀i∈x.who,i<many
 cnt:x.who.length<=50
theorem ES{x:PtB}(g:GP x):∀w∈fN x,wd w:=by
 intro w hw
 unfold fN at hw
 simp only[bL,iS,or_false]at hw
 rcases hw with rfl|rfl|rfl|rfl|rfl
 ·exact Lv
 ·exact kR g.nm
 ·exact ER (by show([x.v]).all _=true;simpa using g.v) (by show [x.v].length<=100;simp)
 ·exact oA g.off
 ·exact oA g.on
theorem ET{x:PlB}(g:GQ x):∀w∈fA x,wd w:=by
 intro w hw
 unfold fA at hw
 simp only[bL,iS,or_false]at hw
 rcases hw with rfl|rfl|rfl|rfl
 ·exact Lw
 ·exact kR g.nm
 ·unfold voW
  split
  ·exact MA
  ·exact ER g.vs g.len
 ·exact oA g.hire
theorem pZ(h:∀p∈ps,bS p.1){i:Nat}(hi:i<ps.length):bS (dS ps i):=by
 unfold dS
 rw[aR hi]
 exact h _ (jH hi)
theorem EU(h:∀p∈ps,bS p.1){x:ScB}(g:GS ps.length x):∀w∈fO ps x,wd w:=by
 intro w hw
 unfold fO at hw
 simp only[bL]at hw
 rcases hw with rfl|rfl|rfl|rfl|hw
 ·exact Lx
 ·exact kR g.nm
 ·exact oA g.len
 ·exact oA g.pause
 ·obtain⟨i,hi,rfl⟩:=cN.mp hw
  exact kR (pZ h (g.lt i hi))
theorem EV(h:∀p∈ps,bS p.1)(h':∀p∈qs,bS p.1){l:Nat×Nat×Nat}(g1:l.1<qs.length)(g2:l.2.1<ps.length)(g3:l.2.2<10^9):∀w∈fP ps qs l,wd w:=by
 intro w hw
 unfold fP at hw
 simp only[bL,iS,or_false]at hw
 rcases hw with rfl|rfl|rfl|rfl
 ·exact Ly
 ·exact kR (pZ h' g1)
 ·exact kR (pZ h g2)
 ·exact oA g3
theorem EW(h:∀p∈ps,bS p.1)(h':∀p∈qs,bS p.1){c:Nat×Nat}(g1:c.1<ps.length)(g2:c.2<qs.length):∀w∈fQ ps qs c,wd w:=by
 intro w hw
 unfold fQ at hw
 simp only[bL,iS,or_false]at hw
 rcases hw with rfl|rfl|rfl
 ·exact Lz
 ·exact kR (pZ h g1)
 ·exact kR (pZ h' g2)
end Tr
namespace Tr
open PySem
noncomputable abbrev IA:=PtB ⊕ PlB
noncomputable abbrev IZ:=ScB ⊕ ((Nat×Nat×Nat) ⊕ (Nat×Nat))
noncomputable def rowA:IA->Str
 |.inl x=>bK (fN x)
 |.inr y=>bK (fA y)
noncomputable def rowZ(ps qs:List (Str×List D)):IZ->Str
 |.inl x=>bK (fO ps x)
 |.inr (.inl l)=>bK (fP ps qs l)
 |.inr (.inr c)=>bK (fQ ps qs c)
noncomputable def aP:IA->Option PtB
 |.inl x=>some x
 |_=>none
noncomputable def aQ:IA->Option PlB
 |.inr x=>some x
 |_=>none
noncomputable def zS:IZ->Option ScB
 |.inl x=>some x
 |_=>none
noncomputable def zL:IZ->Option (Nat×Nat×Nat)
 |.inr (.inl l)=>some l
 |_=>none
noncomputable def zC:IZ->Option (Nat×Nat)
 |.inr (.inr c)=>some c
 |_=>none
variable{ps:List (Str×List D)}{i:Nat}
structure GB(Ps:List PtB)(Qs:List PlB)(Ss:List ScB)(Ls:List (Nat×Nat×Nat))(Cs:List (Nat×Nat)):Prop where
 gp:∀x∈Ps,GP x
 gq:∀x∈Qs,GQ x
 gs:∀x∈Ss,GS Ps.length x
 gl:∀l∈Ls,l.1<Qs.length/\l.2.1<Ps.length/\l.2.2<10^9
 gc:∀c∈Cs,c.1<Ps.length/\c.2<Qs.length
 np:(Ps.map (·.name)).Nodup
 nq:(Qs.map (·.name)).Nodup
 ns:(Ss.map (·.name)).Nodup
 nl:(Ls.map λl=>(l.1,l.2.1)).Nodup
 nc:Cs.Nodup
 lp:Ps.length<=50
 lq:Qs.length<=50
 ls:Ss.length<=50
 ll:Ls.length<=64
 lc:Cs.length<=64
theorem GB.nmP{Ps Qs Ss Ls Cs}(g:GB Ps Qs Ss Ls Cs):∀p∈Ps.map PtB.p,bS p.1:=λp hp=>by
 obtain⟨x,hx,rfl⟩:=cN.mp hp
 exact(g.gp x hx).nm
theorem GB.nmQ{Ps Qs Ss Ls Cs}(g:GB Ps Qs Ss Ls Cs):∀p∈Qs.map PlB.p,bS p.1:=λp hp=>by
 obtain⟨x,hx,rfl⟩:=cN.mp hp
 exact(g.gq x hx).nm
noncomputable def tL(Ps:List PtB)(Qs:List PlB)(Ss:List ScB)(Ls:List (Nat×Nat×Nat))(Cs:List (Nat×Nat)):List Str:=
 Ps.map (λx=>bK (fN x))++Qs.map (λx=>bK (fA x))++Ss.map (λx=>bK (fO (Ps.map PtB.p) x))++Ls.map (λl=>bK (fP (Ps.map PtB.p) (Qs.map PlB.p) l))++Cs.map λc=>bK (fQ (Ps.map PtB.p) (Qs.map PlB.p) c)
theorem oB{n:Nat}(h:n<10^9):Bt.run .str [.int (n:Int)]=.ok (.str (bG n)):=by
 show aC (decide ((n:Int).natAbs.log2<1920)) (.ok (D.str (Str.ofString (toString (n:Int)))))=_
 rw[bW,L_]
 rw[decide_eq_true_eq,Int.natAbs_natCast]
 by_cases z:n=0
 ·subst z;decide
 ·have h2:=Nat.log2_lt (n:=n) (k:=1920) z
  rw[h2]
  exact dU h (eQ (by decide:10^9<=2^30) (Nat.pow_le_pow_right (by decide) (by decide)))
theorem qA(h:i<ps.length):D.ix (.tup (ps.map ent)) (.int i)=.ok (ent ps[i]):=jC (by rw[cE,aR h];rfl)
@[simp] theorem ent_0{p:Str×List D}:D.ix (ent p) (.int 0)=.ok (.str p.1):=ix_t0
theorem jW(h:i<ps.length):dS ps i=ps[i].1:=by unfold dS;rw[aR h];rfl
end Tr
namespace Tr
theorem yB{α β:Type}{f:α->β}:∀{l:List α},(∀a∈l,∀b∈l,f a=f b->a=b)->l.Nodup->(l.map f).Nodup
 |[],_,_=>.nil
 |a::r,h,hd=>by
  obtain⟨h1,h2⟩:=dP.mp hd
  rw[aG,dP]
  refine⟨λhm=>?_,yB (λx hx y hy e=>h x (aY _ hx) y (aY _ hy) e) h2⟩
  obtain⟨b,hb,e⟩:=cN.mp hm
  have:=h b (aY _ hb) a bA e
  subst this
  exact h1 hb
end Tr
namespace Tr
open PySem
theorem yC{α:Type}(p:α->Str×List D)(xs:List α):(xs.map p).map ent=xs.map λx=>ent (p x):=by rw[bB];rfl
end Tr
namespace Tr
end Tr
set_option maxRecDepth 100000
namespace Tr
open PySem
variable{c:Chg}{P:List Part}{L:List Scene}{a many t:Nat}{x:Scene}
inductive Chg where
 |mov (a t:Nat)|cut (a:Nat)|add (a:Nat) (s:Scene)|len (a:Nat) (m:Int)|pau (a:Nat) (m:Int)|ent (a p:Nat)|lea (a p:Nat)
noncomputable def Chg.enc:Chg->D
 |.mov a t=>.tup [.str "move", .int a,.int t]
 |.cut a=>.tup [.str "cut", .int a]
 |.add a s=>.tup [.str "add", .int a,s.enc]
 |.len a m=>.tup [.str "length", .int a,.int m]
 |.pau a m=>.tup [.str "pause", .int a,.int m]
 |.ent a p=>.tup [.str "enter", .int a,.int p]
 |.lea a p=>.tup [.str "leave", .int a,.int p]
noncomputable def iI(m:Int):Prop:=0<=m/\m<=999999999
structure NewScene(many:Nat)(S:List Scene)(s:Scene):Prop where
 nm:bS s.name
 new:∀x∈S,x.name≠s.name
 len:iI s.len
 pause:iI s.pause
 nd:s.who.Nodup
 lt:∀i∈s.who,i<many
noncomputable def Chg.fit(many:Nat)(S:List Scene):Chg->Prop
 |.mov a t=>a<S.length/\t<S.length
 |.cut a=>a<S.length
 |.add a s=>a<=S.length/\NewScene many S s
 |.len a m=>a<S.length/\iI m
 |.pau a m=>a<S.length/\iI m
 |.ent a p=>a<S.length/\p<many/\p∉fL S a
 |.lea a p=>a<S.length/\p∈fL S a
noncomputable def bN(S:List Scene)(a:Nat):List Scene:=S.take a++S.drop (a+1)
noncomputable def bU(S:List Scene)(a:Nat)(x:Scene):List Scene:=S.take a++x::S.drop a
noncomputable def aK (S:List Scene) (a:Nat):Scene:=(S[a]?).getD ⟨"", 0,0,[]⟩
noncomputable def Chg.mod(x:Scene):Chg->Scene
 |.len _ m=>⟨x.name,m,x.pause,x.who⟩
 |.pau _ m=>⟨x.name,x.len,m,x.who⟩
 |.ent _ p=>⟨x.name,x.len,x.pause,x.who++[p]⟩
 |.lea _ p=>⟨x.name,x.len,x.pause,x.who.filter λi=>!(i==p)⟩
 |_=>x
noncomputable def Chg.on(S:List Scene):Chg->List Scene
 |.mov a t=>bU (bN S a) t (aK S a)
 |.cut a=>bN S a
 |.add a s=>bU S a s
 |.len a m=>bU (bN S a) a ((Chg.len a m).mod (aK S a))
 |.pau a m=>bU (bN S a) a ((Chg.pau a m).mod (aK S a))
 |.ent a p=>bU (bN S a) a ((Chg.ent a p).mod (aK S a))
 |.lea a p=>bU (bN S a) a ((Chg.lea a p).mod (aK S a))
theorem lV{S:List Scene}(h:a<S.length):S[a]?=some (aK S a):=by
 unfold aK;rw[aR h];rfl
theorem gZ{S:List Scene}(h:a<S.length):(bN S a).length=S.length-1:=by
 unfold bN;rw[cP,dF,iP];lia
theorem oC{S:List Scene}(h:a<=S.length):(bU S a x).length=S.length+1:=by
 unfold bU;rw[cP,aW,dF,iP];lia
theorem MB{S:List Scene}(h:a<S.length):(bN S a).take a=S.take a:=by
 unfold bN;rw[PC (by rw[dF];lia),List.take_take];congr 1;lia
theorem MC{S:List Scene}(h:a<S.length):(bN S a).drop a=S.drop (a+1):=by
 unfold bN;rw[PD (by rw[dF];lia)]
 rw[uU (by rw[dF];lia)];rfl
theorem yD{S:List Scene}(h:a<S.length):S=S.take a++aK S a::S.drop (a+1):=by
 have e:S.drop a=aK S a::S.drop (a+1):=by
  rw[rF h]
  congr 1
  unfold aK;rw[aR h];rfl
 rw[<-e,uY]
theorem EX{S:List Scene}(h:a<S.length):bU (bN S a) a x=S.take a++x::S.drop (a+1):=by
 rw[bU,MB h,MC h]
theorem jF{S:List Scene}(h:x∈bN S a):x∈S:=by
 unfold bN at h
 rcases fD.mp h with h|h
 ·exact oT h
 ·exact Ah h
theorem jX{S:List Scene}{y:Scene}(h:x∈bU S a y):x=y\/x∈S:=by
 unfold bU at h
 rcases fD.mp h with h|h
 ·exact .inr (oT h)
 ·rcases bL.mp h with h|h
  ·exact .inl h
  ·exact .inr (Ah h)
theorem jY{S:List Scene}(h:a<S.length):aK S a∈S:=iO (lV h)
theorem tM{S:List Scene}(h:a<S.length):fL S a=(aK S a).who:=by
 unfold fL;rw[lV h];rfl
structure OkScene(many:Nat)(s:Scene):Prop where
 len:iI s.len
 pause:iI s.pause
 nd:s.who.Nodup
 lt:∀i∈s.who,i<many
theorem qB{S:List Scene}(g:∀x∈S,OkScene many x)(hf:c.fit many S):∀x∈c.on S,OkScene many x:=by
 intro x hx
 cases c with
 |mov a t=>
  rcases jX hx with rfl|hx
  ·exact g _ (jY hf.1)
  ·exact g _ (jF hx)
 |cut a=>exact g _ (jF hx)
 |add a s=>
  rcases jX hx with rfl|hx
  ·exact⟨hf.2.len,hf.2.pause,hf.2.nd,hf.2.lt⟩
  ·exact g _ hx
 |len a m=>
  rcases jX hx with rfl|hx
  ·have h:=g _ (jY hf.1);exact⟨hf.2,h.pause,h.nd,h.lt⟩
  ·exact g _ (jF hx)
 |pau a m=>
  rcases jX hx with rfl|hx
  ·have h:=g _ (jY hf.1);exact⟨h.len,hf.2,h.nd,h.lt⟩
  ·exact g _ (jF hx)
 |ent a p=>
  rcases jX hx with rfl|hx
  ·have h:=g _ (jY hf.1)
   have hp:=hf.2.2
   rw[tM hf.1]at hp
   refine⟨h.len,h.pause,?_,λi hi=>?_⟩
   ·show((aK S a).who++[p]).Nodup
    rw[kG]
    exact⟨h.nd,by simp,λu hu y hy=>by simp at hy;subst hy;exact λe=>hp (e▸hu)⟩
   ·rcases fD.mp hi with hi|hi
    ·exact h.lt i hi
    ·simp at hi;rw[hi];exact hf.2.1
  ·exact g _ (jF hx)
 |lea a p=>
  rcases jX hx with rfl|hx
  ·have h:=g _ (jY hf.1)
   exact⟨h.len,h.pause,rC.filter _ h.nd,λi hi=>h.lt i (dW.mp hi).1⟩
  ·exact g _ (jF hx)
theorem EY{S:List Scene}(hf:c.fit many S):(c.on S).length<=S.length+1:=by
 cases c with
 |mov a t=>
  have:=gZ hf.1
  show(bU (bN S a) t _).length<=_
  rw[oC (by have:=hf.2;lia)];lia
 |cut a=>show(bN S a).length<=_;rw[gZ hf];lia
 |add a s=>show(bU S a s).length<=_;rw[oC hf.1];lia
 |len a m|pau a m|ent a m|lea a m=>
  have h:a<S.length:=hf.1
  have:=gZ h
  show(bU (bN S a) a _).length<=_
  rw[oC (by lia)];lia
theorem oD{a b:List D}(h:a.length+b.length<=big):D.bin .Add (.tup a) (.tup b)=.ok (.tup (a++b)):=by
 show aC (decide (a.length+b.length<=big)) _=_
 rw[bW (decide_eq_true h)]
theorem MD{α:Type}(f:α->D)(xs:List α)(lo hi:Option Int):cut (xs.map f) lo hi=(Tr.cut xs lo hi).map f:=by
 unfold cut;rw[aD,mO,rJ]
theorem EZ:∀ns:List Nat,gQ (aE ns)=.ok (ns.map λi:Nat=>(Sum.inl (i:Int):Sum Int Str))
 |[]=>rfl
 |a::r=>by
  have:=EZ r
  unfold aE at this⊢
  rw[aG,gQ,this];rfl
theorem E1{i:Nat}{ws:List Nat}:D.cmp .NotIn (.int i) (.tup (aE ws))=.ok (.bl (!decide (i∈ws))):=by
 show(do let k<-D.inn (.int i) (.tup (aE ws));.ok (D.bl (!k)))=_
 show(do let k<-aC (D.pls 30 (aE ws)&&D.pl 29 (.int i)) (.ok (D.mem (.int i) (aE ws)));.ok (D.bl (!k)))=_
 rw[bW (by rw[nN 29 ws];rfl),sW];rfl
@[simp] theorem PU:(("move" : Str) == "cut")=false:=by decide
@[simp] theorem PV:(("move" : Str) == "add")=false:=by decide
@[simp] theorem PX:(("cut" : Str) == "move")=false:=by decide
@[simp] theorem kd_cut_add:(("cut" : Str) == "add")=false:=by decide
@[simp] theorem PY:(("add" : Str) == "move")=false:=by decide
@[simp] theorem PZ:(("length" : Str) == "move")=false:=by decide
@[simp] theorem P1:(("length" : Str) == "cut")=false:=by decide
@[simp] theorem P2:(("length" : Str) == "add")=false:=by decide
@[simp] theorem P3:(("length" : Str) == "pause")=false:=by decide
@[simp] theorem P4:(("pause" : Str) == "move")=false:=by decide
@[simp] theorem P5:(("pause" : Str) == "cut")=false:=by decide
@[simp] theorem P6:(("pause" : Str) == "add")=false:=by decide
@[simp] theorem P7:(("pause" : Str) == "length")=false:=by decide
@[simp] theorem P8:(("enter" : Str) == "move")=false:=by decide
@[simp] theorem P9:(("enter" : Str) == "cut")=false:=by decide
@[simp] theorem P_:(("enter" : Str) == "add")=false:=by decide
@[simp] theorem Pa:(("enter" : Str) == "length")=false:=by decide
@[simp] theorem Pb:(("enter" : Str) == "pause")=false:=by decide
@[simp] theorem Pc:(("leave" : Str) == "move")=false:=by decide
@[simp] theorem Pd:(("leave" : Str) == "cut")=false:=by decide
@[simp] theorem Pe:(("leave" : Str) == "add")=false:=by decide
@[simp] theorem Pf:(("leave" : Str) == "length")=false:=by decide
@[simp] theorem Ph:(("leave" : Str) == "pause")=false:=by decide
@[simp] theorem Pi:(("leave" : Str) == "enter")=false:=by decide
theorem yE{S:List Scene}{p:Nat×Nat}(h:p∈aO P S):p.1<P.length/\p.2<P.length:=by
 have:=Lu (dW.mp h).1;lia
theorem lW{S:List Scene}(hp:P.length<=8):(aO P S).length<=64:=by
 have h1:=lF (λp:Nat×Nat=>(dM P S p.1 p.2).isSome) (pairsOf P.length)
 have h2:=xO P.length P.length
 have h3:P.length*P.length<=8*8:=rK hp hp
 unfold aO pairsOf at *
 lia
noncomputable def cF(X Y:List (Nat×Nat)):List (Nat×Nat):=X.filter λp=>!decide (p∈Y)
theorem yF(h:t<=L.length):bN (bU L t x) t=L:=by
 have hl:(L.take t).length=t:=by rw[dF];lia
 unfold bN bU
 rw[PC (by lia),kD (by lia)]
 rw[show L.take t++x::L.drop t=(L.take t++[x])++L.drop t by simp]
 rw[PD (by simp;lia),uU (by simp;lia),eF,uY]
theorem at_put(h:t<=L.length):aK (bU L t x) t=x:=by
 have hl:(L.take t).length=t:=by rw[dF];lia
 unfold aK bU
 rw[iN (by lia),hl,Nat.sub_self];rfl
theorem yG{S:List Scene}(h:a<S.length):bU (bN S a) a (aK S a)=S:=by
 rw[EX h];exact(yD h).symm
noncomputable def gG(S:List Scene):Chg->List Chg
 |.mov a t=>[.mov t a]
 |.add a _=>[.cut a]
 |.cut a=>[.add a (aK S a)]
 |.len a _=>[.cut a,.add a (aK S a)]
 |.pau a _=>[.cut a,.add a (aK S a)]
 |.ent a _=>[.cut a,.add a (aK S a)]
 |.lea a _=>[.cut a,.add a (aK S a)]
noncomputable def qC(many:Nat)(R:List Scene):List Scene->List Chg->Prop
 |S,[]=>S=R
 |S,c::r=>c.fit many S/\S.length<=R.length+1/\(∀s∈S,OkScene many s)/\qC many R (c.on S) r
structure Nice(many:Nat)(S:List Scene):Prop where
 ok:∀s∈S,OkScene many s
 nm:∀s∈S,bS s.name
 nd:(S.map Scene.name).Nodup
theorem E2{S:List Scene}{a:Nat}(h:a<S.length):S.Perm (aK S a::bN S a):=by
 have:=PF (a:=aK S a) (l₁:=S.take a) (l₂:=S.drop (a+1))
 rw[<-yD h]at this
 exact this
theorem yH{S:List Scene}(g:Nice many S)(h:a<S.length):NewScene many (bN S a) (aK S a):=by
 have hm:=jY h
 have ok:=g.ok _ hm
 refine⟨g.nm _ hm,λx hx e=>?_,ok.len,ok.pause,ok.nd,ok.lt⟩
 have p:=((E2 h).map Scene.name).nodup_iff.mp g.nd
 rw[aG,dP]at p
 exact p.1 (by rw[<-e];exact cN.mpr ⟨x,hx,rfl⟩)
theorem ME{S:List Scene}(g:Nice many S)(hf:c.fit many S):qC many S (c.on S) (gG S c):=by
 have ok:=qB g.ok hf
 have ln:=EY hf
 have mods:∀a (y:Scene),a<S.length->c.on S=bU (bN S a) a y->qC many S (c.on S) [.cut a,.add a (aK S a)]:=by
  intro a y h e
  have h1:a<=(bN S a).length:=by rw[gZ h];lia
  have hl:a<(c.on S).length:=by rw[e,oC h1];lia
  refine⟨hl,ln,ok,?_⟩
  have e2:(Chg.cut a).on (c.on S)=bN S a:=by rw[e];exact yF h1
  rw[e2]
  refine⟨⟨h1,yH g h⟩,by rw[gZ h];lia,λs hs=>g.ok s (jF hs),?_⟩
  exact yG h
 cases c with
 |mov a t=>
  obtain⟨h1,h2⟩:=hf
  have ht:t<=(bN S a).length:=by rw[gZ h1];lia
  have hl:((Chg.mov a t).on S).length=S.length:=by
   show(bU (bN S a) t _).length=_
   rw[oC ht,gZ h1];lia
  refine⟨⟨by lia,by lia⟩,ln,ok,?_⟩
  show bU (bN (bU (bN S a) t (aK S a)) t) a (aK (bU (bN S a) t (aK S a)) t)=S
  rw[yF ht,at_put ht,yG h1]
 |add a s=>
  refine⟨?_,ln,ok,?_⟩
  ·show a<(bU S a s).length
   rw[oC hf.1];have:=hf.1;lia
  ·show bN (bU S a s) a=S
   exact yF hf.1
 |cut a=>
  refine⟨⟨by show a<=(bN S a).length;rw[gZ hf];have:a<S.length:=hf;lia,yH g hf⟩,ln,ok,?_⟩
  exact yG hf
 |len a m=>exact mods a _ hf.1 rfl
 |pau a m=>exact mods a _ hf.1 rfl
 |ent a p=>exact mods a _ hf.1 rfl
 |lea a p=>exact mods a _ hf.1 rfl
end Tr
namespace Tr
open PySem PySem.W PyProof.Rows
variable{k m n:Nat}
section
variable{f:Nat->Int}
theorem oE{α β:Type}{lt:Nat->Nat->Bool}{g:α->KasT β}:∀t:KasT α,cO lt (t.bind g)=cO lt (g (cO lt t))
 |.ret a=>rfl
 |.ask i j k=>oE (k (lt i j))
noncomputable abbrev ltF(f:Nat->Int)(i j:Nat):Bool:=decide (f i<f j)
noncomputable def Ris(f:Nat->Int)(p:Array Nat)(b:Nat):Prop:=∀i j,i<j->j<b->f (p.getD i 0)<f (p.getD j 0)
structure Okp(f:Nat->Int)(n:Nat)(p:Array Nat):Prop where
 size:p.size=n
 perm:p.Perm (iT (aI n))
 inj:∀i j,i<j->j<n->f (p.getD i 0)≠f (p.getD j 0)
theorem yI{p:Array Nat}(h:Okp f n p):∀k m,1<=m->m+k=n->Ris f p m->∃m',cO (ltF f) (kas_asc p k m)=m'/\m<=m'/\m'<=n/\Ris f p m'/\(m'<n->f (p.getD m' 0)<f (p.getD (m'-1) 0))
 |0,m,h1,h2,h3=>⟨m,rfl,aN _,by lia,h3,λz=>by lia⟩
 |k+1,m,h1,h2,h3=>by
  by_cases c:f (p.getD m 0)<f (p.getD (m-1) 0)
  ·refine⟨m,?_,aN _,by lia,h3,λ_=>c⟩
   show cO (ltF f) (if ltF f (p.getD m 0) (p.getD (m-1) 0)=true then .ret m else kas_asc p k (m+1))=m
   rw[if_pos (decide_eq_true c)];rfl
  ·have ne:=h.inj (m-1) m (by lia) (by lia)
   obtain⟨m',e,a1,a2,a3,a4⟩:=yI h k (m+1) (by lia) (by lia) (λi j hi hj=>by
    by_cases z:j<m
    ·exact h3 i j hi z
    ·have:j=m:=by lia
     subst this
     by_cases y:i=j-1
     ·subst y;lia
     ·have:=h3 i (j-1) (by lia) (by lia);lia)
   refine⟨m',?_,by lia,a2,a3,a4⟩
   show cO (ltF f) (if ltF f (p.getD m 0) (p.getD (m-1) 0)=true then .ret m else kas_asc p k (m+1))=m'
   rw[if_neg (by simpa using c)];exact e
noncomputable def Fal(f:Nat->Int)(p:Array Nat)(b:Nat):Prop:=∀i j,i<j->j<b->f (p.getD j 0)<f (p.getD i 0)
theorem E3{p:Array Nat}(h:Okp f n p):∀k m,1<=m->m+k=n->Fal f p m->∃m',cO (ltF f) (kas_desc k p m 0)=(p,m',0)/\m<=m'/\m'<=n/\Fal f p m'
 |0,m,h1,h2,h3=>⟨m,rfl,aN _,by lia,h3⟩
 |k+1,m,h1,h2,h3=>by
  have ne:=h.inj (m-1) m (by lia) (by lia)
  by_cases c:f (p.getD m 0)<f (p.getD (m-1) 0)
  ·obtain⟨m',e,a1,a2,a3⟩:=E3 h k (m+1) (by lia) (by lia) (λi j hi hj=>by
    by_cases z:j<m
    ·exact h3 i j hi z
    ·have:j=m:=by lia
     subst this
     by_cases y:i=j-1
     ·subst y;exact c
     ·have:=h3 i (j-1) (by lia) (by lia);lia)
   refine⟨m',?_,by lia,a2,a3⟩
   show cO (ltF f) (if ltF f (p.getD m 0) (p.getD (m-1) 0)=true then(if 0>0 then kas_desc k (kas_rev p (m-(0+1)) m) (m+1) 0 else kas_desc k p (m+1) 0)else _)=_
   rw[if_pos (decide_eq_true c),if_neg (iM 0)];exact e
  ·refine⟨m,?_,aN _,by lia,h3⟩
   show cO (ltF f) (if ltF f (p.getD m 0) (p.getD (m-1) 0)=true then _ else KasT.ask (p.getD (m-1) 0) (p.getD m 0) λd=>if d=true then .ret (p,m,0)else kas_desc k p (m+1) (0+1))=_
   rw[if_neg (by simpa using c)]
   show cO (ltF f) (if ltF f (p.getD (m-1) 0) (p.getD m 0)=true then _ else _)=_
   rw[if_pos (decide_eq_true (by lia))];rfl
theorem tN{p:Array Nat}(hm:m<=p.size)(i:Nat):(kas_rev p 0 m).getD i 0=if i<m then p.getD (m-1-i) 0 else p.getD i 0:=by
 rw[mP,kas_rev,getElem?_mirror_all hm]
 by_cases c:i<m
 ·rw[if_pos ⟨eT _,c⟩,if_pos c,mP,Ai]
 ·rw[if_neg (λz=>c z.2),if_neg c,mP]
theorem rev_ok{p:Array Nat}(h:Okp f n p)(hm:m<=n):Okp f n (kas_rev p 0 m):=by
 have hs:=h.size
 refine⟨by rw[kas_rev,mirror_size];exact hs,(mirror_perm ..).trans h.perm,λi j hij hj=>?_⟩
 rw[tN (by lia),tN (by lia)]
 split<;>split
 ·exact Ne.symm (h.inj (m-1-j) (m-1-i) (by lia) (by lia))
 ·exact h.inj (m-1-i) j (by lia) hj
 ·lia
 ·exact h.inj i j hij hj
theorem MF(hn:1<=n){p:Array Nat}(h:Okp f n p):∃r:Nat×Array Nat,cO (ltF f) (kas_count n p)=r/\1<=r.1/\r.1<=n/\Okp f n r.2/\Ris f r.2 r.1:=by
 obtain⟨m,e,a1,a2,a3,a4⟩:=yI h (n-1) 1 (aN _) (by lia) (λi j hi hj=>by lia)
 unfold kas_count
 rw[oE,e]
 by_cases c1:m=n
 ·rw[if_pos (by simpa using c1)]
  exact⟨(m,p),rfl,a1,a2,h,a3⟩
 ·rw[if_neg (by simpa using c1)]
  by_cases c2:m>1
  ·rw[if_pos c2]
   show ∃r,cO (ltF f) (if ltF f (p.getD 0 0) (p.getD (m-1) 0)=true then _ else _)=r/\_
   rw[if_pos (decide_eq_true (a3 0 (m-1) (by lia) (by lia)))]
   exact⟨(m,p),rfl,a1,a2,h,a3⟩
  ·rw[if_neg c2]
   have m1:m=1:=by lia
   subst m1
   have lt:=a4 (by lia)
   obtain⟨m',e',b1,b2,b3⟩:=E3 h (n-2) 2 (by lia) (by lia) (λi j hi hj=>by
    have:i=0/\j=1:=by lia
    rw[this.1,this.2];exact lt)
   unfold kas_descPart
   rw[oE,show n-(1+1)=n-2 from rfl,show 1+1=2 from rfl,e']
   show ∃r,cO (ltF f) (if 0>0 then _ else kas_tail3 m' n p)=r/\_
   rw[if_neg (iM 0)]
   unfold kas_tail3
   rw[oE]
   have hr:=rev_ok h b2
   have hs:=h.size
   obtain⟨m2,e2,c1',c2',c3',_⟩:=yI hr (n-m') m' (by lia) (by lia) (λi j hi hj=>by
    rw[tN (by lia),tN (by lia),if_pos (by lia),if_pos hj]
    exact b3 (m'-1-j) (m'-1-i) (by lia) (by lia))
   rw[e2]
   exact⟨(m2,kas_rev p 0 m'),rfl,by show 1<=m2;lia,c2',hr,c3'⟩
theorem yJ{p:Array Nat}(h:Okp f n p)(hk:k<n)(hr:Ris f p k):∀g l r,r-l<=g->l<=r->r<=k->(∀i,i<l->f (p.getD i 0)<f (p.getD k 0))->(∀i,r<=i->i<k->f (p.getD k 0)<f (p.getD i 0)) ->
 ∃q,cO (ltF f) (kas_place p k g l r)=q/\q<=k/\(∀i,i<q->f (p.getD i 0)<f (p.getD k 0))/\∀i,q<=i->i<k->f (p.getD k 0)<f (p.getD i 0)
 |0,l,r,hg,h1,h2,h3,h4=>⟨l,rfl,by lia,h3,λi hi=>h4 i (by lia)⟩
 |g+1,l,r,hg,h1,h2,h3,h4=>by
  rw[kas_place]
  by_cases c:l≥r
  ·rw[if_pos c]
   exact⟨l,rfl,by lia,h3,λi hi=>h4 i (by lia)⟩
  ·rw[if_neg c]
   have ne:=h.inj ((l+r)/2) k (by lia) hk
   by_cases d:f (p.getD k 0)<f (p.getD ((l+r)/2) 0)
   ·obtain⟨q,e,q1⟩:=yJ h hk hr g l ((l+r)/2) (by lia) (by lia) (by lia) h3 (λi hi hik=>by
     by_cases z:i=(l+r)/2
     ·rw[z];exact d
     ·have:=hr ((l+r)/2) i (by lia) hik;lia)
    refine⟨q,?_,q1⟩
    show cO (ltF f) (if ltF f (p.getD k 0) (p.getD ((l+r)/2) 0)=true then _ else _)=_
    rw[if_pos (decide_eq_true d)];exact e
   ·obtain⟨q,e,q1⟩:=yJ h hk hr g ((l+r)/2+1) r (by lia) (by lia) h2 (λi hi=>by
     by_cases z:i=(l+r)/2
     ·rw[z];lia
     ·have:=hr i ((l+r)/2) (by lia) (by lia);lia) h4
    refine⟨q,?_,q1⟩
    show cO (ltF f) (if ltF f (p.getD k 0) (p.getD ((l+r)/2) 0)=true then _ else _)=_
    rw[if_neg (by simpa using d)];exact e
theorem MG{p:Array Nat}{l:Nat}(hk:k<p.size)(hl:l<=k)(i:Nat):(bubble p k (k-l)).getD i 0=if i=l then p.getD k 0 else if l<i/\i<=k then p.getD (i-1) 0 else p.getD i 0:=by
 rw[mP,getElem?_bubble hk _ (Nat.sub_le _ _),show k-(k-l)=l by lia]
 by_cases c:i=l
 ·rw[if_pos c,if_pos c,mP]
 ·rw[if_neg c,if_neg c]
  by_cases d:l<i/\i<=k
  ·rw[if_pos d,if_pos d,mP]
  ·rw[if_neg d,if_neg d,mP]
theorem E4:∀(g:Nat)(p:Array Nat)(k:Nat),Okp f n p->1<=k->k+g=n->Ris f p k->Okp f n (cO (ltF f) (kas_bin g p k))/\Ris f (cO (ltF f) (kas_bin g p k)) n
 |0,p,k,h,h1,h2,h3=>⟨h,by rw[<-h2];exact h3⟩
 |g+1,p,k,h,h1,h2,h3=>by
  obtain⟨l,e,l1,l2,l3⟩:=yJ h (show k<n by lia) h3 k 0 k (by lia) (eT _) (aN _) (λi z=>absurd z (rH _)) (λi a b=>by lia)
  have hs:=h.size
  have B:=MG (p:=p) (k:=k) (l:=l) (by lia) l1
  rw[kas_bin,oE,e]
  refine E4 g _ (k+1) ⟨by rw[bubble_size];exact hs,(bubble_perm ..).trans h.perm,λi j hij hj=>?_⟩ (by lia) (by lia) (λi j hij hj=>?_)
  ·rw[B,B]
   repeat' split
   all_goals first|lia|exact h.inj _ _ (by lia) (by lia)|exact Ne.symm (h.inj _ _ (by lia) (by lia))
  ·rw[B,B]
   repeat' split
   all_goals first|lia|exact l2 _ (by lia)|exact l3 _ (by lia) (by lia)|exact h3 _ _ (by lia) (by lia)
theorem MH(hn:1<=n)(hf:∀i j,i<j->j<n->f i≠f j):Okp f n (cO (ltF f) (kas_sort n))/\Ris f (cO (ltF f) (kas_sort n)) n:=by
 have gd:∀i,i<n->(iT (aI n)).getD i 0=i:=λi hi=>by simp[hi]
 have h:Okp f n (iT (aI n)):=⟨by simp,Array.Perm.refl _,λi j hij hj=>by rw[gd i (by lia),gd j hj];exact hf i j hij hj⟩
 obtain⟨r,e,r1,r2,r3,r4⟩:=MF hn h
 unfold kas_sort
 rw[oE,e]
 by_cases c:r.1<n
 ·rw[if_pos c,show max r.1 1=r.1 by lia]
  exact E4 _ _ _ r3 r1 (by lia) r4
 ·rw[if_neg c]
  have:r.1=n:=by lia
  rw[this]at r4
  exact⟨r3,r4⟩
end
end Tr
namespace K75
open PySem Tr
noncomputable abbrev yK:E:=
 (.cmp .In (.var 0) (.var 1))
noncomputable abbrev yL:S:=
 (.cons (.ret (.bt .all (.acons (.comp 1 [0] (.one 0) yK (.seq (.var 1)) (.con (.bl true))) .anil)))
 .nil)
noncomputable abbrev qE:S:=
 (.cons (.ret (.cmp .Eq (.lset (.var 0)) (.bt .len (.acons (.var 0) .anil))))
 .nil)
noncomputable abbrev yM:S:=
 (.cons (.ret (.and (.chain .LtE .LtE (.con (.int 1)) (.bt .len (.acons (.var 0) .anil)) (.con (.int 8))) (.call 0 (.acons (.glob 0) (.acons (.var 0) .anil)))))
 .nil)
noncomputable abbrev yN:S:=
 (.cons (.ite (.or (.not (.chain .LtE .LtE (.con (.int 1)) (.bt .len (.acons (.var 0) .anil)) (.con (.int 9)))) (.not (.call 0 (.acons (.glob 1) (.acons (.var 0) .anil)))))
 (.cons (.ret (.con (.bl false)))
 .nil)
 .nil)
 (.cons (.ret (.or (.cmp .Eq (.var 0) (.con (.str "0"))) (.cmp .NotEq (.ix (.var 0) (.con (.int 0))) (.con (.str "0")))))
 .nil))
noncomputable abbrev yO:S:=
 (.cons (.ret (.and (.cmp .Eq (.bt .len (.acons (.var 0) .anil)) (.con (.int 1))) (.cmp .In (.var 0) (.glob 0))))
 .nil)
noncomputable abbrev tO:S:=
 (.cons (.ite (.cmp .Eq (.var 0) (.con (.str "-")))
 (.cons (.ret (.con (.bl true)))
 .nil)
 .nil)
 (.cons (.ret (.and (.cmp .NotEq (.var 0) (.con (.str ""))) (.and (.call 0 (.acons (.glob 0) (.acons (.var 0) .anil))) (.call 1 (.acons (.var 0) .anil)))))
 .nil))
noncomputable abbrev kS:S:=
 (.cons (.ite (.cmp .Eq (.ix (.var 3) (.con (.int 0))) (.var 1))
 (.cons (.ret (.var 2))
 .nil)
 .nil)
 .nil)
noncomputable abbrev qF:S:=
 (.cons (.forS (.many [2,3]) (.enum (.var 0)) kS)
 (.cons (.ret (.con .non))
 .nil))
noncomputable abbrev tP:S:=
 (.cons (.ret (.and (.call 2 (.acons (.var 1) .anil)) (.cmp .Is (.call 6 (.acons (.var 0) (.acons (.var 1) .anil))) (.con .non))))
 .nil)
noncomputable abbrev yP:S:=
 (.cons (.ite (.or (.cmp .NotEq (.bt .len (.acons (.var 1) .anil)) (.con (.int 5))) (.not (.call 7 (.acons (.ix (.var 0) (.glob 2)) (.acons (.ix (.var 1) (.con (.int 1))) .anil)))))
 (.cons (.ret (.con .non))
 .nil)
 .nil)
 (.cons (.ite (.or (.not (.call 4 (.acons (.ix (.var 1) (.con (.int 2))) .anil))) (.or (.not (.call 3 (.acons (.ix (.var 1) (.con (.int 3))) .anil))) (.not (.call 3 (.acons (.ix (.var 1) (.con (.int 4))) .anil)))))
 (.cons (.ret (.con .non))
 .nil)
 .nil)
 (.cons (.ret (.tup (.acons (.ix (.var 1) (.con (.int 1))) (.acons (.ix (.var 1) (.con (.int 2))) (.acons (.bt .int (.acons (.ix (.var 1) (.con (.int 3))) .anil)) (.acons (.bt .int (.acons (.ix (.var 1) (.con (.int 4))) .anil)) .anil))))))
 .nil)))
noncomputable abbrev tQ:S:=
 (.cons (.ite (.or (.cmp .NotEq (.bt .len (.acons (.var 1) .anil)) (.con (.int 4))) (.not (.call 7 (.acons (.ix (.var 0) (.glob 3)) (.acons (.ix (.var 1) (.con (.int 1))) .anil)))))
 (.cons (.ret (.con .non))
 .nil)
 .nil)
 (.cons (.ite (.or (.not (.call 5 (.acons (.ix (.var 1) (.con (.int 2))) .anil))) (.not (.call 3 (.acons (.ix (.var 1) (.con (.int 3))) .anil))))
 (.cons (.ret (.con .non))
 .nil)
 .nil)
 (.cons (.ret (.tup (.acons (.ix (.var 1) (.con (.int 1))) (.acons (.ife (.cmp .Eq (.ix (.var 1) (.con (.int 2))) (.con (.str "-"))) (.con (.str "")) (.ix (.var 1) (.con (.int 2)))) (.acons (.bt .int (.acons (.ix (.var 1) (.con (.int 3))) .anil)) .anil)))))
 .nil)))
noncomputable abbrev yQ:E:=
 (.call 6 (.acons (.ix (.var 1) (.glob 2)) (.acons (.var 0) .anil)))
noncomputable abbrev yR:S:=
 (.cons (.ite (.or (.cmp .Lt (.bt .len (.acons (.var 1) .anil)) (.con (.int 4))) (.not (.call 7 (.acons (.ix (.var 0) (.glob 4)) (.acons (.ix (.var 1) (.con (.int 1))) .anil)))))
 (.cons (.ret (.con .non))
 .nil)
 .nil)
 (.cons (.ite (.or (.not (.call 3 (.acons (.ix (.var 1) (.con (.int 2))) .anil))) (.not (.call 3 (.acons (.ix (.var 1) (.con (.int 3))) .anil))))
 (.cons (.ret (.con .non))
 .nil)
 .nil)
 (.cons (.asg (.one 2) (.comp 1 [0] (.one 0) yQ (.seq (.sl (.var 1) (.con (.int 4)) .omit)) (.con (.bl true))))
 (.cons (.ite (.or (.cmp .In (.con .non) (.var 2)) (.not (.call 1 (.acons (.var 2) .anil))))
 (.cons (.ret (.con .non))
 .nil)
 .nil)
 (.cons (.ret (.tup (.acons (.ix (.var 1) (.con (.int 1))) (.acons (.bt .int (.acons (.ix (.var 1) (.con (.int 2))) .anil)) (.acons (.bt .int (.acons (.ix (.var 1) (.con (.int 3))) .anil)) (.acons (.bt .tuple (.acons (.var 2) .anil)) .anil))))))
 .nil)))))
noncomputable abbrev yS:E:=
 (.sl (.var 0) .omit (.con (.int 2)))
noncomputable abbrev yT:S:=
 (.cons (.ite (.or (.cmp .NotEq (.bt .len (.acons (.var 1) .anil)) (.con (.int 4))) (.not (.call 3 (.acons (.ix (.var 1) (.con (.int 3))) .anil))))
 (.cons (.ret (.con .non))
 .nil)
 .nil)
 (.cons (.asg (.one 2) (.call 6 (.acons (.ix (.var 0) (.glob 3)) (.acons (.ix (.var 1) (.con (.int 1))) .anil))))
 (.cons (.asg (.one 3) (.call 6 (.acons (.ix (.var 0) (.glob 2)) (.acons (.ix (.var 1) (.con (.int 2))) .anil))))
 (.cons (.ite (.or (.cmp .Is (.var 2) (.con .non)) (.cmp .Is (.var 3) (.con .non)))
 (.cons (.ret (.con .non))
 .nil)
 .nil)
 (.cons (.ite (.cmp .In (.tup (.acons (.var 2) (.acons (.var 3) .anil))) (.comp 1 [] (.one 0) yS (.seq (.ix (.var 0) (.glob 5))) (.con (.bl true))))
 (.cons (.ret (.con .non))
 .nil)
 .nil)
 (.cons (.ret (.tup (.acons (.var 2) (.acons (.var 3) (.acons (.bt .int (.acons (.ix (.var 1) (.con (.int 3))) .anil)) .anil)))))
 .nil))))))
noncomputable abbrev yU:S:=
 (.cons (.ite (.cmp .NotEq (.bt .len (.acons (.var 1) .anil)) (.con (.int 3)))
 (.cons (.ret (.con .non))
 .nil)
 .nil)
 (.cons (.asg (.one 2) (.call 6 (.acons (.ix (.var 0) (.glob 2)) (.acons (.ix (.var 1) (.con (.int 1))) .anil))))
 (.cons (.asg (.one 3) (.call 6 (.acons (.ix (.var 0) (.glob 3)) (.acons (.ix (.var 1) (.con (.int 2))) .anil))))
 (.cons (.ite (.or (.cmp .Is (.var 2) (.con .non)) (.or (.cmp .Is (.var 3) (.con .non)) (.cmp .In (.tup (.acons (.var 2) (.acons (.var 3) .anil))) (.ix (.var 0) (.glob 6)))))
 (.cons (.ret (.con .non))
 .nil)
 .nil)
 (.cons (.ret (.tup (.acons (.var 2) (.acons (.var 3) .anil))))
 .nil)))))
noncomputable abbrev lX:S:=
 (.cons (.asg (.one 2) (.mth .split (.var 1) (.con (.str " "))))
 (.cons (.ite (.cmp .NotIn (.ix (.var 2) (.con (.int 0))) (.glob 7))
 (.cons (.ret (.con .non))
 .nil)
 .nil)
 (.cons (.asg (.one 3) (.gidx ["part", "player", "scene", "like", "cover"] (.ix (.var 2) (.con (.int 0)))))
 (.cons (.asg (.one 4) (.callT [8,9,10,11,12] (.var 3) (.acons (.var 0) (.acons (.var 2) .anil))))
 (.cons (.ite (.cmp .Is (.var 4) (.con .non))
 (.cons (.ret (.con .non))
 .nil)
 .nil)
 (.cons (.ret (.bin .Add (.bin .Add (.sl (.var 0) .omit (.var 3)) (.tup (.acons (.bin .Add (.ix (.var 0) (.var 3)) (.tup (.acons (.var 4) .anil))) .anil))) (.sl (.var 0) (.bin .Add (.var 3) (.con (.int 1))) .omit)))
 .nil))))))
noncomputable abbrev tU:S:=
 (.cons (.asg (.one 1) (.call 13 (.acons (.var 1) (.acons (.var 3) .anil))))
 (.cons (.ite (.cmp .Is (.var 1) (.con .non))
 (.cons (.never)
 .nil)
 .nil)
 .nil))
noncomputable abbrev yV:S:=
 (.cons (.asg (.one 1) (.tup (.acons (.tup .anil) (.acons (.tup .anil) (.acons (.tup .anil) (.acons (.tup .anil) (.acons (.tup .anil) .anil)))))))
 (.cons (.forS (.many [2,3]) (.enum (.var 0)) tU)
 (.cons (.ret (.var 1))
 .nil)))
noncomputable abbrev yW:S:=
 (.cons (.ret (.mth .join (.con (.str " ")) (.lst (.acons (.con (.str "part")) (.acons (.ix (.var 0) (.con (.int 0))) (.acons (.ix (.var 0) (.con (.int 1))) (.acons (.bt .str (.acons (.ix (.var 0) (.con (.int 2))) .anil)) (.acons (.bt .str (.acons (.ix (.var 0) (.con (.int 3))) .anil)) .anil))))))))
 .nil)
noncomputable abbrev tV:S:=
 (.cons (.ret (.mth .join (.con (.str " ")) (.lst (.acons (.con (.str "player")) (.acons (.ix (.var 0) (.con (.int 0))) (.acons (.or (.ix (.var 0) (.con (.int 1))) (.con (.str "-"))) (.acons (.bt .str (.acons (.ix (.var 0) (.con (.int 2))) .anil)) .anil)))))))
 .nil)
noncomputable abbrev yX:E:=
 (.ix (.ix (.ix (.var 1) (.glob 2)) (.var 0)) (.con (.int 0)))
noncomputable abbrev yY:S:=
 (.cons (.asg (.one 2) (.comp 1 [0] (.one 0) yX (.seq (.ix (.var 1) (.con (.int 3)))) (.con (.bl true))))
 (.cons (.ret (.mth .join (.con (.str " ")) (.bin .Add (.lst (.acons (.con (.str "scene")) (.acons (.ix (.var 1) (.con (.int 0))) (.acons (.bt .str (.acons (.ix (.var 1) (.con (.int 1))) .anil)) (.acons (.bt .str (.acons (.ix (.var 1) (.con (.int 2))) .anil)) .anil))))) (.var 2))))
 .nil))
noncomputable abbrev yZ:S:=
 (.cons (.ret (.mth .join (.con (.str " ")) (.lst (.acons (.con (.str "like")) (.acons (.ix (.ix (.ix (.var 0) (.glob 3)) (.ix (.var 1) (.con (.int 0)))) (.con (.int 0))) (.acons (.ix (.ix (.ix (.var 0) (.glob 2)) (.ix (.var 1) (.con (.int 1)))) (.con (.int 0))) (.acons (.bt .str (.acons (.ix (.var 1) (.con (.int 2))) .anil)) .anil)))))))
 .nil)
noncomputable abbrev zA:S:=
 (.cons (.ret (.mth .join (.con (.str " ")) (.lst (.acons (.con (.str "cover")) (.acons (.ix (.ix (.ix (.var 0) (.glob 2)) (.ix (.var 1) (.con (.int 0)))) (.con (.int 0))) (.acons (.ix (.ix (.ix (.var 0) (.glob 3)) (.ix (.var 1) (.con (.int 1)))) (.con (.int 0))) .anil))))))
 .nil)
noncomputable abbrev zB:E:=
 (.call 15 (.acons (.var 0) .anil))
noncomputable abbrev zD:E:=
 (.call 16 (.acons (.var 0) .anil))
noncomputable abbrev zE:E:=
 (.call 17 (.acons (.var 1) (.acons (.var 0) .anil)))
noncomputable abbrev zF:E:=
 (.call 18 (.acons (.var 1) (.acons (.var 0) .anil)))
noncomputable abbrev zG:E:=
 (.call 19 (.acons (.var 1) (.acons (.var 0) .anil)))
noncomputable abbrev zH:S:=
 (.cons (.asgO 1 (.comp 1 [] (.one 0) zB (.seq (.ix (.var 0) (.glob 2))) (.con (.bl true))))
 (.cons (.ext 1 (.comp 1 [] (.one 0) zD (.seq (.ix (.var 0) (.glob 3))) (.con (.bl true))))
 (.cons (.ext 1 (.comp 1 [0] (.one 0) zE (.seq (.ix (.var 0) (.glob 4))) (.con (.bl true))))
 (.cons (.ext 1 (.comp 1 [0] (.one 0) zF (.seq (.ix (.var 0) (.glob 5))) (.con (.bl true))))
 (.cons (.ext 1 (.comp 1 [0] (.one 0) zG (.seq (.ix (.var 0) (.glob 6))) (.con (.bl true))))
 (.cons (.retO 1)
 .nil))))))
noncomputable abbrev E5:E:=
 (.bin .Add (.ix (.var 0) (.con (.int 1))) (.ix (.var 0) (.con (.int 2))))
noncomputable abbrev E6:S:=
 (.cons (.asg (.one 3) (.ix (.var 0) (.glob 4)))
 (.cons (.ret (.bin .Add (.ix (.ix (.var 3) (.var 1)) (.con (.int 2))) (.bt .sum (.acons (.comp 1 [] (.one 0) E5 (.seq (.sl (.var 3) (.bin .Add (.var 1) (.con (.int 1))) (.var 2))) (.con (.bl true))) .anil))))
 .nil))
noncomputable abbrev E7:S:=
 (.cons (.ret (.bin .Add (.ix (.ix (.ix (.var 0) (.glob 2)) (.var 1)) (.con (.int 2))) (.ix (.ix (.ix (.var 0) (.glob 2)) (.var 2)) (.con (.int 3)))))
 .nil)
noncomputable abbrev E8:S:=
 (.cons (.ite (.cmp .In (.var 3) (.ix (.ix (.ix (.var 0) (.glob 4)) (.var 5)) (.con (.int 3))))
 (.cons (.asg (.one 6) (.call 21 (.acons (.var 0) (.acons (.var 1) (.acons (.var 5) .anil)))))
 (.cons (.ite (.cmp .Lt (.var 6) (.var 4))
 (.cons (.ret (.tup (.acons (.con (.str "change")) (.acons (.var 1) (.acons (.var 5) (.acons (.var 6) (.acons (.var 4) .anil)))))))
 .nil)
 .nil)
 .nil))
 .nil)
 .nil)
noncomputable abbrev E9:S:=
 (.cons (.asg (.one 4) (.call 22 (.acons (.var 0) (.acons (.var 2) (.acons (.var 3) .anil)))))
 (.cons (.forS (.one 5) (.rng2 (.bin .Add (.var 1) (.con (.int 1))) (.bt .len (.acons (.ix (.var 0) (.glob 4)) .anil))) E8)
 (.cons (.ret (.con .non))
 .nil)))
noncomputable abbrev E_:S:=
 (.cons (.asg (.one 4) (.ix (.ix (.ix (.var 0) (.glob 4)) (.var 1)) (.con (.int 3))))
 (.cons (.ite (.and (.cmp .In (.var 2) (.var 4)) (.cmp .In (.var 3) (.var 4)))
 (.cons (.ret (.tup (.acons (.con (.str "scene")) (.acons (.var 1) .anil))))
 .nil)
 .nil)
 (.cons (.ite (.cmp .In (.var 2) (.var 4))
 (.cons (.ret (.call 23 (.acons (.var 0) (.acons (.var 1) (.acons (.var 2) (.acons (.var 3) .anil))))))
 .nil)
 .nil)
 (.cons (.ite (.cmp .In (.var 3) (.var 4))
 (.cons (.ret (.call 23 (.acons (.var 0) (.acons (.var 1) (.acons (.var 3) (.acons (.var 2) .anil))))))
 .nil)
 .nil)
 (.cons (.ret (.con .non))
 .nil)))))
noncomputable abbrev Ea:S:=
 (.cons (.asg (.one 4) (.call 24 (.acons (.var 0) (.acons (.var 3) (.acons (.var 1) (.acons (.var 2) .anil))))))
 (.cons (.ite (.cmp .IsNot (.var 4) (.con .non))
 (.cons (.ret (.var 4))
 .nil)
 .nil)
 .nil))
noncomputable abbrev Eb:S:=
 (.cons (.forS (.one 3) (.rng (.bt .len (.acons (.ix (.var 0) (.glob 4)) .anil))) Ea)
 (.cons (.ret (.con .non))
 .nil))
noncomputable abbrev Ec:E:=
 (.cmp .IsNot (.call 25 (.acons (.var 2) (.acons (.var 1) (.acons (.var 0) .anil)))) (.con .non))
noncomputable abbrev Ed:E:=
 (.tup (.acons (.var 1) (.acons (.var 0) .anil)))
noncomputable abbrev Ee:S:=
 (.cons (.ext 1 (.comp 1 [3,0] (.one 0) Ed (.rng2 (.bin .Add (.var 3) (.con (.int 1))) (.var 2)) Ec))
 .nil)
noncomputable abbrev Ef:S:=
 (.cons (.asgO 1 (.lst .anil))
 (.cons (.asg (.one 2) (.bt .len (.acons (.ix (.var 0) (.glob 2)) .anil)))
 (.cons (.forS (.one 3) (.rng (.var 2)) Ee)
 (.cons (.retO 1)
 .nil))))
noncomputable abbrev Eg:S:=
 (.cons (.ite (.cmp .Is (.var 2) (.con .non))
 (.cons (.ret (.tup (.acons (.con (.str "nobody")) (.acons (.var 1) .anil))))
 .nil)
 .nil)
 (.cons (.ite (.cmp .NotIn (.ix (.ix (.ix (.var 0) (.glob 2)) (.var 1)) (.con (.int 1))) (.ix (.ix (.ix (.var 0) (.glob 3)) (.var 2)) (.con (.int 1))))
 (.cons (.ret (.tup (.acons (.con (.str "voice")) (.acons (.var 1) (.acons (.var 2) .anil)))))
 .nil)
 .nil)
 (.cons (.ret (.con .non))
 .nil)))
noncomputable abbrev Eh:S:=
 (.cons (.ret (.and (.cmp .IsNot (.ix (.var 0) (.var 1)) (.con .non)) (.cmp .Eq (.ix (.var 0) (.var 1)) (.ix (.var 0) (.var 2)))))
 .nil)
noncomputable abbrev Ei:E:=
 (.call 27 (.acons (.var 2) (.acons (.var 0) (.acons (.var 1) .anil))))
noncomputable abbrev Ej:E:=
 (.cmp .IsNot (.var 0) (.con .non))
noncomputable abbrev Ek:E:=
 (.var 0)
noncomputable abbrev El:E:=
 (.call 28 (.acons (.var 2) (.acons (.var 0) (.acons (.var 1) .anil))))
noncomputable abbrev Em:E:=
 (.tup (.acons (.con (.str "clash")) (.acons (.var 0) (.acons (.var 1) .anil))))
noncomputable abbrev En:S:=
 (.cons (.asgO 2 (.comp 2 [0] (.many [0,1]) Ei (.enum (.var 1)) (.con (.bl true))))
 (.cons (.asgO 2 (.comp 1 [] (.one 0) Ek (.seq (.rd 2)) Ej))
 (.cons (.ext 2 (.comp 2 [1] (.many [0,1]) Em (.seq (.call 26 (.acons (.var 0) .anil))) El))
 (.cons (.retO 2)
 .nil))))
noncomputable abbrev zI:S:=
 (.cons (.ret (.chain .LtE .LtE (.con (.int 0)) (.var 0) (.glob 8)))
 .nil)
noncomputable abbrev zJ:S:=
 (.cons (.ret (.chain .LtE .Lt (.con (.int 0)) (.var 1) (.bt .len (.acons (.ix (.var 0) (.glob 2)) .anil))))
 .nil)
noncomputable abbrev zK:S:=
 (.cons (.ret (.chain .LtE .Lt (.con (.int 0)) (.var 1) (.bt .len (.acons (.ix (.var 0) (.glob 4)) .anil))))
 .nil)
noncomputable abbrev zM:E:=
 (.call 31 (.acons (.var 1) (.acons (.var 0) .anil)))
noncomputable abbrev zN:S:=
 (.cons (.asg (.many [2,3,4,5]) (.var 1))
 (.cons (.ite (.or (.not (.call 7 (.acons (.ix (.var 0) (.glob 4)) (.acons (.var 2) .anil)))) (.or (.not (.call 30 (.acons (.var 3) .anil))) (.not (.call 30 (.acons (.var 4) .anil)))))
 (.cons (.ret (.con (.bl false)))
 .nil)
 .nil)
 (.cons (.ret (.and (.call 1 (.acons (.var 5) .anil)) (.bt .all (.acons (.comp 1 [0] (.one 0) zM (.seq (.var 5)) (.con (.bl true))) .anil))))
 .nil)))
noncomputable abbrev Eo:S:=
 (.cons (.ite (.or (.cmp .Eq (.var 1) (.con (.str "length"))) (.cmp .Eq (.var 1) (.con (.str "pause"))))
 (.cons (.ret (.call 30 (.acons (.var 3) .anil)))
 .nil)
 .nil)
 (.cons (.ite (.cmp .Eq (.var 1) (.con (.str "enter")))
 (.cons (.ret (.and (.call 31 (.acons (.var 0) (.acons (.var 3) .anil))) (.cmp .NotIn (.var 3) (.ix (.var 2) (.con (.int 3))))))
 .nil)
 .nil)
 (.cons (.ret (.and (.cmp .Eq (.var 1) (.con (.str "leave"))) (.cmp .In (.var 3) (.ix (.var 2) (.con (.int 3))))))
 .nil)))
noncomputable abbrev qG:S:=
 (.cons (.asg (.one 2) (.ix (.var 1) (.con (.int 0))))
 (.cons (.asg (.one 3) (.ix (.var 1) (.con (.int 1))))
 (.cons (.ite (.cmp .Eq (.var 2) (.con (.str "add")))
 (.cons (.ret (.and (.chain .LtE .LtE (.con (.int 0)) (.var 3) (.bt .len (.acons (.ix (.var 0) (.glob 4)) .anil))) (.call 33 (.acons (.var 0) (.acons (.ix (.var 1) (.con (.int 2))) .anil)))))
 .nil)
 .nil)
 (.cons (.ite (.not (.call 32 (.acons (.var 0) (.acons (.var 3) .anil))))
 (.cons (.ret (.con (.bl false)))
 .nil)
 .nil)
 (.cons (.ite (.cmp .Eq (.var 2) (.con (.str "move")))
 (.cons (.ret (.call 32 (.acons (.var 0) (.acons (.ix (.var 1) (.con (.int 2))) .anil))))
 .nil)
 .nil)
 (.cons (.ret (.or (.cmp .Eq (.var 2) (.con (.str "cut"))) (.call 34 (.acons (.var 0) (.acons (.var 2) (.acons (.ix (.ix (.var 0) (.glob 4)) (.var 3)) (.acons (.ix (.var 1) (.con (.int 2))) .anil)))))))
 .nil))))))
noncomputable abbrev zO:S:=
 (.cons (.ite (.not (.call 35 (.acons (.var 0) (.acons (.var 1) .anil))))
 (.cons (.never)
 .nil)
 .nil)
 .nil)
noncomputable abbrev zP:S:=
 (.cons (.ret (.bin .Add (.sl (.var 0) .omit (.var 1)) (.sl (.var 0) (.bin .Add (.var 1) (.con (.int 1))) .omit)))
 .nil)
noncomputable abbrev zQ:S:=
 (.cons (.ret (.bin .Add (.bin .Add (.sl (.var 0) .omit (.var 1)) (.tup (.acons (.var 2) .anil))) (.sl (.var 0) (.var 1) .omit)))
 .nil)
noncomputable abbrev tW:E:=
 (.cmp .NotEq (.var 0) (.var 1))
noncomputable abbrev tX:E:=
 (.var 0)
noncomputable abbrev oF:S:=
 (.cons (.asg (.many [3,4,5,6]) (.var 1))
 (.cons (.ite (.cmp .Eq (.var 0) (.con (.str "length")))
 (.cons (.ret (.tup (.acons (.var 3) (.acons (.var 2) (.acons (.var 5) (.acons (.var 6) .anil))))))
 .nil)
 .nil)
 (.cons (.ite (.cmp .Eq (.var 0) (.con (.str "pause")))
 (.cons (.ret (.tup (.acons (.var 3) (.acons (.var 4) (.acons (.var 2) (.acons (.var 6) .anil))))))
 .nil)
 .nil)
 (.cons (.ite (.cmp .Eq (.var 0) (.con (.str "enter")))
 (.cons (.ret (.tup (.acons (.var 3) (.acons (.var 4) (.acons (.var 5) (.acons (.bin .Add (.var 6) (.tup (.acons (.var 2) .anil))) .anil))))))
 .nil)
 .nil)
 (.cons (.ret (.tup (.acons (.var 3) (.acons (.var 4) (.acons (.var 5) (.acons (.bt .tuple (.acons (.comp 1 [2] (.one 0) tX (.seq (.var 6)) tW) .anil)) .anil))))))
 .nil)))))
noncomputable abbrev jG:S:=
 (.cons (.asg (.one 2) (.ix (.var 1) (.con (.int 0))))
 (.cons (.asg (.one 3) (.ix (.var 1) (.con (.int 1))))
 (.cons (.ite (.cmp .Eq (.var 2) (.con (.str "add")))
 (.cons (.ret (.call 38 (.acons (.var 0) (.acons (.var 3) (.acons (.ix (.var 1) (.con (.int 2))) .anil)))))
 .nil)
 .nil)
 (.cons (.asg (.one 4) (.call 37 (.acons (.var 0) (.acons (.var 3) .anil))))
 (.cons (.ite (.cmp .Eq (.var 2) (.con (.str "cut")))
 (.cons (.ret (.var 4))
 .nil)
 .nil)
 (.cons (.ite (.cmp .Eq (.var 2) (.con (.str "move")))
 (.cons (.ret (.call 38 (.acons (.var 4) (.acons (.ix (.var 1) (.con (.int 2))) (.acons (.ix (.var 0) (.var 3)) .anil)))))
 .nil)
 .nil)
 (.cons (.ret (.call 38 (.acons (.var 4) (.acons (.var 3) (.acons (.call 39 (.acons (.var 2) (.acons (.ix (.var 0) (.var 3)) (.acons (.ix (.var 1) (.con (.int 2))) .anil)))) .anil)))))
 .nil)))))))
noncomputable abbrev zR:S:=
 (.cons (.exp (.call 36 (.acons (.var 0) (.acons (.var 1) .anil))))
 (.cons (.ret (.bin .Add (.bin .Add (.sl (.var 0) .omit (.glob 4)) (.tup (.acons (.call 40 (.acons (.ix (.var 0) (.glob 4)) (.acons (.var 1) .anil))) .anil))) (.sl (.var 0) (.bin .Add (.glob 4) (.con (.int 1))) .omit)))
 .nil))
noncomputable abbrev Ep:S:=
 (.cons (.exp (.call 36 (.acons (.var 0) (.acons (.var 1) .anil))))
 (.cons (.asg (.one 2) (.ix (.var 1) (.con (.int 0))))
 (.cons (.asg (.one 3) (.ix (.var 1) (.con (.int 1))))
 (.cons (.ite (.cmp .Eq (.var 2) (.con (.str "move")))
 (.cons (.ret (.lst (.acons (.tup (.acons (.con (.str "move")) (.acons (.ix (.var 1) (.con (.int 2))) (.acons (.var 3) .anil)))) .anil)))
 .nil)
 .nil)
 (.cons (.ite (.cmp .Eq (.var 2) (.con (.str "add")))
 (.cons (.ret (.lst (.acons (.tup (.acons (.con (.str "cut")) (.acons (.var 3) .anil))) .anil)))
 .nil)
 .nil)
 (.cons (.asg (.one 4) (.tup (.acons (.con (.str "add")) (.acons (.var 3) (.acons (.ix (.ix (.var 0) (.glob 4)) (.var 3)) .anil)))))
 (.cons (.ite (.cmp .Eq (.var 2) (.con (.str "cut")))
 (.cons (.ret (.lst (.acons (.var 4) .anil)))
 .nil)
 .nil)
 (.cons (.ret (.lst (.acons (.tup (.acons (.con (.str "cut")) (.acons (.var 3) .anil))) (.acons (.var 4) .anil))))
 .nil))))))))
noncomputable abbrev Er:E:=
 (.cmp .NotIn (.var 0) (.var 1))
noncomputable abbrev Es:E:=
 (.var 0)
noncomputable abbrev Et:E:=
 (.cmp .NotIn (.var 0) (.var 1))
noncomputable abbrev Eu:E:=
 (.var 0)
noncomputable abbrev Ew:S:=
 (.cons (.asg (.one 2) (.call 26 (.acons (.var 0) .anil)))
 (.cons (.asg (.one 3) (.call 26 (.acons (.var 1) .anil)))
 (.cons (.ret (.tup (.acons (.comp 1 [2] (.one 0) Eu (.seq (.var 3)) Et) (.acons (.comp 1 [3] (.one 0) Es (.seq (.var 2)) Er) .anil))))
 .nil)))
noncomputable abbrev Ex:E:=
 (.call 28 (.acons (.var 2) (.acons (.var 0) (.acons (.var 1) .anil))))
noncomputable abbrev Ey:S:=
 (.cons (.ret (.bt .any (.acons (.comp 2 [1] (.many [0,1]) Ex (.seq (.var 0)) (.con (.bl true))) .anil)))
 .nil)
noncomputable abbrev qH:E:=
 (.call 44 (.acons (.ix (.var 2) (.con (.int 0))) (.acons (.var 1) .anil)))
noncomputable abbrev qI:E:=
 (.var 0)
noncomputable abbrev Ez:S:=
 (.cons (.ret (.comp 2 [0] (.many [0,1]) qI (.enum (.var 1)) qH))
 .nil)
noncomputable abbrev tY:S:=
 (.cons (.ite (.cmp .Lt (.var 1) (.bt .len (.acons (.var 0) .anil)))
 (.cons (.ret (.ix (.var 0) (.var 1)))
 .nil)
 .nil)
 (.cons (.ret (.con (.int 0)))
 .nil))
noncomputable abbrev zT:S:=
 (.cons (.ret (.bin .Mod (.bin .Add (.bin .Mult (.bin .Mod (.var 0) (.con (.int 1000003))) (.bin .Add (.con (.int 48271)) (.bin .Mult (.bin .Mult (.con (.int 15838)) (.var 1)) (.var 1)))) (.bin .Mult (.con (.int 69621)) (.var 1))) (.con (.int 2147483647))))
 .nil)
noncomputable abbrev zU:S:=
 (.cons (.asg (.one 2) (.ix (.con (.str "abcdefghijklmnopqrstuvwxyz")) (.bin .Mod (.bin .Add (.var 0) (.bin .Mult (.var 1) (.ix (.lst (.acons (.con (.int 1)) (.acons (.con (.int 3)) (.acons (.con (.int 5)) (.acons (.con (.int 7)) .anil))))) (.bin .Mod (.bin .FloorDiv (.var 0) (.con (.int 26))) (.con (.int 4)))))) (.con (.int 26)))))
 (.cons (.asg (.one 3) (.ix (.lst (.acons (.con (.str "")) (.acons (.con (.str "a")) (.acons (.con (.str "ba")) (.acons (.con (.str "zzzzzzz")) .anil))))) (.bin .Mod (.bin .FloorDiv (.var 0) (.con (.int 104))) (.con (.int 4)))))
 (.cons (.asg (.one 4) (.bin .Mod (.bin .FloorDiv (.var 0) (.con (.int 416))) (.bin .Add (.bt .len (.acons (.var 3) .anil)) (.con (.int 1)))))
 (.cons (.ret (.bin .Add (.bin .Add (.sl (.var 3) .omit (.var 4)) (.var 2)) (.sl (.var 3) (.var 4) .omit)))
 .nil))))
noncomputable abbrev zV:S:=
 (.cons (.ret (.bin .Mod (.bin .FloorDiv (.var 0) (.con (.int 6))) (.ix (.lst (.acons (.con (.int 7)) (.acons (.con (.int 7)) (.acons (.con (.int 40)) (.acons (.bin .Pow (.con (.int 10)) (.con (.int 9))) .anil))))) (.bin .Add (.bin .FloorDiv (.bin .Mod (.var 0) (.con (.int 6))) (.con (.int 2))) (.bin .FloorDiv (.bin .Mod (.var 0) (.con (.int 6))) (.con (.int 5)))))))
 .nil)
noncomputable abbrev zW:S:=
 (.cons (.asg (.one 3) (.call 47 (.acons (.var 0) (.acons (.var 1) .anil))))
 (.cons (.asg (.one 4) (.ix (.lst (.acons (.con (.str "a")) (.acons (.con (.str "b")) (.acons (.con (.str "a")) (.acons (.sl (.call 48 (.acons (.bin .Mult (.con (.int 7)) (.var 2)) (.acons (.var 3) .anil))) .omit (.con (.int 1))) .anil))))) (.bin .Mod (.var 3) (.con (.int 4)))))
 (.cons (.ret (.tup (.acons (.call 48 (.acons (.var 2) (.acons (.var 1) .anil))) (.acons (.var 4) (.acons (.call 49 (.acons (.bin .FloorDiv (.var 3) (.con (.int 4))) .anil)) (.acons (.call 49 (.acons (.call 47 (.acons (.var 0) (.acons (.bin .Add (.var 1) (.con (.int 20))) .anil))) .anil)) .anil))))))
 .nil)))
noncomputable abbrev zX:S:=
 (.cons (.asg (.one 3) (.call 47 (.acons (.var 0) (.acons (.var 1) .anil))))
 (.cons (.asg (.one 4) (.ix (.lst (.acons (.con (.str "ab")) (.acons (.con (.str "a")) (.acons (.con (.str "bca")) (.acons (.con (.str "")) (.acons (.con (.str "abcdefghijklmnopqrstuvwxyz")) (.acons (.con (.str "zb")) .anil))))))) (.bin .Mod (.var 3) (.con (.int 6)))))
 (.cons (.ret (.tup (.acons (.call 48 (.acons (.var 2) (.acons (.var 1) .anil))) (.acons (.var 4) (.acons (.call 49 (.acons (.bin .FloorDiv (.var 3) (.con (.int 6))) .anil)) .anil)))))
 .nil)))
noncomputable abbrev qJ:E:=
 (.cmp .Eq (.bin .Mod (.bin .FloorDiv (.var 1) (.ix (.lst (.acons (.con (.int 1)) (.acons (.con (.int 3)) (.acons (.con (.int 9)) (.acons (.con (.int 27)) (.acons (.con (.int 81)) (.acons (.con (.int 243)) (.acons (.con (.int 729)) (.acons (.con (.int 2187)) .anil))))))))) (.var 0))) (.con (.int 3))) (.con (.int 0)))
noncomputable abbrev qK:E:=
 (.var 0)
noncomputable abbrev zY:S:=
 (.cons (.asg (.one 4) (.call 47 (.acons (.var 0) (.acons (.bin .Add (.var 1) (.con (.int 40))) .anil))))
 (.cons (.asg (.one 5) (.comp 1 [4] (.one 0) qK (.rng (.var 3)) qJ))
 (.cons (.asg (.one 6) (.bin .Mod (.var 0) (.bin .Add (.bt .len (.acons (.var 5) .anil)) (.con (.int 1)))))
 (.cons (.asg (.one 4) (.call 47 (.acons (.var 0) (.acons (.var 1) .anil))))
 (.cons (.asg (.one 7) (.call 49 (.acons (.call 47 (.acons (.var 0) (.acons (.bin .Add (.var 1) (.con (.int 20))) .anil))) .anil)))
 (.cons (.ret (.tup (.acons (.call 48 (.acons (.var 2) (.acons (.var 1) .anil))) (.acons (.call 49 (.acons (.var 4) .anil)) (.acons (.var 7) (.acons (.bt .tuple (.acons (.bin .Add (.sl (.var 5) (.var 6) .omit) (.sl (.var 5) .omit (.var 6))) .anil)) .anil))))))
 .nil))))))
noncomputable abbrev oG:S:=
 (.cons (.asg (.one 6) (.call 47 (.acons (.var 0) (.acons (.var 5) .anil))))
 (.cons (.asg (.one 7) (.tup (.acons (.bin .FloorDiv (.var 5) (.var 2)) (.acons (.bin .Mod (.var 5) (.var 2)) .anil))))
 (.cons (.ite (.cmp .Eq (.bin .Mod (.bin .FloorDiv (.var 6) (.con (.int 64))) (.var 3)) (.con (.int 0)))
 (.cons (.app 4 (.var 7))
 .nil)
 .nil)
 .nil)))
noncomputable abbrev zZ:S:=
 (.cons (.asgO 4 (.lst .anil))
 (.cons (.forS (.one 5) (.rng (.bin .Mult (.var 1) (.var 2))) oG)
 (.cons (.asg (.one 8) (.bin .Mod (.var 0) (.bin .Add (.bt .len (.acons (.rd 4) .anil)) (.con (.int 1)))))
 (.cons (.ret (.bin .Add (.sl (.rd 4) (.var 8) .omit) (.sl (.rd 4) .omit (.var 8))))
 .nil))))
noncomputable abbrev oH:E:=
 (.call 46 (.acons (.var 1) (.acons (.bin .Add (.var 2) (.var 0)) .anil)))
noncomputable abbrev AA:E:=
 (.call 50 (.acons (.ix (.var 1) (.con (.int 2))) (.acons (.var 0) (.acons (.ix (.var 1) (.con (.int 0))) .anil))))
noncomputable abbrev AB:E:=
 (.call 51 (.acons (.ix (.var 1) (.con (.int 3))) (.acons (.var 0) (.acons (.ix (.var 1) (.con (.int 4))) .anil))))
noncomputable abbrev qL:S:=
 (.cons (.app 6 (.call 52 (.acons (.var 8) (.acons (.var 7) (.acons (.ix (.var 2) (.con (.int 5))) (.acons (.var 3) .anil))))))
 .nil)
noncomputable abbrev qM:S:=
 (.cons (.app 9 (.tup (.acons (.var 10) (.acons (.var 11) (.acons (.bin .Mod (.call 47 (.acons (.ix (.var 2) (.con (.int 6))) (.acons (.bin .Add (.var 11) (.bin .Mult (.con (.int 9)) (.var 10))) .anil))) (.bin .Pow (.con (.int 10)) (.con (.int 9)))) .anil)))))
 .nil)
noncomputable abbrev AC:S:=
 (.cons (.asg (.one 2) (.comp 1 [0,1] (.one 0) oH (.rng (.con (.int 8))) (.con (.bl true))))
 (.cons (.asg (.one 3) (.bin .Add (.bin .Mod (.ix (.var 2) (.con (.int 1))) (.con (.int 7))) (.bin .Mult (.con (.int 2)) (.bt .int (.acons (.and (.cmp .Eq (.bin .Mod (.bin .FloorDiv (.ix (.var 2) (.con (.int 1))) (.con (.int 7))) (.con (.int 8))) (.con (.int 5))) (.cmp .Eq (.bin .Mod (.ix (.var 2) (.con (.int 1))) (.con (.int 7))) (.con (.int 6)))) .anil)))))
 (.cons (.asg (.one 4) (.bt .tuple (.acons (.comp 1 [2] (.one 0) AA (.rng (.var 3)) (.con (.bl true))) .anil)))
 (.cons (.asg (.one 5) (.bt .tuple (.acons (.comp 1 [2] (.one 0) AB (.rng (.bin .Mod (.bin .FloorDiv (.ix (.var 2) (.con (.int 1))) (.con (.int 56))) (.con (.int 7)))) (.con (.bl true))) .anil)))
 (.cons (.asgO 6 (.lst .anil))
 (.cons (.forS (.many [7,8]) (.enum (.sl (.var 0) (.bin .Add (.var 1) (.con (.int 8))) (.bin .Add (.var 1) (.con (.int 17))))) qL)
 (.cons (.asgO 9 (.lst .anil))
 (.cons (.forS (.many [10,11]) (.seq (.call 53 (.acons (.ix (.var 2) (.con (.int 6))) (.acons (.bt .len (.acons (.var 5) .anil)) (.acons (.var 3) (.acons (.con (.int 3)) .anil)))))) qM)
 (.cons (.asg (.one 12) (.bt .tuple (.acons (.call 53 (.acons (.ix (.var 2) (.con (.int 7))) (.acons (.var 3) (.acons (.bt .len (.acons (.var 5) .anil)) (.acons (.con (.int 2)) .anil))))) .anil)))
 (.cons (.ret (.tup (.acons (.var 4) (.acons (.var 5) (.acons (.bt .tuple (.acons (.rd 6) .anil)) (.acons (.bt .tuple (.acons (.rd 9) .anil)) (.acons (.var 12) .anil)))))))
 .nil))))))))))
noncomputable abbrev FA:E:=
 (.cmp .In (.ix (.ix (.ix (.var 2) (.con (.int 0))) (.var 1)) (.con (.int 1))) (.ix (.ix (.ix (.var 2) (.con (.int 1))) (.var 0)) (.con (.int 1))))
noncomputable abbrev FB:E:=
 (.var 0)
noncomputable abbrev qN:S:=
 (.cons (.asg (.one 4) (.call 47 (.acons (.var 1) (.acons (.var 3) .anil))))
 (.cons (.asg (.one 5) (.comp 1 [3,0] (.one 0) FB (.rng (.bt .len (.acons (.ix (.var 0) (.con (.int 1))) .anil))) FA))
 (.cons (.ite (.or (.cmp .Eq (.bin .Mod (.var 4) (.con (.int 9))) (.con (.int 4))) (.cmp .Eq (.ix (.var 0) (.con (.int 1))) (.tup .anil)))
 (.cons (.app 2 (.con .non))
 .nil)
 (.cons (.ite (.or (.cmp .Eq (.bin .Mod (.var 4) (.con (.int 9))) (.con (.int 5))) (.cmp .Eq (.var 5) (.lst .anil)))
 (.cons (.app 2 (.bin .Mod (.bin .FloorDiv (.var 4) (.con (.int 9))) (.bt .len (.acons (.ix (.var 0) (.con (.int 1))) .anil))))
 .nil)
 (.cons (.app 2 (.ix (.var 5) (.bin .Mod (.bin .FloorDiv (.var 4) (.con (.int 9))) (.bt .len (.acons (.var 5) .anil)))))
 .nil))
 .nil))
 .nil)))
noncomputable abbrev AD:S:=
 (.cons (.asgO 2 (.lst .anil))
 (.cons (.forS (.one 3) (.rng (.bt .len (.acons (.ix (.var 0) (.con (.int 0))) .anil))) qN)
 (.cons (.retO 2)
 .nil)))
noncomputable abbrev AF:E:=
 (.tup (.acons (.var 0) (.acons (.con (.str "a")) (.acons (.con (.int 0)) (.acons (.con (.int 0)) .anil)))))
noncomputable abbrev AG:E:=
 (.tup (.acons (.var 0) (.acons (.con (.str "ba")) (.acons (.var 2) .anil))))
noncomputable abbrev AH:E:=
 (.bin .Mod (.call 47 (.acons (.var 1) (.acons (.var 0) .anil))) (.bt .len (.acons (.var 2) .anil)))
noncomputable abbrev AI:E:=
 (.ix (.var 1) (.var 0))
noncomputable abbrev oI:S:=
 (.cons (.ite (.cmp .NotIn (.ix (.var 4) (.var 11)) (.comp 1 [4] (.one 0) AI (.seq (.rd 10)) (.con (.bl true))))
 (.cons (.app 10 (.var 11))
 .nil)
 .nil)
 .nil)
noncomputable abbrev tZ:S:=
 (.cons (.asgO 10 (.lst .anil))
 (.cons (.forS (.one 11) (.seq (.var 9)) oI)
 (.cons (.app 5 (.tup (.acons (.var 6) (.acons (.var 7) (.acons (.var 8) (.acons (.bt .tuple (.acons (.rd 10) .anil)) .anil))))))
 .nil)))
noncomputable abbrev AJ:S:=
 (.cons (.asg (.one 2) (.bt .tuple (.acons (.comp 4 [] (.many [0,1,2,3]) AF (.seq (.ix (.var 0) (.con (.int 0)))) (.con (.bl true))) .anil)))
 (.cons (.asg (.one 3) (.bt .tuple (.acons (.comp 3 [] (.many [0,1,2]) AG (.seq (.ix (.var 0) (.con (.int 1)))) (.con (.bl true))) .anil)))
 (.cons (.asg (.one 4) (.comp 1 [1,3] (.one 0) AH (.rng (.bt .len (.acons (.var 2) .anil))) (.con (.bl true))))
 (.cons (.asgO 5 (.lst .anil))
 (.cons (.forS (.many [6,7,8,9]) (.seq (.sl (.ix (.var 0) (.con (.int 2))) .omit (.con (.int 5)))) tZ)
 (.cons (.ret (.tup (.acons (.tup (.acons (.var 2) (.acons (.var 3) (.acons (.bt .tuple (.acons (.rd 5) .anil)) (.acons (.ix (.var 0) (.con (.int 3))) (.acons (.ix (.var 0) (.con (.int 4))) .anil)))))) (.acons (.var 4) .anil))))
 .nil))))))
noncomputable abbrev qO:E:=
 (.cmp .Eq (.bin .Mod (.bin .FloorDiv (.var 1) (.ix (.lst (.acons (.con (.int 1)) (.acons (.con (.int 3)) (.acons (.con (.int 9)) (.acons (.con (.int 27)) (.acons (.con (.int 81)) (.acons (.con (.int 243)) (.acons (.con (.int 729)) (.acons (.con (.int 2187)) .anil))))))))) (.var 0))) (.con (.int 3))) (.con (.int 0)))
noncomputable abbrev qP:E:=
 (.var 0)
noncomputable abbrev AK:S:=
 (.cons (.asg (.one 2) (.call 47 (.acons (.var 1) (.acons (.con (.int 3)) .anil))))
 (.cons (.asg (.one 3) (.comp 1 [2] (.one 0) qP (.rng (.bt .len (.acons (.ix (.var 0) (.con (.int 0))) .anil))) qO))
 (.cons (.asg (.one 4) (.bin .Mod (.var 1) (.bin .Add (.bt .len (.acons (.var 3) .anil)) (.con (.int 1)))))
 (.cons (.asg (.one 5) (.tup (.acons (.call 49 (.acons (.var 2) .anil)) (.acons (.call 49 (.acons (.call 47 (.acons (.var 1) (.acons (.con (.int 5)) .anil))) .anil)) .anil))))
 (.cons (.ret (.tup (.acons (.bin .Add (.con (.str "new")) (.ix (.con (.str "abcdefgh")) (.bin .Mod (.var 1) (.con (.int 8))))) (.acons (.ix (.var 5) (.con (.int 0))) (.acons (.ix (.var 5) (.con (.int 1))) (.acons (.bt .tuple (.acons (.bin .Add (.sl (.var 3) (.var 4) .omit) (.sl (.var 3) .omit (.var 4))) .anil)) .anil))))))
 .nil)))))
noncomputable abbrev AL:E:=
 (.ix (.var 0) (.con (.int 0)))
noncomputable abbrev FC:E:=
 (.cmp .NotIn (.var 0) (.var 1))
noncomputable abbrev FD:E:=
 (.var 0)
noncomputable abbrev lY:S:=
 (.cons (.asg (.one 2) (.ix (.var 0) (.con (.int 2))))
 (.cons (.asg (.one 3) (.bin .Mod (.var 1) (.con (.int 7))))
 (.cons (.asg (.one 4) (.call 47 (.acons (.bin .FloorDiv (.var 1) (.con (.int 7))) (.acons (.con (.int 1)) .anil))))
 (.cons (.asg (.one 5) (.call 57 (.acons (.var 0) (.acons (.bin .FloorDiv (.var 1) (.con (.int 7))) .anil))))
 (.cons (.ite (.or (.cmp .Eq (.var 2) (.tup .anil)) (.cmp .Eq (.var 3) (.con (.int 0))))
 (.cons (.ite (.and (.cmp .NotIn (.ix (.var 5) (.con (.int 0))) (.comp 1 [] (.one 0) AL (.seq (.var 2)) (.con (.bl true)))) (.cmp .Lt (.bt .len (.acons (.var 2) .anil)) (.con (.int 20))))
 (.cons (.ret (.tup (.acons (.con (.str "add")) (.acons (.bin .Mod (.var 4) (.bin .Add (.bt .len (.acons (.var 2) .anil)) (.con (.int 1)))) (.acons (.var 5) .anil)))))
 .nil)
 .nil)
 (.cons (.ret (.tup (.acons (.con (.str "cut")) (.acons (.bin .Mod (.var 4) (.bt .len (.acons (.var 2) .anil))) .anil))))
 .nil))
 .nil)
 (.cons (.asg (.one 6) (.bin .Mod (.var 4) (.bt .len (.acons (.var 2) .anil))))
 (.cons (.asg (.one 7) (.bin .FloorDiv (.var 4) (.bt .len (.acons (.var 2) .anil))))
 (.cons (.ite (.cmp .Eq (.var 3) (.con (.int 1)))
 (.cons (.ret (.tup (.acons (.con (.str "cut")) (.acons (.var 6) .anil))))
 .nil)
 .nil)
 (.cons (.ite (.cmp .Lt (.var 3) (.con (.int 4)))
 (.cons (.ret (.ix (.lst (.acons (.tup (.acons (.con (.str "length")) (.acons (.var 6) (.acons (.call 49 (.acons (.var 7) .anil)) .anil)))) (.acons (.tup (.acons (.con (.str "pause")) (.acons (.var 6) (.acons (.call 49 (.acons (.var 7) .anil)) .anil)))) .anil))) (.bin .Sub (.var 3) (.con (.int 2)))))
 .nil)
 .nil)
 (.cons (.asg (.one 8) (.ix (.ix (.var 2) (.var 6)) (.con (.int 3))))
 (.cons (.asg (.one 9) (.comp 1 [8] (.one 0) FD (.rng (.bt .len (.acons (.ix (.var 0) (.con (.int 0))) .anil))) FC))
 (.cons (.ite (.and (.cmp .Eq (.var 3) (.con (.int 5))) (.cmp .NotEq (.var 9) (.lst .anil)))
 (.cons (.ret (.tup (.acons (.con (.str "enter")) (.acons (.var 6) (.acons (.ix (.var 9) (.bin .Mod (.var 7) (.bt .len (.acons (.var 9) .anil)))) .anil)))))
 .nil)
 .nil)
 (.cons (.ite (.and (.cmp .Eq (.var 3) (.con (.int 6))) (.cmp .NotEq (.var 8) (.tup .anil)))
 (.cons (.ret (.tup (.acons (.con (.str "leave")) (.acons (.var 6) (.acons (.ix (.var 8) (.bin .Mod (.var 7) (.bt .len (.acons (.var 8) .anil)))) .anil)))))
 .nil)
 .nil)
 (.cons (.ret (.tup (.acons (.con (.str "move")) (.acons (.var 6) (.acons (.bin .Mod (.var 7) (.bt .len (.acons (.var 2) .anil))) .anil)))))
 .nil))))))))))))))
noncomputable abbrev FE:S:=
 (.cons (.asg (.one 8) (.call 58 (.acons (.var 3) (.acons (.var 7) .anil))))
 (.cons (.app 4 (.call 42 (.acons (.var 3) (.acons (.var 8) .anil))))
 (.cons (.asg (.one 9) (.call 41 (.acons (.var 3) (.acons (.var 8) .anil))))
 (.cons (.laid 60 5 6 (.call 43 (.acons (.var 3) (.acons (.var 9) .anil))))
 (.cons (.asg (.one 3) (.var 9))
 (.cons (.ite (.cmp .NotEq (.call 14 (.acons (.call 20 (.acons (.var 3) .anil)) .anil)) (.var 3))
 (.cons (.ret (.con (.bl false)))
 .nil)
 .nil)
 .nil))))))
noncomputable abbrev FF:S:=
 (.cons (.asg (.one 3) (.call 41 (.acons (.var 3) (.acons (.var 12) .anil))))
 .nil)
noncomputable abbrev FG:S:=
 (.cons (.forS (.one 12) (.seq (.var 11)) FF)
 .nil)
noncomputable abbrev uA:S:=
 (.cons (.asg (.one 1) (.call 54 (.acons (.var 0) (.acons (.con (.int 2)) .anil))))
 (.cons (.asg (.one 2) (.call 55 (.acons (.var 1) (.acons (.bin .FloorDiv (.call 46 (.acons (.var 0) (.acons (.con (.int 0)) .anil))) (.con (.int 2))) .anil))))
 (.cons (.ite (.and (.cmp .NotEq (.ix (.var 1) (.con (.int 1))) (.tup .anil)) (.cmp .Eq (.bin .Mod (.call 46 (.acons (.var 0) (.acons (.con (.int 0)) .anil))) (.con (.int 2))) (.con (.int 0))))
 (.cons (.asg (.many [1,2]) (.call 56 (.acons (.var 1) (.acons (.bin .FloorDiv (.call 46 (.acons (.var 0) (.acons (.con (.int 0)) .anil))) (.con (.int 2))) .anil))))
 .nil)
 .nil)
 (.cons (.asg (.one 1) (.bin .Add (.bin .Add (.sl (.var 1) .omit (.con (.int 2))) (.tup (.acons (.sl (.ix (.var 1) (.con (.int 2))) .omit (.con (.int 5))) .anil))) (.sl (.var 1) (.con (.int 3)) .omit)))
 (.cons (.asg (.one 3) (.var 1))
 (.cons (.asgO 4 (.lst .anil))
 (.cons (.asgO 5 (.lst .anil))
 (.cons (.asgO 6 (.lst .anil))
 (.cons (.forS (.one 7) (.seq (.bin .Add (.lst (.acons (.call 46 (.acons (.var 0) (.acons (.con (.int 1)) .anil))) .anil)) (.sl (.var 0) (.con (.int 19)) (.con (.int 24))))) FE)
 (.cons (.asg (.one 10) (.call 43 (.acons (.var 1) (.acons (.var 3) .anil))))
 (.cons (.ite (.cmp .NotEq (.var 10) (.tup (.acons (.srtT (.rd 5)) (.acons (.srtT (.rd 6)) .anil))))
 (.cons (.ret (.con (.bl false)))
 .nil)
 .nil)
 (.cons (.ite (.cmp .Eq (.call 29 (.acons (.var 1) (.acons (.var 2) .anil))) (.lst .anil))
 (.cons (.ite (.cmp .NotEq (.cmp .Eq (.call 29 (.acons (.var 3) (.acons (.var 2) .anil))) (.lst .anil)) (.cmp .Eq (.call 45 (.acons (.var 10) (.acons (.lst (.acons (.var 2) .anil)) .anil))) (.lst .anil)))
 (.cons (.ret (.con (.bl false)))
 .nil)
 .nil)
 .nil)
 .nil)
 (.cons (.sealed 4)
 (.cons (.forS (.one 11) (.seqD (.var 4)) FG)
 (.cons (.ret (.cmp .Eq (.var 3) (.var 1)))
 .nil)))))))))))))))
noncomputable abbrev FH:S:=
 (.cons (.ite (.cmp .In (.var 3) (.rd 1))
 (.cons (.remR 1 (.var 3))
 .nil)
 (.cons (.appR 0 (.var 3))
 .nil))
 .nil)
noncomputable abbrev FI:S:=
 (.cons (.ite (.cmp .In (.var 3) (.rd 0))
 (.cons (.remR 0 (.var 3))
 .nil)
 (.cons (.appR 1 (.var 3))
 .nil))
 .nil)
noncomputable abbrev AM:S:=
 (.cons (.forS (.one 3) (.seq (.ix (.var 2) (.con (.int 0)))) FH)
 (.cons (.forS (.one 3) (.seq (.ix (.var 2) (.con (.int 1)))) FI)
 .nil))
noncomputable def T:Tab:=⟨λg=>match g with|0=>(.str "abcdefghijklmnopqrstuvwxyz")|1=>(.str "0123456789")|2=>(.int 0)|3=>(.int 1)|4=>(.int 2)|5=>(.int 3)|6=>(.int 4)|7=>(.tup [(.str "part"),(.str "player"),(.str "scene"),(.str "like"),(.str "cover")])|8=>(.int 999999999)|_=>.non,λf=>f==20||f==26||f==29||f==42||f==45||f==55,λf=>match f with|60=>some 1000|_=>none⟩
@[simp] theorem T_glob0:T.glob 0=(.str "abcdefghijklmnopqrstuvwxyz"):=id rfl
@[simp] theorem T_glob1:T.glob 1=(.str "0123456789"):=id rfl
@[simp] theorem T_glob2:T.glob 2=(.int 0):=id rfl
@[simp] theorem T_glob3:T.glob 3=(.int 1):=id rfl
@[simp] theorem T_glob4:T.glob 4=(.int 2):=id rfl
@[simp] theorem T_glob5:T.glob 5=(.int 3):=id rfl
@[simp] theorem T_glob6:T.glob 6=(.int 4):=id rfl
@[simp] theorem T_glob7:T.glob 7=(.tup [(.str "part"),(.str "player"),(.str "scene"),(.str "like"),(.str "cover")]):=id rfl
@[simp] theorem T_glob8:T.glob 8=(.int 999999999):=id rfl
@[simp] theorem T_fresh30:T.fresh 30=false:=id rfl
@[simp] theorem T_fresh32:T.fresh 32=false:=id rfl
@[simp] theorem T_fresh38:T.fresh 38=false:=id rfl
noncomputable def dfs:List Df:=[⟨2,2,yL,none⟩,⟨1,1,qE,none⟩,⟨1,1,yM,none⟩,⟨1,1,yN,none⟩,⟨1,1,yO,none⟩,⟨1,1,tO,none⟩,⟨4,2,qF,none⟩,⟨2,2,tP,none⟩,⟨2,2,yP,none⟩,⟨2,2,tQ,none⟩,⟨3,2,yR,none⟩,⟨4,2,yT,none⟩,⟨4,2,yU,none⟩,⟨5,2,lX,none⟩,⟨4,1,yV,none⟩,⟨1,1,yW,none⟩,⟨1,1,tV,none⟩,⟨3,2,yY,none⟩,⟨2,2,yZ,none⟩,⟨2,2,zA,none⟩,⟨2,1,zH,none⟩,⟨4,3,E6,none⟩,⟨3,3,E7,none⟩,⟨7,4,E9,none⟩,⟨5,4,E_,none⟩,⟨5,3,Eb,none⟩,⟨4,1,Ef,none⟩,⟨3,3,Eg,none⟩,⟨3,3,Eh,none⟩,⟨3,2,En,none⟩,⟨1,1,zI,none⟩,⟨2,2,zJ,none⟩,⟨2,2,zK,none⟩,⟨6,2,zN,none⟩,⟨4,4,Eo,none⟩,⟨4,2,qG,none⟩,⟨2,2,zO,none⟩,⟨2,2,zP,none⟩,⟨3,3,zQ,none⟩,⟨7,3,oF,none⟩,⟨5,2,jG,none⟩,⟨2,2,zR,none⟩,⟨5,2,Ep,none⟩,⟨4,2,Ew,none⟩,⟨2,2,Ey,none⟩,⟨2,2,Ez,none⟩,⟨2,2,tY,none⟩,⟨2,2,zT,none⟩,⟨5,2,zU,none⟩,⟨1,1,zV,none⟩,⟨5,3,zW,none⟩,⟨5,3,zX,none⟩,⟨8,4,zY,none⟩,⟨9,4,zZ,none⟩,⟨13,2,AC,none⟩,⟨6,2,AD,none⟩,⟨12,2,AJ,none⟩,⟨6,2,AK,none⟩,⟨10,2,lY,none⟩,⟨13,1,uA,none⟩,⟨4,3,AM,none⟩]
variable{c cell k share:Int}{L:List (Nat×Nat×Nat)}{C C' C0 X Y x y:List (Nat×Nat)}{ps:List (Str×List D)}{cs:List Nat}{P:List Part}{Q:List Player}{i m many n other:Nat}
section
local macro_rules | `(tactic| w_up) => `(tactic| first | (with_reducible assumption) | rfl)
local macro_rules | `(tactic| x_go) => `(tactic| with_reducible (first | show aA _ _ _ _ _ = _ | show aU _ _ = _ | show bH _ _ _ = _ | show vQ _ _ _ _ = _ | show (_ : Nat) ≤ _ | show (_ : Nat) < _))
local macro_rules | `(tactic| kd_p) => `(tactic| first | with_reducible (first | assumption | exact pP | exact LP | exact Da | exact cmp_gt | exact cmp_le | exact cmp_ge | exact LK | exact LL | exact LJ | exact xH | exact LU | exact LV | exact cmp_is | exact LQ) | ((with_reducible (first | apply iH | apply xG | apply LM | apply bin_mulR)); (first | decide | lia)) | (x_go; lia) | ((fail_if_success x_go); rfl))
local macro_rules | `(tactic| lk) => `(tactic| repeat' (first | (with_reducible first | (show evE _ _ _ _ = _; assumption) | exact v_con | apply v_var | exact a_nil | apply a_cons | apply v_call | apply v_bin | apply v_cmp | apply v_ix | apply v_glob | apply v_rd | apply v_tup | apply v_lst | apply v_and | apply v_or | apply v_not | apply v_ife | apply v_bt | exact v_omit | apply v_sl | apply v_comp | apply LY | apply v_mth | apply v_srtT | apply i_revL | apply s_appR | apply s_remR | apply s_laid | apply s_seal | apply i_seqV | apply i_rngV | apply LZ | apply L0 | apply s_nil' | apply dZ | apply eA | exact t_rt | apply s_asg | apply s_ret | apply s_ite | apply s_app | apply s_asgO | apply s_for | apply s_retO | apply s_ext | apply s_exp | apply Dk | apply c_t | apply c_f) | ((with_reducible apply iteB_t); (focus w_up)) | ((with_reducible apply iteB_f); (focus w_up)) | (show _ = _; kd_p) | (show (_ : Nat) ≤ _; kd_p) | (show (_ : Nat) < _; kd_p)))
theorem uB(n:Nat)(ns:List Int)(k:Nat):aA T dfs (n+1) 46 [.lst (ns.map D.int),.int k]=.ok (.int (bZ ns k)):=by
 unfold bZ
 refine aJ (k:=false) rfl rfl rfl ?_
 by_cases h:k<ns.length
 ·have hi:(ns.map D.int)[k]?=some (.int (ns.getD k 0)):=by simp[h]
  have f1:cI T ((E.var 0).ix (E.var 1))=false:=rfl
  simp[tY,h,nM hi,f1]
 ·simp[tY,h]
noncomputable def eD(c:Int):Int:=if c/26%4=0 then 1 else if c/26%4=1 then 3 else if c/26%4=2 then 5 else 7
noncomputable def cJ(c:Int):List Nat:=if c/104%4=0 then []else if c/104%4=1 then [97]else if c/104%4=2 then [98,97]else [122,122,122,122,122,122,122]
noncomputable def atV(c:Int):Nat:=(c/416%(((cJ c).length:Int)+1)).toNat
noncomputable def kT(c k:Int):Nat:=97+((c+k*eD c)%26).toNat
noncomputable def fB(c k:Int):List Nat:=(cJ c).take (atV c)++kT c k::(cJ c).drop (atV c)
noncomputable def cB(c k:Int):Str:=⟨(fB c k).toArray⟩
theorem kU(c k:Int):aH (cB c k)=fB c k:=by simp[aH,cB]
theorem AN(c:Int):(cJ c).length<=7:=by
 unfold cJ
 repeat' split
 all_goals simp
theorem FJ(c:Int):atV c<=(cJ c).length:=by
 unfold atV
 have:=jI (c/416) (show(0:Int)<((cJ c).length:Int)+1 by lia)
 lia
theorem MI(c k:Int):97<=kT c k/\kT c k<=122:=by
 unfold kT
 have h1:=fH (c+k*eD c) (show(26:Int)≠0 by lia)
 have h2:=jI (c+k*eD c) (show(0:Int)<26 by lia)
 lia
theorem FK {c:Nat} (h:97<=c/\c<=122):dN "abcdefghijklmnopqrstuvwxyz" c=true:=by
 have:∀i:Fin 26,dN "abcdefghijklmnopqrstuvwxyz" (97+i.val)=true:=by decide
 have:=this ⟨c-97,by lia⟩
 rwa [show 97+(c-97)=c by lia]at this
theorem FL{x:Nat}(h:x∈cJ c):97<=x/\x<=122:=by
 unfold cJ at h
 repeat' split at h
 all_goals simp at h
 all_goals lia
theorem FM{x:Nat}(h:x∈fB c k):97<=x/\x<=122:=by
 unfold fB at h
 rw[fD,bL]at h
 rcases h with h|rfl|h
 ·exact FL (oT h)
 ·exact MI c k
 ·exact FL (Ah h)
theorem uC(c k:Int):(fB c k).length=(cJ c).length+1:=by
 have:=FJ c
 unfold fB
 rw[cP,aW,dF,iP]
 lia
theorem qQ(c k:Int):bS (cB c k):=by
 have h:=AN c
 have h2:=uC c k
 refine⟨by rw[kU];lia,by rw[kU];lia,?_⟩
 rw[kU,gO]
 exact λx hx=>FK (FM hx)
theorem FN{k':Int}(h0:0<=k/\k<26)(h1:0<=k'/\k'<26)(h:cB c k=cB c k'):k=k':=by
 have e:fB c k=fB c k':=by rw[<-kU,<-kU,h]
 unfold fB at e
 have e2:=List.append_cancel_left e
 injection e2 with e3 _
 unfold kT at e3
 have a1:=fH (c+k*eD c) (show(26:Int)≠0 by lia)
 have a2:=fH (c+k'*eD c) (show(26:Int)≠0 by lia)
 have e4:(c+k*eD c)%26=(c+k'*eD c)%26:=by lia
 unfold eD at e4
 repeat' split at e4
 all_goals lia
theorem MJ (i:Int) (h:0<=i/\i<26):D.ix (.str "abcdefghijklmnopqrstuvwxyz") (.int i)=.ok (.str (cH (97+i.toNat))):=by
 have hb:=bI
 have a:∀j:Fin 26,atI (("abcdefghijklmnopqrstuvwxyz" : Str).cps.toList) ((j.val:Nat):Int)=some (97+j.val):=by decide
 have:=a ⟨i.toNat,by lia⟩
 rw[show((i.toNat:Nat):Int)=i by lia]at this
 show aC (decide (("abcdefghijklmnopqrstuvwxyz" : Str).length<=big)) (Res.of ((atI ("abcdefghijklmnopqrstuvwxyz" : Str).cps.toList i).map λc=>D.str ⟨#[c]⟩))=_
 rw[this,show decide (("abcdefghijklmnopqrstuvwxyz" : Str).length<=big)=true by
  rw[show("abcdefghijklmnopqrstuvwxyz" : Str).length=26 by decide];simp;lia]
 rfl
noncomputable def fC(c:Int):Str:=⟨(cJ c).toArray⟩
theorem uD{α:Type}(a b c d:α)(i:Int)(h:0<=i/\i<4):atI [a,b,c,d] i=some (if i=0 then a else if i=1 then b else if i=2 then c else d):=by
 have:i=0\/i=1\/i=2\/i=3:=by lia
 rcases this with rfl|rfl|rfl|rfl<;>rfl
theorem uE(n:Nat)(c k:Int):aA T dfs (n+1) 48 [.int c,.int k]=.ok (.str (cB c k)):=by
 refine aJ (k:=true) rfl rfl rfl ?_
 have hb:=bI
 have r1:0<=c/26%4/\c/26%4<4:=by lia
 have r2:0<=c/104%4/\c/104%4<4:=by lia
 have e1:D.ix (.lst [.int 1,.int 3,.int 5,.int 7]) (.int (c/26%4))=.ok (.int (eD c)):=by
  show Res.of (atI _ _)=_
  rw[uD _ _ _ _ _ r1]
  unfold eD
  repeat' split
  all_goals rfl
 have e2:D.ix (.lst [.str "", .str "a", .str "ba", .str "zzzzzzz"]) (.int (c/104%4))=.ok (.str (fC c)):=by
  show Res.of (atI _ _)=_
  rw[uD _ _ _ _ _ r2]
  unfold fC cJ
  repeat' split
  ·exact congrArg (λz=>Res.ok (D.str z)) (show("" : Str)=_ by decide)
  ·exact congrArg (λz=>Res.ok (D.str z)) (show("a" : Str)=_ by decide)
  ·exact congrArg (λz=>Res.ok (D.str z)) (show("ba" : Str)=_ by decide)
  ·exact congrArg (λz=>Res.ok (D.str z)) (show("zzzzzzz" : Str)=_ by decide)
 have hs:aH (fC c)=cJ c:=by simp[aH,fC]
 have hl:=fM (fC c)
 rw[hs]at hl
 have ht:=AN c
 have ha:=FJ c
 have e3:D.bin .Mult (.int k) (.int (eD c))=.ok (.int (k*eD c)):=by
  show aC (eH k||eH (eD c)) _=_
  have:eH (eD c)=true:=by
   unfold eD
   repeat' split
   all_goals decide
  rw[this,Bool.or_true];rfl
 have r3:0<=(c+k*eD c)%26/\(c+k*eD c)%26<26:=by lia
 have e4:=MJ _ r3
 have e5:(fC c).length<=big:=by lia
 have e6:(0:Int)<(cJ c).length+1:=by lia
 have e7:c/416%(((cJ c).length:Int)+1)=(atV c:Int):=by
  unfold atV
  have:=fH (c/416) (show((cJ c).length:Int)+1≠0 by lia)
  lia
 have e8:D.sl (.str (fC c)) none (some (atV c:Int))=.ok (.str ⟨((cJ c).take (atV c)).toArray⟩):=by
  show aC (decide ((fC c).length<=big)) (.ok (D.str (jM (fC c) none (some (atV c:Int)))))=_
  rw[show decide ((fC c).length<=big)=true by simpa using e5]
  unfold jM
  rw[show(fC c).cps.toList=cJ c from hs]
  have:cut (cJ c) none (some (atV c:Int))=(cJ c).take (atV c):=by
   unfold cut sIx
   simp only[]
   rw[if_neg (by lia),kE,lE ha,uS,uT]
  rw[this];rfl
 have e9:D.sl (.str (fC c)) (some (atV c:Int)) none=.ok (.str ⟨((cJ c).drop (atV c)).toArray⟩):=by
  show aC (decide ((fC c).length<=big)) (.ok (D.str (jM (fC c) (some (atV c:Int)) none)))=_
  rw[show decide ((fC c).length<=big)=true by simpa using e5]
  unfold jM
  rw[show(fC c).cps.toList=cJ c from hs,lU ha];rfl
 have e10:D.bin .Add (.str ⟨((cJ c).take (atV c)).toArray⟩) (.str (cH (97+((c+k*eD c)%26).toNat)))=.ok (.str ⟨((cJ c).take (atV c)++[kT c k]).toArray⟩):=by
  exact EA (a:=(cJ c).take (atV c)) (b:=[kT c k]) (by simp;lia)
 have e11:D.bin .Add (.str ⟨((cJ c).take (atV c)++[kT c k]).toArray⟩) (.str ⟨((cJ c).drop (atV c)).toArray⟩)=.ok (.str (cB c k)):=by
  rw[EA (by simp;lia)]
  unfold cB fB
  rw[dG];rfl
 have e12:(cJ c).length<=big:=by lia
 simp[zU,e1,e2,e3,e4,hl,e12,e6,e7,e8,e9,e10,e11]
noncomputable def bV(x:Int):Int:=x/6%(if x%6<4 then 7 else if x%6=4 then 40 else 1000000000)
theorem iJ(x:Int):0<=bV x/\bV x<1000000000:=by
 unfold bV
 repeat' split
 all_goals lia
theorem kW(n:Nat)(x:Int):aA T dfs (n+1) 49 [.int x]=.ok (.int (bV x)):=by
 refine aJ (k:=false) rfl rfl rfl ?_
 have e0:D.bin .Pow (.int 10) (.int 9)=.ok (.int 1000000000):=by rfl
 have e1:D.ix (.lst [.int 7,.int 7,.int 40,.int 1000000000]) (.int (x%6/2+x%6/5))=.ok (.int (if x%6<4 then 7 else if x%6=4 then 40 else 1000000000)):=by
  show Res.of (atI _ _)=_
  rw[uD _ _ _ _ _ (by lia)]
  repeat' split
  all_goals first|rfl|(exfalso;lia)
 have e2:(0:Int)<(if x%6<4 then 7 else if x%6=4 then 40 else 1000000000):=by
  repeat' split
  all_goals lia
 simp[zV,e0,e1,e2,bV]
noncomputable def aF(c k:Int):Int:=(c%1000003*(48271+15838*k*k)+69621*k)%2147483647
theorem uF(c k:Int):0<=aF c k/\aF c k<2147483647:=by unfold aF;lia
theorem lZ{i j:Int}(h:eH i=true\/eH j=true):D.bin .Mult (.int i) (.int j)=.ok (.int (i*j)):=by
 show aC (eH i||eH j) _=_
 rcases h with h|h
 ·rw[h];rfl
 ·rw[h,Bool.or_true];rfl
theorem gN(n:Nat)(c k:Int)(hk:0<=k/\k<1000000):aA T dfs (n+1) 47 [.int c,.int k]=.ok (.int (aF c k)):=by
 refine aJ (k:=false) rfl rfl rfl ?_
 have hk2:eH k=true:=by unfold eH;simp;lia
 have e1:D.bin .Mult (.int 15838) (.int k)=.ok (.int (15838*k)):=lZ (.inr hk2)
 have e2:D.bin .Mult (.int (15838*k)) (.int k)=.ok (.int (15838*k*k)):=lZ (.inr hk2)
 have e3:D.bin .Mult (.int 69621) (.int k)=.ok (.int (69621*k)):=lZ (.inr hk2)
 have e4:D.bin .Mult (.int (c%1000003)) (.int (48271+15838*k*k))=.ok (.int (c%1000003*(48271+15838*k*k))):=lZ (.inl (by unfold eH;simp;lia))
 simp[zT,e1,e2,e3,e4,aF]
noncomputable def AO:List Nat->Nat
 |a::_=>a
 |[]=>97
noncomputable def kX(x base:Int):Nat:=if x%4=0 then 97 else if x%4=1 then 98 else if x%4=2 then 97 else AO (fB (7*base) x)
theorem FO(c k:Int):∃a r,fB c k=a::r:=by
 have:=uC c k
 cases e:fB c k with
 |nil=>rw[e]at this;simp at this
 |cons a r=>exact⟨a,r,rfl⟩
theorem MK(x base:Int):97<=kX x base/\kX x base<=122:=by
 unfold kX
 repeat' split
 ·lia
 ·lia
 ·lia
 ·obtain⟨a,r,e⟩:=FO (7*base) x
  rw[e]
  exact FM (c:=7*base) (k:=x) (by rw[e];exact bA)
noncomputable def qR(cell base:Int)(k:Nat):Str×List D:=(cB base k,[.str (cH (kX (aF cell k) base)),.int (bV (aF cell k/4)),.int (bV (aF cell (k+20)))])
theorem ML(n:Nat)(cell base:Int)(k:Nat)(hk:k<1000):aA T dfs (n+2) 50 [.int cell,.int k,.int base]=.ok (ent (qR cell base k)):=by
 refine aJ (k:=false) rfl rfl rfl ?_
 have hb:=bI
 have e1:=gN n cell k (by lia)
 have e2:=gN n cell (k+20) (by lia)
 have e3:=uE n base k
 have e4:=uE n (7*base) (aF cell k)
 have e5:=kW n (aF cell k/4)
 have e6:=kW n (aF cell (k+20))
 have e7:D.bin .Mult (.int 7) (.int base)=.ok (.int (7*base)):=lZ (.inl (by decide))
 have e8:D.sl (.str (cB (7*base) (aF cell k))) none (some 1)=.ok (.str (cH (AO (fB (7*base) (aF cell k))))):=by
  obtain⟨a,r,e⟩:=FO (7*base) (aF cell k)
  have hl:(cB (7*base) (aF cell k)).length<=big:=by
   rw[fM,kU,uC];have:=AN (7*base);lia
  show aC (decide ((cB (7*base) (aF cell k)).length<=big)) (.ok (D.str (jM (cB (7*base) (aF cell k)) none (some 1))))=_
  rw[show decide ((cB (7*base) (aF cell k)).length<=big)=true by simpa using hl]
  unfold jM
  rw[show(cB (7*base) (aF cell k)).cps.toList=fB (7*base) (aF cell k)from kU _ _,e]
  have:cut (a::r) none (some 1)=[a]:=by
   unfold cut sIx;simp
  rw[this];rfl
 have r:=uF cell k
 have e9:D.ix (.lst [.str "a", .str "b", .str "a", .str (cH (AO (fB (7*base) (aF cell k))))]) (.int (aF cell k%4))=.ok (.str (cH (kX (aF cell k) base))):=by
  show Res.of (atI _ _)=_
  rw[uD _ _ _ _ _ (by lia)]
  unfold kX
  repeat' split
  ·exact congrArg (λz=>Res.ok (D.str z)) (show("a" : Str)=_ by decide)
  ·exact congrArg (λz=>Res.ok (D.str z)) (show("b" : Str)=_ by decide)
  ·exact congrArg (λz=>Res.ok (D.str z)) (show("a" : Str)=_ by decide)
  ·rfl
 simp[zW,e1,e2,e3,e4,e5,e6,e7,e8,e9,ent,qR]
noncomputable def jZ (x:Int):Str:=if x%6=0 then "ab" else if x%6=1 then "a" else if x%6=2 then "bca" else if x%6=3 then "" else if x%6=4 then "abcdefghijklmnopqrstuvwxyz" else "zb"
noncomputable def qS(cell base:Int)(k:Nat):Str×List D:=(cB base k,[.str (jZ (aF cell k)),.int (bV (aF cell k/6))])
theorem six_at{α:Type}(a b c d e f:α)(i:Int)(h:0<=i/\i<6):atI [a,b,c,d,e,f] i=some (if i=0 then a else if i=1 then b else if i=2 then c else if i=3 then d else if i=4 then e else f):=by
 have:i=0\/i=1\/i=2\/i=3\/i=4\/i=5:=by lia
 rcases this with rfl|rfl|rfl|rfl|rfl|rfl<;>rfl
theorem MM(n:Nat)(cell base:Int)(k:Nat)(hk:k<1000):aA T dfs (n+2) 51 [.int cell,.int k,.int base]=.ok (ent (qS cell base k)):=by
 refine aJ (k:=false) rfl rfl rfl ?_
 have hb:=bI
 have e1:=gN n cell k (by lia)
 have e3:=uE n base k
 have e5:=kW n (aF cell k/6)
 have r:=uF cell k
 have e9:D.ix (.lst [.str "ab", .str "a", .str "bca", .str "", .str "abcdefghijklmnopqrstuvwxyz", .str "zb"]) (.int (aF cell k%6))=.ok (.str (jZ (aF cell k))):=by
  show Res.of (atI _ _)=_
  rw[six_at _ _ _ _ _ _ _ (by lia)]
  unfold jZ
  repeat' split
  all_goals rfl
 simp[zX,e1,e3,e5,e9,ent,qS]
noncomputable def dA(j:Nat):Int:=if j=0 then 1 else if j=1 then 3 else if j=2 then 9 else if j=3 then 27 else if j=4 then 81 else if j=5 then 243 else if j=6 then 729 else 2187
noncomputable def inV(x:Int)(j:Nat):Bool:=decide (x/dA j%3=0)
theorem FP{α:Type}(a b c d e f g h:α)(i:Nat)(hi:i<8):atI [a,b,c,d,e,f,g,h] (i:Int)=some (if i=0 then a else if i=1 then b else if i=2 then c else if i=3 then d else if i=4 then e else if i=5 then f else if i=6 then g else h):=by
 have:i=0\/i=1\/i=2\/i=3\/i=4\/i=5\/i=6\/i=7:=by lia
 rcases this with rfl|rfl|rfl|rfl|rfl|rfl|rfl|rfl<;>rfl
theorem FQ(j:Nat):0<dA j/\dA j<1073741824:=by
 unfold dA
 repeat' split
 all_goals lia
theorem FR(n:Nat)(x:Int)(a b c d f g h:Sl):∀xs:List Nat,(∀j∈xs,j<8)->aU (bE T (aA T dfs n) 1 [4] (.one 0) qK qJ [a,b,c,d,.v (.int x),f,g,h]) (xs.map λj:Nat=>D.int j)=.ok ((xs.filter (inV x)).map λj:Nat=>D.int j)
 |[],_=>rfl
 |j::r,hj=>by
  have h8:=hj j bA
  have e1:D.ix (.lst [.int 1,.int 3,.int 9,.int 27,.int 81,.int 243,.int 729,.int 2187]) (.int j)=.ok (.int (dA j)):=by
   show Res.of (atI _ _)=_
   rw[FP _ _ _ _ _ _ _ _ j h8]
   unfold dA
   repeat' split
   all_goals rfl
  have hp:=FQ j
  have e2:D.bin .FloorDiv (.int x) (.int (dA j))=.ok (.int (x/dA j)):=by
   show aC (decide (0<dA j)&&decide (dA j<1073741824)) _=_
   rw[show decide (0<dA j)=true by simpa using hp.1,show decide (dA j<1073741824)=true by simpa using hp.2]
   rfl
  rw[aG,aU,FR n x a b c d f g h r λi hi=>hj i (aY _ hi)]
  by_cases q:x/dA j%3=0
  ·have q':inV x j=true:=by unfold inV;simpa using q
   rw[Gs q']
   simp[bE,Tr.bT,qK,qJ,e1,e2,q]
  ·have q':¬inV x j=true:=by unfold inV;simpa using q
   rw[Gu q']
   simp[bE,Tr.bT,qK,qJ,e1,e2,q]
noncomputable def iK(x:Int)(many:Nat):List Nat:=(aI many).filter (inV x)
theorem FS(x:Int)(many:Nat):(iK x many).length<=many:=by
 have:=lF (inV x) (aI many)
 rw[eS]at this
 exact this
noncomputable def kY(cell:Int)(k many:Nat):List Nat:=eZ cell (iK (aF cell (k+40)) many)
noncomputable def qT(cell base:Int)(k many:Nat):Str×List D:=(cB base k,[.int (bV (aF cell k)),.int (bV (aF cell (k+20))),.tup ((kY cell k many).map λj:Nat=>D.int j)])
theorem MN(n:Nat)(cell base:Int)(k many:Nat)(hk:k<1000)(hm:many<=8):aA T dfs (n+2) 52 [.int cell,.int k,.int base,.int many]=.ok (ent (qT cell base k many)):=by
 refine aJ (k:=false) rfl rfl rfl ?_
 have hb:=bI
 have e0:=gN n cell (k+40) (by lia)
 have e1:=gN n cell k (by lia)
 have e2:=gN n cell (k+20) (by lia)
 have e3:=uE n base k
 have e4:=kW n (aF cell k)
 have e5:=kW n (aF cell (k+20))
 have e6:jB (.int (many:Int))=.ok ((aI many).map λj:Nat=>D.int j):=by
  rw[lR (by lia),jD]
  simp
 have e7:=λa b c d f g h=>FR (n+1) (aF cell (k+40)) a b c d f g h (aI many) λj hj=>by rw[kC]at hj;lia
 have hl:=FS (aF cell (k+40)) many
 have e7':∀a b c d f g h,aU (bE T (aA T dfs (n+1)) 1 [4] (.one 0) qK qJ [a,b,c,d,.v (.int (aF cell (k+40))),f,g,h]) ((aI many).map λj:Nat=>D.int j)=.ok ((iK (aF cell (k+40)) many).map λj:Nat=>D.int j):=e7
 clear e7
 have hw:kY cell k many=eZ cell (iK (aF cell (k+40)) many):=rfl
 generalize iK (aF cell (k+40)) many=L at *
 have hr:=xW cell L
 have e8:cell%((L.length:Int)+1)=(((cell%((L.length:Int)+1)).toNat:Nat):Int):=by
  have:=fH cell (show(L.length:Int)+1≠0 by lia)
  lia
 have e9:(0:Int)<(L.length:Int)+1:=by lia
 have hL:(L.map λj:Nat=>D.int j).length=L.length:=aD ..
 have e10:cut (L.map λj:Nat=>D.int j) (some (cell%((L.length:Int)+1))) none=(L.map λj:Nat=>D.int j).drop (cell%((L.length:Int)+1)).toNat:=by
  rw[e8];exact lU (by rw[hL];lia)
 have e11:cut (L.map λj:Nat=>D.int j) none (some (cell%((L.length:Int)+1)))=(L.map λj:Nat=>D.int j).take (cell%((L.length:Int)+1)).toNat:=by
  rw[e8];exact nX (by rw[hL];lia)
 have e12:D.bin .Add (.lst ((L.map λj:Nat=>D.int j).drop (cell%((L.length:Int)+1)).toNat)) (.lst ((L.map λj:Nat=>D.int j).take (cell%((L.length:Int)+1)).toNat))=.ok (.lst ((kY cell k many).map λj:Nat=>D.int j)):=by
  rw[pT (by rw[iP,dF,hL];lia),hw,<-xY]
  unfold eZ
  rw[hL]
 have e13:many<=big:=by lia
 have e14:L.length<=big:=by lia
 simp[zY,e0,e1,e2,e3,e4,e5,e6,e7',e9,e10,e11,e12,e13,e14,ent,qT]
noncomputable def kZ(cell share:Int)(k:Nat):Bool:=decide (aF cell k/64%share=0)
noncomputable def prD(p:Nat×Nat):D:=.tup [.int p.1,.int p.2]
noncomputable def prs(cell share:Int)(other:Nat)(xs:List Nat):List (Nat×Nat):=(xs.filter (kZ cell share)).map λk=>(k/other,k%other)
theorem MO(n:Nat)(cell one share:Int)(other k:Nat)(ho:0<other/\other<1000)(hs:0<share)(hk:k<1000)(acc:List D)(ha:acc.length<1000)(x y z w:Sl) :
 bJ T (aA T dfs (n+1)) (.one 5) oG (.int k) [.v (.int cell),.v (.int one),.v (.int other),.v (.int share),.o (.lst acc),x,y,z,w] =
  .ok (.nx [.v (.int cell),.v (.int one),.v (.int other),.v (.int share),.o (.lst (if kZ cell share k then acc++[prD (k/other,k%other)]else acc)),.v (.int k),.v (.int (aF cell k)),.v (prD (k/other,k%other)),w]):=by
 have hb:=bI
 have e1:=gN n cell k (by lia)
 have e2:D.bin .FloorDiv (.int k) (.int other)=.ok (.int ((k/other:Nat):Int)):=by
  show aC (decide ((0:Int)<other)&&decide ((other:Int)<1073741824)) _=_
  rw[show decide ((0:Int)<other)=true by simp;lia,show decide ((other:Int)<1073741824)=true by simp;lia]
  simp
 have e3:D.bin .Mod (.int k) (.int other)=.ok (.int ((k%other:Nat):Int)):=by
  show aC (decide ((0:Int)<other)) _=_
  rw[show decide ((0:Int)<other)=true by simp;lia]
  simp
 have e4:acc.length<big:=by lia
 by_cases q:aF cell k/64%share=0
 ·have q':kZ cell share k=true:=by unfold kZ;simpa using q
  simp[bJ,oG,e1,e2,e3,hs,q,q',e4,prD]
 ·have q':kZ cell share k=false:=by unfold kZ;simpa using q
  simp[bJ,oG,e1,e2,e3,hs,q,q',prD]
theorem FT(n:Nat)(cell one share:Int)(other:Nat)(ho:0<other/\other<1000)(hs:0<share)(w:Sl):∀(xs:List Nat)(acc:List D)(x y z:Sl),(∀k∈xs,k<1000)->acc.length+xs.length<1000 ->
 ∃x' y' z',bH (bJ T (aA T dfs (n+1)) (.one 5) oG) (xs.map λk:Nat=>D.int k) [.v (.int cell),.v (.int one),.v (.int other),.v (.int share),.o (.lst acc),x,y,z,w] =
  .ok (.nx [.v (.int cell),.v (.int one),.v (.int other),.v (.int share),.o (.lst (acc++(prs cell share other xs).map prD)),x',y',z',w])
 |[],acc,x,y,z,_,_=>⟨x,y,z,by simp[prs,pQ]⟩
 |k::r,acc,x,y,z,hx,hl=>by
  rw[aW]at hl
  have e:=MO n cell one share other k ho hs (hx k bA) acc (by lia) x y z w
  obtain⟨x',y',z',e2⟩:=FT n cell one share other ho hs w r (if kZ cell share k then acc++[prD (k/other,k%other)]else acc) (.v (.int k)) (.v (.int (aF cell k))) (.v (prD (k/other,k%other))) (λi hi=>hx i (aY _ hi)) (by split<;>(try rw[cP,iQ])<;>lia)
  refine⟨x',y',z',?_⟩
  rw[aG,dY e,e2]
  unfold prs
  cases q:kZ cell share k with
  |true=>rw[Gs q];simp
  |false=>rw[Gu (by rw[q];simp)];simp
noncomputable def fR(cell share:Int)(one other:Nat):List (Nat×Nat):=eZ cell (prs cell share other (aI (one*other)))
theorem FU(cell share:Int)(other:Nat)(xs:List Nat):(prs cell share other xs).length<=xs.length:=by
 unfold prs
 rw[aD]
 exact lF _ _
theorem FV(n:Nat)(cell share:Int)(one other:Nat)(h1:one<=8)(h2:other<=8)(hs:0<share):aA T dfs (n+2) 53 [.int cell,.int one,.int other,.int share]=.ok (.lst ((fR cell share one other).map prD)):=by
 refine aJ (k:=true) rfl rfl rfl ?_
 have hb:=bI
 have hm:one*other<=64:=rK h1 h2
 have e1:D.bin .Mult (.int one) (.int other)=.ok (.int ((one:Int)*(other:Int))):=lZ (.inl (by unfold eH;simp;lia))
 have e2:jB (.int ((one:Int)*(other:Int)))=.ok ((aI (one*other)).map λk:Nat=>D.int k):=by
  rw[show(one:Int)*(other:Int)=((one*other:Nat):Int) by push_cast;rfl,lR (by lia),jD]
  simp
 have e3:∃x' y' z',bH (bJ T (aA T dfs (n+1)) (.one 5) oG) ((aI (one*other)).map λk:Nat=>D.int k) [.v (.int cell),.v (.int one),.v (.int other),.v (.int share),.o (.lst []),.no,.no,.no,.no] =
  .ok (.nx [.v (.int cell),.v (.int one),.v (.int other),.v (.int share),.o (.lst ((prs cell share other (aI (one*other))).map prD)),x',y',z',.no]):=by
  by_cases ho:0<other
  ·have:=FT n cell one share other ⟨ho,by lia⟩ hs .no (aI (one*other)) [] .no .no .no (λk hk=>by rw[kC]at hk;lia) (by rw[eS];simp;lia)
   simpa using this
  ·have:other=0:=by lia
   subst this
   exact⟨.no,.no,.no,by simp[prs,pQ]⟩
 obtain⟨x',y',z',e3⟩:=e3
 have hl:=FU cell share other (aI (one*other))
 rw[eS]at hl
 have hw:fR cell share one other=eZ cell (prs cell share other (aI (one*other))):=rfl
 generalize prs cell share other (aI (one*other))=L at *
 have hr:=xW cell L
 have e8:cell%((L.length:Int)+1)=(((cell%((L.length:Int)+1)).toNat:Nat):Int):=by
  have:=fH cell (show(L.length:Int)+1≠0 by lia)
  lia
 have e9:(0:Int)<(L.length:Int)+1:=by lia
 have hL:(L.map prD).length=L.length:=aD ..
 have e10:cut (L.map prD) (some (cell%((L.length:Int)+1))) none=(L.map prD).drop (cell%((L.length:Int)+1)).toNat:=by
  rw[e8];exact lU (by rw[hL];lia)
 have e11:cut (L.map prD) none (some (cell%((L.length:Int)+1)))=(L.map prD).take (cell%((L.length:Int)+1)).toNat:=by
  rw[e8];exact nX (by rw[hL];lia)
 have e12:D.bin .Add (.lst ((L.map prD).drop (cell%((L.length:Int)+1)).toNat)) (.lst ((L.map prD).take (cell%((L.length:Int)+1)).toNat))=.ok (.lst ((fR cell share one other).map prD)):=by
  rw[pT (by rw[iP,dF,hL];lia),hw,<-xY]
  unfold eZ
  rw[hL]
 have e14:L.length<=big:=by lia
 simp[zZ,e1,e2,e3,e9,e10,e11,e12,e14]
noncomputable def eN(f:Nat->Int):D:=.lst [.int (f 0),.int (f 1),.int (f 2),.int (f 3),.int (f 4),.int (f 5),.int (f 6),.int (f 7)]
theorem MP(n:Nat)(ns:List Int)(at_:Nat)(env:Nv):aU (bE T (aA T dfs (n+1)) 1 [0,1] (.one 0) oH (.con (.bl true)) (.v (.lst (ns.map D.int))::.v (.int at_)::env)) (cU 0 8)=.ok [.int (bZ ns at_),.int (bZ ns (at_+1)),.int (bZ ns (at_+2)),.int (bZ ns (at_+3)),.int (bZ ns (at_+4)),.int (bZ ns (at_+5)),.int (bZ ns (at_+6)),.int (bZ ns (at_+7))]:=by
 have e:∀xs:List Nat,aU (bE T (aA T dfs (n+1)) 1 [0,1] (.one 0) oH (.con (.bl true)) (.v (.lst (ns.map D.int))::.v (.int at_)::env)) (xs.map λj:Nat=>D.int j)=.ok (xs.map λj:Nat=>D.int (bZ ns (at_+j))):=by
  intro xs
  induction xs with
  |nil=>rfl
  |cons x r ih=>
   have c:=uB n ns (at_+x)
   rw[show((at_+x:Nat):Int)=(at_:Int)+(x:Int) by push_cast;rfl]at c
   rw[aG,aU,ih]
   simp[bE,Tr.bT,oH,c]
 have e2:cU 0 8=(aI 8).map λj:Nat=>D.int j:=by rw[jD];simp
 rw[e2,e]
 rfl
theorem FW(n:Nat)(f:Nat->Int)(a b:Sl)(env:Nv):∀xs:List Nat,(∀k∈xs,k<1000)->aU (bE T (aA T dfs (n+2)) 1 [2] (.one 0) AA (.con (.bl true)) (a::b::.v (eN f)::env)) (xs.map λj:Nat=>D.int j)=.ok (xs.map λk=>ent (qR (f 2) (f 0) k))
 |[],_=>rfl
 |x::r,h=>by
  have c:=ML n (f 2) (f 0) x (h x bA)
  rw[aG,aU,FW n f a b env r λk hk=>h k (aY _ hk)]
  simp[bE,Tr.bT,AA,eN,c]
theorem FX(n:Nat)(f:Nat->Int)(a b:Sl)(env:Nv):∀xs:List Nat,(∀k∈xs,k<1000)->aU (bE T (aA T dfs (n+2)) 1 [2] (.one 0) AB (.con (.bl true)) (a::b::.v (eN f)::env)) (xs.map λj:Nat=>D.int j)=.ok (xs.map λk=>ent (qS (f 3) (f 4) k))
 |[],_=>rfl
 |x::r,h=>by
  have c:=MM n (f 3) (f 4) x (h x bA)
  rw[aG,aU,FX n f a b env r λk hk=>h k (aY _ hk)]
  simp[bE,Tr.bT,AB,eN,c]
noncomputable def mC(base:Int)(many:Nat):Nat->List Int->List (Str×List D)
 |_,[]=>[]
 |j,c::r=>qT c base j many::mC base many (j+1) r
theorem FY(n:Nat)(f:Nat->Int)(many:Nat)(hm:many<=8)(a0 a1 a4 a5 a9 a10 a11 a12:Sl):∀(cs:List Int)(j:Nat)(acc:List D)(x y:Sl),j+cs.length<1000->acc.length+cs.length<1000 ->
 ∃x' y',bH (bJ T (aA T dfs (n+2)) (.many [7,8]) qL) (bX j (cs.map D.int)) [a0,a1,.v (eN f),.v (.int many),a4,a5,.o (.lst acc),x,y,a9,a10,a11,a12] =
  .ok (.nx [a0,a1,.v (eN f),.v (.int many),a4,a5,.o (.lst (acc++(mC (f 5) many j cs).map ent)),x',y',a9,a10,a11,a12])
 |[],j,acc,x,y,_,_=>⟨x,y,by simp[mC,bX,pQ]⟩
 |c::r,j,acc,x,y,h1,h2=>by
  rw[aW]at h1 h2
  have hb:=bI
  have e0:=MN n c (f 5) j many (by lia) hm
  have e1:acc.length<big:=by lia
  have e:bJ T (aA T dfs (n+2)) (.many [7,8]) qL (.tup [.int j,.int c]) [a0,a1,.v (eN f),.v (.int many),a4,a5,.o (.lst acc),x,y,a9,a10,a11,a12] =
   .ok (.nx [a0,a1,.v (eN f),.v (.int many),a4,a5,.o (.lst (acc++[ent (qT c (f 5) j many)])),.v (.int j),.v (.int c),a9,a10,a11,a12]):=by
   simp[bJ,qL,eN,e0,e1]
  obtain⟨x',y',e2⟩:=FY n f many hm a0 a1 a4 a5 a9 a10 a11 a12 r (j+1) (acc++[ent (qT c (f 5) j many)]) (.v (.int j)) (.v (.int c)) (by lia) (by simp;lia)
  refine⟨x',y',?_⟩
  rw[aG,bX,dY e,show(j:Int)+1=((j+1:Nat):Int) by push_cast;rfl,e2,mC,aG,dG]
  rfl
noncomputable def mD(cell:Int)(p:Nat×Nat):Nat×Nat×Nat:=(p.1,p.2,(aF cell (p.2+9*p.1)%1000000000).toNat)
noncomputable def lkD(l:Nat×Nat×Nat):D:=.tup [.int l.1,.int l.2.1,.int l.2.2]
theorem FZ(n:Nat)(f:Nat->Int)(a0 a1 a3 a4 a5 a6 a7 a8 a12:Sl):∀(ps:List (Nat×Nat))(acc:List D)(x y:Sl),(∀p∈ps,p.1<100/\p.2<100)->acc.length+ps.length<1000 ->
 ∃x' y',bH (bJ T (aA T dfs (n+2)) (.many [10,11]) qM) (ps.map prD) [a0,a1,.v (eN f),a3,a4,a5,a6,a7,a8,.o (.lst acc),x,y,a12] =
  .ok (.nx [a0,a1,.v (eN f),a3,a4,a5,a6,a7,a8,.o (.lst (acc++(ps.map (mD (f 6))).map lkD)),x',y',a12])
 |[],acc,x,y,_,_=>⟨x,y,by simp[pQ]⟩
 |p::r,acc,x,y,h1,h2=>by
  rw[aW]at h2
  have hb:=bI
  have hp:=h1 p bA
  have e0:=gN (n+1) (f 6) ((p.2:Int)+9*(p.1:Int)) (by lia)
  have e1:acc.length<big:=by lia
  have r1:=uF (f 6) ((p.2:Int)+9*(p.1:Int))
  have e3:D.bin .Mult (.int 9) (.int (p.1:Int))=.ok (.int (9*(p.1:Int))):=lZ (.inl (by decide))
  have e4:((aF (f 6) ((p.2:Int)+9*(p.1:Int))%1000000000).toNat:Int)=aF (f 6) ((p.2:Int)+9*(p.1:Int))%1000000000:=by lia
  have e:bJ T (aA T dfs (n+2)) (.many [10,11]) qM (prD p) [a0,a1,.v (eN f),a3,a4,a5,a6,a7,a8,.o (.lst acc),x,y,a12] =
   .ok (.nx [a0,a1,.v (eN f),a3,a4,a5,a6,a7,a8,.o (.lst (acc++[lkD (mD (f 6) p)])),.v (.int p.1),.v (.int p.2),a12]):=by
   simp[bJ,qM,eN,prD,e0,e1,e3,lkD,mD,e4]
  obtain⟨x',y',e2⟩:=FZ n f a0 a1 a3 a4 a5 a6 a7 a8 a12 r (acc++[lkD (mD (f 6) p)]) (.v (.int p.1)) (.v (.int p.2)) (λq hq=>h1 q (aY _ hq)) (by simp;lia)
  refine⟨x',y',?_⟩
  rw[aG,dY e,e2,aG,aG,dG]
  rfl
noncomputable def bP(c:Int):Nat:=(c%7).toNat+(if c/7%8=5/\c%7=6 then 2 else 0)
theorem AQ(c:Int):bP c<=8:=by unfold bP;split<;>lia
noncomputable def fV(ns:List Int)(at_ j:Nat):Int:=bZ ns (at_+j)
noncomputable def oJ(f:Nat->Int):List (Str×List D):=(aI (bP (f 1))).map λk=>qR (f 2) (f 0) k
noncomputable def kA(f:Nat->Int):List (Str×List D):=(aI (f 1/56%7).toNat).map λk=>qS (f 3) (f 4) k
noncomputable def kB(f:Nat->Int):List (Nat×Nat×Nat):=(fR (f 6) 3 (f 1/56%7).toNat (bP (f 1))).map (mD (f 6))
noncomputable def mF(f:Nat->Int):List (Nat×Nat):=fR (f 7) 2 (bP (f 1)) (f 1/56%7).toNat
noncomputable def uG(f:Nat->Int)(cs:List Int):List (Str×List D):=mC (f 5) (bP (f 1)) 0 cs
noncomputable def AR(f:Nat->Int)(cs:List Int):D:=.tup [.tup ((oJ f).map ent),.tup ((kA f).map ent),.tup ((uG f cs).map ent),.tup ((kB f).map lkD),.tup ((mF f).map prD)]
theorem AS{one:Nat}{p:Nat×Nat}(h:p∈fR cell share one other):p.1<one/\p.2<other:=by
 unfold fR prs at h
 rw[xX,cN]at h
 obtain⟨k,hk,rfl⟩:=h
 have hk:=(dW.mp hk).1
 rw[kC]at hk
 have ho:0<other:=by
  rcases Nat.eq_zero_or_pos other with z|z
  ·rw[z]at hk;simp at hk
  ·exact z
 exact⟨(Nat.div_lt_iff_lt_mul ho).mpr hk,Nat.mod_lt _ ho⟩
theorem AU{one:Nat}:(fR cell share one other).length<=one*other:=by
 unfold fR
 rw[(tK _ _).length_eq]
 have:=FU cell share other (aI (one*other))
 rwa [eS]at this
theorem F3{T:Tab}{cf:Nat->List D->Res D}{a r:S}{e e1:Nv}(h:exS T cf a e=.ok (.nx e1)):exS T cf (.cons a r) e=exS T cf r e1:=by rw[D8,h];rfl
theorem MQ(n:Nat)(ns:List Int)(at_:Nat)(hn:ns.length<=63)(ha:at_<=20):aA T dfs (n+3) 54 [.lst (ns.map D.int),.int at_]=.ok (AR (fV ns at_) ((ns.drop (at_+8)).take 9)):=by
 refine aJ (k:=false) rfl rfl rfl ?_
 have hb:=bI
 have e1:=λenv=>MP (n+1) ns at_ env
 have e1':∀env,aU (bE T (aA T dfs (n+2)) 1 [0,1] (.one 0) oH (.con (.bl true)) (.v (.lst (ns.map D.int))::.v (.int at_)::env)) (cU 0 8)=.ok [.int (fV ns at_ 0),.int (fV ns at_ 1),.int (fV ns at_ 2),.int (fV ns at_ 3),.int (fV ns at_ 4),.int (fV ns at_ 5),.int (fV ns at_ 6),.int (fV ns at_ 7)]:=e1
 clear e1
 have e0:jB (.int 8)=.ok (cU 0 8):=lR (n:=8) (by lia)
 generalize hf:fV ns at_=f at *
 have hm:=AQ (f 1)
 have hp:(f 1/56%7).toNat<=6:=by lia
 have e2:jB (.int (bP (f 1):Int))=.ok ((aI (bP (f 1))).map λj:Nat=>D.int j):=by
  rw[lR (by lia),jD];simp
 have e3:jB (.int (f 1/56%7))=.ok ((aI (f 1/56%7).toNat).map λj:Nat=>D.int j):=by
  have h:=lR (n:=(f 1/56%7).toNat) (by lia)
  rw[rL (by lia)]at h
  rw[h,jD];simp
 have e4:=λa b env=>FW n f a b env (aI (bP (f 1))) λk hk=>by rw[kC]at hk;lia
 have e5:=λa b env=>FX n f a b env (aI (f 1/56%7).toNat) λk hk=>by rw[kC]at hk;lia
 have e6:=FV n (f 6) 3 (f 1/56%7).toNat (bP (f 1)) (by lia) (by lia) (by lia)
 have e7:=FV n (f 7) 2 (bP (f 1)) (f 1/56%7).toNat (by lia) (by lia) (by lia)
 have hc:(ns.drop (at_+8)).take 9=(ns.drop (at_+8)).take 9:=rfl
 have e9:cut (ns.map D.int) (some ((at_:Int)+8)) (some ((at_:Int)+17))=((ns.drop (at_+8)).take 9).map D.int:=by
  unfold cut sIx
  simp only[]
  rw[if_neg (by lia),if_neg (by lia),mO,rJ,aD]
  by_cases q:at_+8<=ns.length
  ·rw[show((at_:Int)+8).toNat=at_+8 by lia,show((at_:Int)+17).toNat=at_+17 by lia,lE q]
   by_cases q2:at_+17<=ns.length
   ·rw[lE q2,show at_+17-(at_+8)=9 by lia]
   ·rw[Aj (by lia),kD (by simp),kD (by simp;lia)]
  ·rw[show((at_:Int)+8).toNat=at_+8 by lia,PH (i:=at_+8) (by simp;lia),PH (by rw[aD];lia)]
   simp
 generalize hC:(ns.drop (at_+8)).take 9=C at *
 have hCl:C.length<=9:=by rw[<-hC,dF];lia
 have e10:=λa0 a1 a4 a5 a9 a10 a11 a12=>FY n f (bP (f 1)) hm a0 a1 a4 a5 a9 a10 a11 a12 C 0 [] .no .no (by lia) (by simp;lia)
 have e11:∀a0 a1 a3 a4 a5 a6 a7 a8 a12,_:=λa0 a1 a3 a4 a5 a6 a7 a8 a12=>FZ n f a0 a1 a3 a4 a5 a6 a7 a8 a12 (fR (f 6) 3 (f 1/56%7).toNat (bP (f 1))) [] .no .no (λp hp'=>by have:=AS hp';lia) (by
  have h1:=AU (cell:=f 6) (share:=3) (one:=(f 1/56%7).toNat) (other:=bP (f 1))
  have h2:(f 1/56%7).toNat*bP (f 1)<=6*8:=rK hp hm
  simp;lia)
 have z10:∀a0 a1 a4 a5 a9 a10 a11 a12,∃x' y',bH (bJ T (aA T dfs (n+2)) (.many [7,8]) qL) (bX 0 (C.map D.int)) [a0,a1,.v (eN f),.v (.int (bP (f 1))),a4,a5,.o (.lst []),.no,.no,a9,a10,a11,a12]=.ok (.nx [a0,a1,.v (eN f),.v (.int (bP (f 1))),a4,a5,.o (.lst ((uG f C).map ent)),x',y',a9,a10,a11,a12]):=e10
 clear e10
 have e12:(if f 1/7%8=5/\f 1%7=6 then(2:Int)else 0)+f 1%7=(bP (f 1):Int):=by
  unfold bP;split<;>lia
 have e13:D.bin .Mult (.int 2) (.int 1)=.ok (.int 2):=rfl
 have e14:D.bin .Mult (.int 2) (.int 0)=.ok (.int 0):=rfl
 have hl1:bP (f 1)<=big:=by lia
 have hl2:(f 1/56%7).toNat<=big:=by lia
 have m0:Nat->True:=λ_=>trivial
 obtain⟨x1,y1,z10⟩:=z10 (.v (.lst (ns.map D.int))) (.v (.int at_)) (.v (.tup ((oJ f).map ent))) (.v (.tup ((kA f).map ent))) .no .no .no .no
 obtain⟨x2,y2,z11⟩:=e11 (.v (.lst (ns.map D.int))) (.v (.int at_)) (.v (.int (bP (f 1)))) (.v (.tup ((oJ f).map ent))) (.v (.tup ((kA f).map ent))) (.o (.lst ((uG f C).map ent))) x1 y1 .no
 have p1:(oJ f).map ent=(aI (bP (f 1))).map λk=>ent (qR (f 2) (f 0) k):=by unfold oJ;rw[bB];rfl
 have p2:(kA f).map ent=(aI (f 1/56%7).toNat).map λk=>ent (qS (f 3) (f 4) k):=by unfold kA;rw[bB];rfl
 have p3:((kA f).map ent).length=(f 1/56%7).toNat:=by rw[p2];simp
 rw[<-p1]at e4
 rw[<-p2]at e5
 simp only[eN]at e4 e5 z10 z11
 have h8:8<=big:=by lia
 have e6':aA T dfs (n+2) 53 [.int (f 6),.int (((kA f).map ent).length:Nat),.int (bP (f 1)),.int 3]=.ok (.lst ((fR (f 6) 3 (f 1/56%7).toNat (bP (f 1))).map prD)):=by rw[p3];exact e6
 have e7':aA T dfs (n+2) 53 [.int (f 7),.int (bP (f 1)),.int (((kA f).map ent).length:Nat),.int 2]=.ok (.lst ((mF f).map prD)):=by rw[p3];exact e7
 rw[aD]at e6' e7'
 have z11':bH (bJ T (aA T dfs (n+2)) (.many [10,11]) qM) ((fR (f 6) 3 (f 1/56%7).toNat (bP (f 1))).map prD) _=.ok (.nx _):=z11
 rw[eF,show(fR (f 6) 3 (f 1/56%7).toNat (bP (f 1))).map (mD (f 6))=kB f from rfl]at z11'
 unfold AC
 have s1:exS T (aA T dfs (n+2)) (.asg (.one 2) (.comp 1 [0,1] (.one 0) oH (.rng (.con (.int 8))) (.con (.bl true)))) [.v (.lst (ns.map D.int)),.v (.int at_),.no,.no,.no,.no,.no,.no,.no,.no,.no,.no,.no]=.ok (.nx [.v (.lst (ns.map D.int)),.v (.int at_),.v (.lst [.int (f 0),.int (f 1),.int (f 2),.int (f 3),.int (f 4),.int (f 5),.int (f 6),.int (f 7)]),.no,.no,.no,.no,.no,.no,.no,.no,.no,.no]):=by
  simp[e0,e1',h8]
 rw[show [D.lst (ns.map D.int),D.int at_].map Sl.v++aZ (13-2) Sl.no=[.v (.lst (ns.map D.int)),.v (.int at_),.no,.no,.no,.no,.no,.no,.no,.no,.no,.no,.no]from rfl,F3 s1]
 have v1:∀env:Nv,env.at 2=.v (.lst [.int (f 0),.int (f 1),.int (f 2),.int (f 3),.int (f 4),.int (f 5),.int (f 6),.int (f 7)])->evE T (aA T dfs (n+2)) (.bin .Add (.bin .Mod (.ix (.var 2) (.con (.int 1))) (.con (.int 7))) (.bin .Mult (.con (.int 2)) (.bt .int (.acons (.and (.cmp .Eq (.bin .Mod (.bin .FloorDiv (.ix (.var 2) (.con (.int 1))) (.con (.int 7))) (.con (.int 8))) (.con (.int 5))) (.cmp .Eq (.bin .Mod (.ix (.var 2) (.con (.int 1))) (.con (.int 7))) (.con (.int 6)))) .anil)))) env=.ok (.int (bP (f 1))):=by
  intro env h
  have w:f 1%7+(if f 1/7%8=5/\f 1%7=6 then(2:Int)else 0)=(bP (f 1):Int):=by unfold bP;split<;>lia
  rw[<-w]
  by_cases q1:f 1/7%8=5
  ·by_cases q2:f 1%7=6
   ·simp[h,q1,q2,e13]
    rfl
   ·have q3:(f 1%7==6)=false:=by simpa using q2
    simp[h,q1,q2,q3,b2z]
  ·simp[h,q1,b2z]
 have s2:exS T (aA T dfs (n+2)) (.asg (.one 3) (.bin .Add (.bin .Mod (.ix (.var 2) (.con (.int 1))) (.con (.int 7))) (.bin .Mult (.con (.int 2)) (.bt .int (.acons (.and (.cmp .Eq (.bin .Mod (.bin .FloorDiv (.ix (.var 2) (.con (.int 1))) (.con (.int 7))) (.con (.int 8))) (.con (.int 5))) (.cmp .Eq (.bin .Mod (.ix (.var 2) (.con (.int 1))) (.con (.int 7))) (.con (.int 6)))) .anil))))) [.v (.lst (ns.map D.int)),.v (.int at_),.v (.lst [.int (f 0),.int (f 1),.int (f 2),.int (f 3),.int (f 4),.int (f 5),.int (f 6),.int (f 7)]),.no,.no,.no,.no,.no,.no,.no,.no,.no,.no]=.ok (.nx [.v (.lst (ns.map D.int)),.v (.int at_),.v (.lst [.int (f 0),.int (f 1),.int (f 2),.int (f 3),.int (f 4),.int (f 5),.int (f 6),.int (f 7)]),.v (.int (bP (f 1))),.no,.no,.no,.no,.no,.no,.no,.no,.no]):=by
  rw[D9,v1 _ rfl];rfl
 rw[F3 s2]
 clear s1 s2 v1
 simp[e2,e3,e4,e5,hl1,hl2,e9,jT,z10,e6',e7',z11',AR]
noncomputable def hdG:S->S
 |.cons _ (.cons _ (.cons a _))=>a
 |x=>x
theorem MR(n:Nat)(P:List Part)(Q:List Player)(X Y Z:D)(hv:∀p∈P,(aH p.voice).length=1)(k:Nat)(hk:k<P.length) :
 aU (dJ T (aA T dfs n) (.one 0) FB FA [.no,.v (.int k),.v (.tup [.tup (P.map Part.enc),.tup (Q.map Player.enc),X,Y,Z])]) ((aI Q.length).map aL)=.ok ((kQ P Q k).map aL):=by
 refine tF aL _ ?_
 intro j hj
 have hj:j<Q.length:=by simpa using hj
 have e1:=sY (aR hk)
 have e2:=ED (aR hj)
 have e3:=Lk (p:=P[k]) (q:=Q[j]) (hv _ (jH hk))
 rw[<-EF hk hj]at e3
 have h0:D.ix (.tup [.tup (P.map Part.enc),.tup (Q.map Player.enc),X,Y,Z]) (.int 0)=.ok (.tup (P.map Part.enc)):=rfl
 have h1:D.ix (.tup [.tup (P.map Part.enc),.tup (Q.map Player.enc),X,Y,Z]) (.int 1)=.ok (.tup (Q.map Player.enc)):=rfl
 have e4:=EC (s:=P[k])
 have e5:=EB (s:=Q[j])
 unfold aL
 generalize D.tup [.tup (P.map Part.enc),.tup (Q.map Player.enc),X,Y,Z]=BK at *
 generalize P[k].enc=pk at *
 generalize Q[j].enc=qj at *
 generalize nZ P Q k j=c at e3⊢
 cases c with
 |true=>rw[if_pos rfl];lk
 |false=>rw[if_neg bR];lk
theorem MS(n:Nat)(P:List Part)(Q:List Player)(X Y Z:D)(cell:Int)(hp:P.length<=8)(hq:Q.length<=6)(hv:∀p∈P,(aH p.voice).length=1)(k:Nat)(hk:k<P.length)(acc:List D)(ha:acc.length<1000)(x3 x4 x5:Sl) :
 ∃o:Option Nat,(∀j,o=some j->j<Q.length)/\bJ T (aA T dfs (n+1)) (.one 3) qN (aL k) [.v (.tup [.tup (P.map Part.enc),.tup (Q.map Player.enc),X,Y,Z]),.v (.int cell),.o (.lst acc),x3,x4,x5] =
  .ok (.nx [.v (.tup [.tup (P.map Part.enc),.tup (Q.map Player.enc),X,Y,Z]),.v (.int cell),.o (.lst (acc++[aT o])),.v (.int k),.v (.int (aF cell k)),.v (.lst ((kQ P Q k).map aL))]):=by
 have hb:=bI
 have rq:=nT (n:=Q.length) (by lia)
 have e1:=gN n cell k (by lia)
 have e2:=MR (n+1) P Q X Y Z hv k hk
 have e3:((aI Q.length).map aL).length<=big:=by rw[aD,eS];lia
 have e4:acc.length<big:=by lia
 have e5:=EH (eC Player.enc 29 (xZ 28) Q)
 have e6:=EI (eC aL 29 (EG 29) (kQ P Q k))
 have h1:D.ix (.tup [.tup (P.map Part.enc),.tup (Q.map Player.enc),X,Y,Z]) (.int 1)=.ok (.tup (Q.map Player.enc)):=rfl
 have ln:Bt.run .len [.tup (Q.map Player.enc)]=.ok (.int (Q.length:Int)):=by rw[nL,aD]
 have la:Bt.run .len [.lst ((kQ P Q k).map aL)]=.ok (.int ((kQ P Q k).length:Int)):=by rw[xH,aD]
 have hA:∀j∈kQ P Q k,j<Q.length:=λj hj=>Lm hj
 have m9:D.bin .Mod (.int (aF cell k)) (.int 9)=.ok (.int (aF cell k%9)):=iH (by decide)
 have d9:D.bin .FloorDiv (.int (aF cell k)) (.int 9)=.ok (.int (aF cell k/9)):=xG ⟨by decide,by decide⟩
 generalize D.tup [.tup (P.map Part.enc),.tup (Q.map Player.enc),X,Y,Z]=BK at *
 generalize kQ P Q k=A at *
 generalize aF cell k/9=N9 at *
 generalize aF cell k%9=M9 at *
 generalize aF cell k=N at *
 generalize (aI Q.length).map aL=RG at *
 have go:∀r,exS T (aA T dfs (n+1)) (.cons (hdG qN) .nil) [.v BK,.v (.int cell),.o (.lst acc),.v (.int k),.v (.int N),.v (.lst (A.map aL))]=r->bJ T (aA T dfs (n+1)) (.one 3) qN (aL k) [.v BK,.v (.int cell),.o (.lst acc),x3,x4,x5]=r:=by
  intro r h
  refine Dk (e1:=[.v BK,.v (.int cell),.o (.lst acc),.v (.int k),x4,x5]) rfl ?_
  refine dZ (o1:=.nx [.v BK,.v (.int cell),.o (.lst acc),.v (.int k),.v (.int N),x5]) (by lk) (eA (dZ (o1:=.nx [.v BK,.v (.int cell),.o (.lst acc),.v (.int k),.v (.int N),.v (.lst (A.map aL))]) ?_ (eA h)))
  generalize Q.map Player.enc=QE at *
  lk
 dsimp only[hdG]at go
 by_cases c1:M9=4\/Q=[]
 ·have hor:evE T (aA T dfs (n+1)) (.or (.cmp .Eq (.bin .Mod (.var 4) (.con (.int 9))) (.con (.int 4))) (.cmp .Eq (.ix (.var 0) (.con (.int 1))) (.tup .anil))) [.v BK,.v (.int cell),.o (.lst acc),.v (.int k),.v (.int N),.v (.lst (A.map aL))]=.ok (.bl true):=by
   rcases c1 with h|h
   ·subst h;lk
   ·have e5':D.cmp .Eq (.tup (Q.map Player.enc)) (.tup [])=.ok (.bl true):=by rw[e5,h];rfl
    generalize Q.map Player.enc=QE at *
    cases h4:(M9==4)with
    | true => have h5 : D.cmp .Eq (.int M9) (.int 4) = .ok (.bl true) := by rw [pP, h4]
              lk
    |false=>lk
  exact⟨none,by simp,go _ (by lk)⟩
 ·rw[not_or]at c1
  have c2':(Q.map Player.enc).isEmpty=false:=by simp[c1.2]
  have hL:0<(Q.length:Int):=by have:=lG.mpr c1.2;lia
  have m1:D.bin .Mod (.int N9) (.int (Q.length:Int))=.ok (.int (N9%(Q.length:Int))):=iH hL
  rw[c2']at e5
  have q4:(M9==4)=false:=by simp[c1.1]
  have l4:D.cmp .Eq (.int M9) (.int 4)=.ok (.bl false):=by rw[pP,q4]
  by_cases c3:M9=5\/A=[]
  ·refine⟨some (N9%(Q.length:Int)).toNat,?_,go _ ?_⟩
   ·intro j hj
    cases hj
    have:=jI N9 hL
    have:=fH N9 (Gv hL)
    lia
   ·have e7:(((N9%(Q.length:Int)).toNat:Nat):Int)=N9%(Q.length:Int):=rL (fH _ (Gv hL))
    rw[EE,e7]
    have hor:evE T (aA T dfs (n+1)) (.or (.cmp .Eq (.bin .Mod (.var 4) (.con (.int 9))) (.con (.int 5))) (.cmp .Eq (.var 5) (.lst .anil))) [.v BK,.v (.int cell),.o (.lst acc),.v (.int k),.v (.int N),.v (.lst (A.map aL))]=.ok (.bl true):=by
     rcases c3 with h|h
     ·subst h;lk
     ·have e6':D.cmp .Eq (.lst (A.map aL)) (.lst [])=.ok (.bl true):=by rw[e6,h];rfl
      generalize A.map aL=AE at *
      cases h4:(M9==5)with
      | true => have h5 : D.cmp .Eq (.int M9) (.int 5) = .ok (.bl true) := by rw [pP, h4]
                lk
      |false=>lk
    generalize Q.map Player.enc=QE at *
    generalize A.map aL=AE at *
    lk
  ·rw[not_or]at c3
   have c4:(A.map aL).isEmpty=false:=by simp[c3.2]
   rw[c4]at e6
   have q5:(M9==5)=false:=by simp[c3.1]
   have l5:D.cmp .Eq (.int M9) (.int 5)=.ok (.bl false):=by rw[pP,q5]
   have hM:0<(A.length:Int):=by have:=lG.mpr c3.2;lia
   have m2:D.bin .Mod (.int N9) (.int (A.length:Int))=.ok (.int (N9%(A.length:Int))):=iH hM
   have i1:=jI N9 hM
   have i2:=fH N9 (Gv hM)
   have hlt:(N9%(A.length:Int)).toNat<A.length:=by lia
   refine⟨some (A[(N9%(A.length:Int)).toNat]),?_,go _ ?_⟩
   ·intro j hj
    cases hj
    exact hA _ (jH hlt)
   ·have e8:D.ix (.lst (A.map aL)) (.int (N9%(A.length:Int)))=.ok (aT (some (A[(N9%(A.length:Int)).toNat]))):=by
     refine Dd i2 ?_
     rw[cE,aR hlt];rfl
    generalize aT (some (A[(N9%(A.length:Int)).toNat]))=z at e8⊢
    generalize Q.map Player.enc=QE at *
    generalize A.map aL=AE at *
    lk
theorem F9(n:Nat)(P:List Part)(Q:List Player)(X Y Z:D)(cell:Int)(hp:P.length<=8)(hq:Q.length<=6)(hv:∀p∈P,(aH p.voice).length=1):∀(ks:List Nat),(∀k∈ks,k<P.length)->∀(acc:List D)(x3 x4 x5:Sl),acc.length+ks.length<1000 ->
 ∃cs:List (Option Nat),cs.length=ks.length/\(∀j,some j∈cs->j<Q.length)/\∃x3' x4' x5',bH (bJ T (aA T dfs (n+1)) (.one 3) qN) (ks.map aL) [.v (.tup [.tup (P.map Part.enc),.tup (Q.map Player.enc),X,Y,Z]),.v (.int cell),.o (.lst acc),x3,x4,x5] =
  .ok (.nx [.v (.tup [.tup (P.map Part.enc),.tup (Q.map Player.enc),X,Y,Z]),.v (.int cell),.o (.lst (acc++cs.map aT)),x3',x4',x5'])
 |[],_,acc,x3,x4,x5,_=>⟨[],rfl,by simp,x3,x4,x5,by simp[pQ]⟩
 |k::ks,hk,acc,x3,x4,x5,hl=>by
  rw[aW]at hl
  obtain⟨o,ho,e⟩:=MS n P Q X Y Z cell hp hq hv k (hk k bA) acc (by lia) x3 x4 x5
  obtain⟨cs,h1,h2,x3',x4',x5',e2⟩:=F9 n P Q X Y Z cell hp hq hv ks (λk' h'=>hk k' (aY _ h')) (acc++[aT o]) _ _ _ (by simp;lia)
  refine⟨o::cs,by simp[h1],?_,x3',x4',x5',?_⟩
  ·intro j hj
   rcases bL.mp hj with z|z
   ·exact ho j z.symm
   ·exact h2 j z
  ·rw[aG,dY e,e2,dG]
   rfl
theorem MT(n:Nat)(P:List Part)(Q:List Player)(X Y Z:D)(cell:Int)(hp:P.length<=8)(hq:Q.length<=6)(hv:∀p∈P,(aH p.voice).length=1) :
 ∃cs:List (Option Nat),cs.length=P.length/\(∀j,some j∈cs->j<Q.length)/\aA T dfs (n+2) 55 [.tup [.tup (P.map Part.enc),.tup (Q.map Player.enc),X,Y,Z],.int cell]=.ok (.lst (cs.map aT)):=by
 have rg:=nT (n:=P.length) (by lia)
 obtain⟨cs,h1,h2,x3,x4,x5,e⟩:=F9 n P Q X Y Z cell hp hq hv (aI P.length) (by simp) [] .no .no .no (by simp;lia)
 refine⟨cs,by simpa using h1,h2,aJ (k:=true) rfl rfl rfl ?_⟩
 simp[AD,rg,e]
noncomputable def AV(f:Nat->Int)(k:Nat):Part:=⟨cB (f 0) k,cH (kX (aF (f 2) k) (f 0)),bV (aF (f 2) k/4),bV (aF (f 2) (k+20))⟩
noncomputable def AW(f:Nat->Int)(k:Nat):Player:=⟨cB (f 4) k,jZ (aF (f 3) k),bV (aF (f 3) k/6)⟩
noncomputable def sceneR(base:Int)(many:Nat)(cell:Int)(k:Nat):Scene:=⟨cB base k,bV (aF cell k),bV (aF cell (k+20)),kY cell k many⟩
noncomputable def fS(base:Int)(many:Nat):Nat->List Int->List Scene
 |_,[]=>[]
 |j,c::r=>sceneR base many c j::fS base many (j+1) r
theorem F_(base:Int)(many:Nat):∀(cs:List Int)(j:Nat),(mC base many j cs).map ent=(fS base many j cs).map Scene.enc
 |[],_=>rfl
 |c::r,j=>by rw[mC,fS,aG,aG,F_ base many r (j+1)];rfl
theorem Fb(base:Int)(many:Nat):∀(cs:List Int)(j:Nat),(fS base many j cs).length=cs.length
 |[],_=>rfl
 |c::r,j=>by rw[fS,aW,aW,Fb base many r (j+1)]
theorem Fd(cell:Int)(k many:Nat):(kY cell k many).Nodup:=by
 unfold kY
 refine(tK _ _).nodup_iff.mpr ?_
 unfold iK
 exact rC.filter _ Ak
theorem Fe{k:Nat}(h:i∈kY cell k many):i<many:=by
 unfold kY at h
 rw[xX]at h
 unfold iK at h
 simpa using(dW.mp h).1
theorem Ff(base:Int)(many:Nat):∀(cs:List Int)(j:Nat)(s:Scene),s∈fS base many j cs->GoodScene many s
 |[],_,s,h=>by cases h
 |c::r,j,s,h=>by
  rw[fS]at h
  rcases bL.mp h with rfl|h
  ·exact⟨(iJ _).1,(iJ _).1,Fd _ _ _,λi hi=>Fe hi⟩
  ·exact Ff base many r (j+1) s h
structure Drawn(P:List Part)(Q:List Player)(S:List Scene):Prop where
 hp:P.length<=8
 hq:Q.length<=6
 hs:S.length<=9
 voice:∀p∈P,(aH p.voice).length=1
 good:∀s∈S,GoodScene P.length s
 dress:∀p∈P,0<=p.off/\0<=p.on
theorem MU(n:Nat)(P A B C:D)(ss:List Scene)(hl:ss.length<=24)(s t:Nat)(h:s<t)(ht:t<=ss.length):aA T dfs (n+1) 21 [.tup [P,A,.tup (ss.map Scene.enc),B,C],.int s,.int t]=.ok (.int (nS ss s t)):=by
 refine aJ (k:=true) rfl rfl rfl ?_
 have hs:s<ss.length:=by lia
 have e1:=kP (aR hs)
 have e2:D.sl (.tup (ss.map Scene.enc)) (some ((s:Int)+1)) (some (t:Int))=.ok (.tup (((ss.drop (s+1)).take (t-(s+1))).map Scene.enc)):=by
  have:=cut_nn (xs:=ss.map Scene.enc) (a:=s+1) (b:=t) (by simp;lia) (by simp;lia)
  rw[mO,rJ,<-this]
  push_cast
  rfl
 have e3:∀xs:List Scene,aU (dJ T (aA T dfs n) (.one 0) E5 (.con (.bl true)) [.no]) (xs.map Scene.enc)=.ok (xs.map (D.int∘Scene.both)):=λxs=>by
  rw[gE Scene.enc (λx=>some (D.int (Scene.both x))) (λx _=>by unfold Scene.both Scene.enc;lk),lH];rfl
 have e5:(((ss.drop (s+1)).take (t-(s+1))).map Scene.enc).length<=big:=by have:=bI;simp;lia
 have e7:nS ss s t=ss[s].pause+(((ss.drop (s+1)).take (t-(s+1))).map Scene.both).sum:=by unfold nS;simp[hs]
 rw[e7]
 have e3:=e3 ((ss.drop (s+1)).take (t-(s+1)))
 have e8:=LS (f:=Scene.both) (xs:=(ss.drop (s+1)).take (t-(s+1)))
 have e9:D.ix ss[s].enc (.int 2)=.ok (.int ss[s].pause):=by simp
 generalize ((ss.drop (s+1)).take (t-(s+1))).map (D.int∘Scene.both)=X at *
 generalize ((ss.drop (s+1)).take (t-(s+1))).map Scene.enc=X2 at *
 generalize ss[s].enc=se at *
 generalize ss.map Scene.enc=sd at *
 lk
theorem MV(n:Nat)(A S B C:D)(ps:List Part)(i j:Nat)(hi:i<ps.length)(hj:j<ps.length):aA T dfs (n+1) 22 [.tup [.tup (ps.map Part.enc),A,S,B,C],.int i,.int j]=.ok (.int (jU ps i j)):=by
 refine aJ (k:=true) rfl rfl rfl ?_
 have e1:=sY (aR hi)
 have e2:=sY (aR hj)
 have e3:=penc2 (s:=ps[i])
 have e4:=penc3 (s:=ps[j])
 rw[L7 hi hj]
 generalize ps[i].enc=x at *
 generalize ps[j].enc=y at *
 generalize ps.map Part.enc=pd at *
 lk
theorem Fg(n:Nat)(A B C:D)(ps:List Part)(ss:List Scene)(hl:ss.length<=24)(s i j:Nat)(hs:s<ss.length)(hi:i<ps.length)(hj:j<ps.length) :
 aA T dfs (n+2) 23 [.tup [.tup (ps.map Part.enc),A,.tup (ss.map Scene.enc),B,C],.int s,.int i,.int j]=.ok (eY (tD ps ss s i j)):=by
 have ct:=MV n A (.tup (ss.map Scene.enc)) B C ps i j hi hj
 have rg:=Dn (s:=s) (m:=ss.length) (by lia) (by lia)
 have tb:=λt=>MU n (.tup (ps.map Part.enc)) A B C ss hl s t
 have ln:=xM (f:=Scene.enc) (xs:=ss)
 have ssa:=λ(t:Nat) (h:t<ss.length)=>kP (aR h)
 have hx:D.ix (.tup [.tup (ps.map Part.enc),A,.tup (ss.map Scene.enc),B,C]) (T.glob 4)=.ok (.tup (ss.map Scene.enc)):=rfl
 generalize D.tup [.tup (ps.map Part.enc),A,.tup (ss.map Scene.enc),B,C]=BK at *
 generalize ss.map Scene.enc=sd at *
 have loop:=Dq (f:=bJ T (aA T dfs (n+1)) (.one 5) E8) (g:=tB ps ss s i j) (ts:=iA (s+1) (ss.length-(s+1)))
  (e:=[.v BK,.v (.int s),.v (.int i),.v (.int j),.v (.int (jU ps i j)),.no,.no])
  (I:=λe=>∃s5 s6,e=[.v BK,.v (.int s),.v (.int i),.v (.int j),.v (.int (jU ps i j)),s5,s6]) ⟨_,_,rfl⟩ (by
   rintro t ht e ⟨s5,s6,rfl⟩
   have ht':s<t/\t<ss.length:=by have:=Gp.mp ht;lia
   have e1:=ssa t ht'.2
   have e2:=tb t ht'.1 (by lia)
   have e3:D.ix ss[t].enc (.int 3)=.ok (.tup (aE ss[t].who)):=by simp
   have e4:=sX (i:=j) (ws:=ss[t].who)
   unfold tB aL
   rw[Dp ht'.2]
   generalize D.tup (aE ss[t].who)=wd at *
   generalize ss[t].enc=se at *
   generalize nS ss s t=bt at *
   cases c1:decide (j∈ss[t].who)with
   |true=>
    cases c2:decide (bt<jU ps i j)with
    |true=>
     rw[if_pos ⟨of_decide_eq_true c1,of_decide_eq_true c2⟩]
     dsimp only[Rz.enc]
     lk
    |false=>
     rw[if_neg (λz=>of_decide_eq_false c2 z.2)]
     exact⟨_,by lk,_,_,rfl⟩
   |false=>
    rw[if_neg (λz=>of_decide_eq_false c1 z.1)]
    exact⟨_,by lk,_,_,rfl⟩)
 refine aJ (k:=false) rfl rfl rfl ?_
 unfold tD
 cases hg:(iA (s+1) (ss.length-(s+1))).findSome? (tB ps ss s i j)with
 |some r=>
  rw[hg]at loop
  dsimp only at loop
  unfold eY
  lk
 |none=>
  rw[hg]at loop
  obtain⟨e',h1,s5,s6,rfl⟩:=loop
  unfold eY
  lk
theorem MW(n:Nat)(A B C:D)(ps:List Part)(ss:List Scene)(hl:ss.length<=24)(s i j:Nat)(hs:s<ss.length)(hi:i<ps.length)(hj:j<ps.length) :
 aA T dfs (n+3) 24 [.tup [.tup (ps.map Part.enc),A,.tup (ss.map Scene.enc),B,C],.int s,.int i,.int j]=.ok (eY (nU ps ss i j s)):=by
 have e1:=kP (aR hs)
 have e2:=Fg n A B C ps ss hl s i j hs hi hj
 have e3:=Fg n A B C ps ss hl s j i hs hj hi
 have e5:=sZ (s:=ss[s])
 have e6:=sX (i:=i) (ws:=ss[s].who)
 have e7:=sX (i:=j) (ws:=ss[s].who)
 have hx:D.ix (.tup [.tup (ps.map Part.enc),A,.tup (ss.map Scene.enc),B,C]) (T.glob 4)=.ok (.tup (ss.map Scene.enc)):=rfl
 refine aJ (k:=false) rfl rfl rfl ?_
 unfold nU
 rw[Dp hs]
 generalize D.tup [.tup (ps.map Part.enc),A,.tup (ss.map Scene.enc),B,C]=BK at *
 generalize ss.map Scene.enc=sd at *
 generalize ss[s].enc=se at *
 generalize D.tup (aE ss[s].who)=wd at *
 cases c1:decide (i∈ss[s].who)<;>cases c2:decide (j∈ss[s].who)
 ·rw[if_neg λz=>of_decide_eq_false c1 z.1,if_neg (of_decide_eq_false c1),if_neg (of_decide_eq_false c2)];unfold eY;lk
 ·rw[if_neg λz=>of_decide_eq_false c1 z.1,if_neg (of_decide_eq_false c1),if_pos (of_decide_eq_true c2)];lk
 ·rw[if_neg λz=>of_decide_eq_false c2 z.2,if_pos (of_decide_eq_true c1)];lk
 ·rw[if_pos ⟨of_decide_eq_true c1,of_decide_eq_true c2⟩];dsimp only[eY,Rz.enc];lk
theorem MX(n:Nat)(A B C:D)(ps:List Part)(ss:List Scene)(hl:ss.length<=24)(i j:Nat)(hi:i<ps.length)(hj:j<ps.length) :
 aA T dfs (n+4) 25 [.tup [.tup (ps.map Part.enc),A,.tup (ss.map Scene.enc),B,C],.int i,.int j]=.ok (eY (dM ps ss i j)):=by
 have rg:=nT (n:=ss.length) (by lia)
 have rf:=λs hs=>MW n A B C ps ss hl s i j hs hi hj
 have ln:=xM (f:=Scene.enc) (xs:=ss)
 have hx:D.ix (.tup [.tup (ps.map Part.enc),A,.tup (ss.map Scene.enc),B,C]) (T.glob 4)=.ok (.tup (ss.map Scene.enc)):=rfl
 generalize D.tup [.tup (ps.map Part.enc),A,.tup (ss.map Scene.enc),B,C]=BK at *
 generalize ss.map Scene.enc=sd at *
 have loop:=Dq (f:=bJ T (aA T dfs (n+3)) (.one 3) Ea) (g:=nU ps ss i j) (ts:=aI ss.length)
  (e:=[.v BK,.v (.int i),.v (.int j),.no,.no])
  (I:=λe=>∃s5 s6,e=[.v BK,.v (.int i),.v (.int j),s5,s6]) ⟨_,_,rfl⟩ (by
   rintro s ht e ⟨s5,s6,rfl⟩
   have e1:=rf s (kC.mp ht)
   unfold aL
   cases hg:nU ps ss i j s with
   |some r=>
    rw[hg]at e1
    have e2:D.isNon (eY (some r))=false:=by cases r<;>rfl
    have e3:(!D.isNon (eY (some r)))=true:=by rw[e2];rfl
    show _=Res.ok (Out.rt (eY (some r)) false)
    generalize eY (some r)=rd at *
    lk
   |none=>
    rw[hg]at e1
    unfold eY at e1
    exact⟨_,by lk,_,_,rfl⟩)
 refine aJ (k:=false) rfl rfl rfl ?_
 unfold dM
 cases hg:(aI ss.length).findSome? (nU ps ss i j)with
 |some r=>
  rw[hg]at loop
  dsimp only at loop
  unfold eY
  lk
 |none=>
  rw[hg]at loop
  obtain⟨e',h1,s5,s6,rfl⟩:=loop
  unfold eY
  lk
theorem AX(n:Nat)(A B C:D)(ps:List Part)(ss:List Scene)(hl:ss.length<=24)(hp:ps.length<=8) :
 aA T dfs (n+5) 26 [.tup [.tup (ps.map Part.enc),A,.tup (ss.map Scene.enc),B,C]]=.ok (.lst (((pairsOf ps.length).filter λp=>(dM ps ss p.1 p.2).isSome).map aB)):=by
 have rg:=nT (n:=ps.length) (by lia)
 have ro:=λi j=>MX n A B C ps ss hl i j
 have ln:=xM (f:=Part.enc) (xs:=ps)
 have hx:D.ix (.tup [.tup (ps.map Part.enc),A,.tup (ss.map Scene.enc),B,C]) (T.glob 2)=.ok (.tup (ps.map Part.enc)):=rfl
 generalize D.tup [.tup (ps.map Part.enc),A,.tup (ss.map Scene.enc),B,C]=BK at *
 generalize ps.map Part.enc=pd at *
 obtain⟨e',h1,s3,rfl⟩:=Dj (f:=bJ T (aA T dfs (n+4)) (.one 3) Ee)
  (λi e=>∃s3,e=[.v BK,.o (.lst (((gX ps.length i).filter λp=>(dM ps ss p.1 p.2).isSome).map aB)),.v (.int ps.length),s3])
  ((aI ps.length).map aL) [.v BK,.o (.lst []),.v (.int ps.length),.no] 0 ⟨_,rfl⟩ (by
   rintro i0 d e hd ⟨s3,rfl⟩
   rw[Ai]
   rw[cE]at hd
   cases hx2:(aI ps.length)[i0]? with
   |none=>rw[hx2]at hd;cases hd
   |some i=>
   rw[hx2]at hd
   cases hd
   have hi':=fE.mp hx2
   simp at hi'
   obtain⟨hi,rfl⟩:=hi'
   have rg2:=Dn (s:=i0) (m:=ps.length) (by lia) (by lia)
   have hc:aU (dJ T (aA T dfs (n+4)) (.one 0) Ed Ec [.no,.v (.int i0),.v BK]) ((iA (i0+1) (ps.length-(i0+1))).map aL) =
    .ok (((jE ps.length i0).filter λp=>(dM ps ss p.1 p.2).isSome).map aB):=by
    rw[gE aL (λj=>if(dM ps ss i0 j).isSome=true then some (aB (i0,j))else none) (by
     intro j hj
     have hj':=Gp.mp hj
     have e1:=ro i0 j hi (by lia)
     have e2:=L6 (o:=dM ps ss i0 j)
     have e3:(!D.isNon (eY (dM ps ss i0 j)))=(dM ps ss i0 j).isSome:=by rw[e2];cases dM ps ss i0 j<;>rfl
     unfold aL aB
     cases hr:(dM ps ss i0 j).isSome with
     |false=>rw[hr]at e3;rw[if_neg bR];lk
     |true=>rw[hr]at e3;rw[if_pos rfl];lk)]
    refine congrArg Res.ok ?_
    unfold jE
    generalize iA (i0+1) (ps.length-(i0+1))=l
    induction l with
    |nil=>rfl
    |cons j r ih=>
     rw[mL,aG,Gn]
     dsimp only
     rw[ih]
     cases (dM ps ss i0 j).isSome<;>rfl
   have b1:(((gX ps.length i0).filter λp=>(dM ps ss p.1 p.2).isSome).map aB).length+(((jE ps.length i0).filter λp=>(dM ps ss p.1 p.2).isSome).map aB).length<=big:=by
    have h1:=xO ps.length i0
    have h2:(jE ps.length i0).length<=8:=by rw[jE,aD,Ov];lia
    have h3:=lF (λp:Nat×Nat=>(dM ps ss p.1 p.2).isSome) (gX ps.length i0)
    have h4:=lF (λp:Nat×Nat=>(dM ps ss p.1 p.2).isSome) (jE ps.length i0)
    have h5:i0*ps.length<=8*8:=rK (by lia) hp
    have:=bI
    rw[aD,aD]
    lia
   have b2:((iA (i0+1) (ps.length-(i0+1))).map aL).length<=big:=by have:=bI;simp;lia
   rw[gX,List.filter_append,cS]
   generalize ((gX ps.length i0).filter λp=>(dM ps ss p.1 p.2).isSome).map aB=p1 at *
   generalize ((jE ps.length i0).filter λp=>(dM ps ss p.1 p.2).isSome).map aB=p2 at *
   exact⟨_,.inl (by lk),_,rfl⟩)
 refine aJ (k:=true) rfl rfl rfl ?_
 rw[aD,eS,Ai]at h1
 unfold pairsOf
 lk
theorem MY(c k:Int):(aH (cB c k)).length≠6:=by
 rw[kU,uC]
 unfold cJ
 split
 ·simp
 ·split
  ·simp
  ·split<;>simp
theorem Fh(base:Int)(many:Nat):∀(cs:List Int)(j:Nat)(s:Scene),s∈fS base many j cs->OkScene many s/\(aH s.name).length≠6/\bS s.name
 |[],_,s,h=>by cases h
 |c::r,j,s,h=>by
  rw[fS]at h
  rcases bL.mp h with rfl|h
  ·have h1:=iJ (aF c j)
   have h2:=iJ (aF c (j+20))
   exact⟨⟨⟨h1.1,by show bV (aF c j)<=_;lia⟩,⟨h2.1,by show bV (aF c (j+20))<=_;lia⟩,Fd _ _ _,λi hi=>Fe hi⟩,MY _ _,qQ _ _⟩
  ·exact Fh base many r (j+1) s h
theorem Fj(base:Int)(many:Nat):∀(cs:List Int)(j:Nat),j+cs.length<=26->((fS base many j cs).map Scene.name).Nodup/\∀x∈(fS base many j cs).map Scene.name,∃k:Nat,j<=k/\k<j+cs.length/\x=cB base k
 |[],_,_=>⟨by simp[fS],λx h=>by simp[fS]at h⟩
 |c::r,j,h=>by
  rw[aW]at h
  obtain⟨h1,h2⟩:=Fj base many r (j+1) (by lia)
  rw[fS,aG]
  refine⟨dP.mpr ⟨λhx=>?_,h1⟩,λx hx=>?_⟩
  ·obtain⟨k,k1,k2,e⟩:=h2 _ hx
   have e:cB base j=cB base k:=e
   have:=FN ⟨by lia,by lia⟩ ⟨by lia,by lia⟩ e
   lia
  ·rcases bL.mp hx with rfl|hx
   ·exact⟨j,aN _,by rw[aW];lia,rfl⟩
   ·obtain⟨k,k1,k2,e⟩:=h2 x hx
    exact⟨k,by lia,by rw[aW];lia,e⟩
theorem Fl{S:List Scene}(hm:many<=8)(g:∀s∈S,OkScene many s):∀x∈S,x.who.length<100:=λx hx=>by
 have:=pU (g x hx).nd (g x hx).lt
 lia
theorem AY(n:Nat)(g w:Str)(hw:w.length<=big):aA T dfs (n+1) 0 [.str g,.str w]=.ok (.bl ((aH w).all (dN g))):=by
 refine aJ (k:=false) rfl rfl rfl ?_
 have e:∀xs:List Nat,aU (bE T (aA T dfs n) 1 [0] (.one 0) yK (.con (.bl true)) [.v (.str g),.v (.str w)]) (xs.map λc=>D.str (cH c))=.ok (xs.map λc=>D.bl (dN g c)):=by
  intro xs
  induction xs with
  |nil=>rfl
  |cons x r ih=>
   rw[aG,aU,ih]
   simp[bE,Tr.bT,yK]
 have e2:(aH w).length<=big:=by rw[<-fM];exact hw
 have e4:=xT (dN g) (aH w)
 simp[yL,e,e2,e4]
theorem MZ(n:Nat)(ns:List Nat)(h:ns.length<1000)(hn:ns.Nodup):aA T dfs (n+1) 1 [.tup (aE ns)]=.ok (.bl true):=by
 refine aJ (k:=false) rfl rfl rfl ?_
 have e1:(ns.map λi:Nat=>(Sum.inl (i:Int):Sum Int Str)).Nodup:=by
  exact tJ (λa b e=>by simp at e;exact Gq.inj e) hn
 have e2:=xS e1
 have e3:(iD (ns.map λi:Nat=>(Sum.inl (i:Int):Sum Int Str))).length=ns.length:=by rw[e2,aD]
 have e4:ns.length+1<4096:=by lia
 have es:=xF (x:=.tup (aE ns)) (EZ ns)
 have e5:Bt.run .len [.tup (aE ns)]=.ok (.int ns.length):=by rw[nL,lS]
 simp[qE,es,e3,e4,e5]
theorem Fn(n:Nat)(w:Str)(h:bS w):aA T dfs (n+2) 2 [.str w]=.ok (.bl true):=by
 refine aJ (k:=false) rfl rfl rfl ?_
 obtain⟨h1,h2,h3⟩:=h
 have hb:=bI
 have hl:=fM w
 have e1:=AY n "abcdefghijklmnopqrstuvwxyz" w (by lia)
 have e2:(aH w).length<=big:=by lia
 have e3:(1:Int)<=((aH w).length:Int):=by lia
 have e4:((aH w).length:Int)<=8:=by lia
 rw[h3]at e1
 simp[yM,hl,e1,e2,e3,e4]
theorem Fo(n:Nat)(a:Sl)(w:Str):∀(S:List Scene)(k:Int)(x y:Sl),(∀s∈S,s.name≠w) ->
 ∃x' y',bH (bJ T (aA T dfs n) (.many [2,3]) kS) (bX k (S.map Scene.enc)) [a,.v (.str w),x,y]=.ok (.nx [a,.v (.str w),x',y'])
 |[],k,x,y,_=>⟨x,y,rfl⟩
 |s::r,k,x,y,h=>by
  have h0:(s.name==w)=false:=by simpa using h s bA
  have e:bJ T (aA T dfs n) (.many [2,3]) kS (.tup [.int k,s.enc]) [a,.v (.str w),x,y]=.ok (.nx [a,.v (.str w),.v (.int k),.v s.enc]):=by
   simp[bJ,kS,Scene.enc,aX,h0]
  obtain⟨x',y',e2⟩:=Fo n a w r (k+1) (.v (.int k)) (.v s.enc) λs' hs=>h s' (aY _ hs)
  exact⟨x',y',by rw[aG,bX,dY e,e2]⟩
theorem M0(n:Nat)(S:List Scene)(w:Str)(h:∀s∈S,s.name≠w):aA T dfs (n+1) 6 [.tup (S.map Scene.enc),.str w]=.ok .non:=by
 refine aJ (k:=false) rfl rfl rfl ?_
 obtain⟨x',y',e⟩:=Fo n (.v (.tup (S.map Scene.enc))) w S 0 .no .no h
 simp[qF,jT,e]
theorem M1(n:Nat)(S:List Scene)(w:Str)(hw:bS w)(h:∀s∈S,s.name≠w):aA T dfs (n+3) 7 [.tup (S.map Scene.enc),.str w]=.ok (.bl true):=by
 refine aJ (k:=false) rfl rfl rfl ?_
 have e1:=Fn n w hw
 have e2:=M0 (n+1) S w h
 simp[tP,e1,e2]
theorem uH(n:Nat)(m:Int)(h:iI m):aA T dfs (n+1) 30 [.int m]=.ok (.bl true):=by
 refine aJ (k:=false) rfl rfl rfl ?_
 obtain⟨h1,h2⟩:=h
 simp[zI,h1,h2]
theorem Fp(n:Nat)(P:List Part)(A S B C:D)(i:Nat)(h:i<P.length):aA T dfs (n+1) 31 [.tup [.tup (P.map Part.enc),A,S,B,C],.int i]=.ok (.bl true):=by
 refine aJ (k:=false) rfl rfl rfl ?_
 have h1:(0:Int)<=(i:Int):=by lia
 have h2:(i:Int)<(P.length:Int):=by lia
 simp[zJ,h2]
theorem uI(n:Nat)(P A B C:D)(S:List Scene)(i:Nat)(h:i<S.length):aA T dfs (n+1) 32 [.tup [P,A,.tup (S.map Scene.enc),B,C],.int i]=.ok (.bl true):=by
 refine aJ (k:=false) rfl rfl rfl ?_
 have h2:(i:Int)<(S.length:Int):=by lia
 simp[zK,h2]
theorem M2(n:Nat)(P:List Part)(A B C:D)(S:List Scene)(s:Scene)(hp:P.length<=8)(h:NewScene P.length S s) :
 aA T dfs (n+4) 33 [.tup [.tup (P.map Part.enc),A,.tup (S.map Scene.enc),B,C],s.enc]=.ok (.bl true):=by
 refine aJ (k:=false) rfl rfl rfl ?_
 have hb:=bI
 have hl:=pU h.nd h.lt
 have e1:=M1 n S s.name h.nm h.new
 have e2:=uH (n+2) s.len h.len
 have e3:=uH (n+2) s.pause h.pause
 have e4:=MZ (n+2) s.who (by lia) h.nd
 have c1:∀env,aU (bE T (aA T dfs (n+3)) 1 [0] (.one 0) zM (.con (.bl true)) (.v (.tup [.tup (P.map Part.enc),A,.tup (S.map Scene.enc),B,C])::env)) (aE s.who)=.ok (s.who.map λ_=>D.bl true):=by
  intro env
  rw[xN,gE aL (λ_=>some (D.bl true)) (by
   intro i hi
   have:=Fp (n+2) P A (.tup (S.map Scene.enc)) B C i (h.lt i hi)
   simp[bE,Tr.bT,aL,zM,this]),lH]
 have e5:=xT (λ_=>true) s.who
 have e6:(aE s.who).length<=big:=by rw[lS];lia
 have e7:(s.who.map λ_=>true).all id=true:=by simp
 simp only[Scene.enc]at *
 simp[zN,e1,e2,e3,e4,c1,e5,e6]
theorem M3(n:Nat)(P A B C:D)(S:List Scene)(a t:Nat)(h1:a<S.length)(h2:t<S.length):aA T dfs (n+5) 35 [.tup [P,A,.tup (S.map Scene.enc),B,C],(Chg.mov a t).enc]=.ok (.bl true):=by
 refine aJ (k:=false) rfl rfl rfl ?_
 have e1:=uI (n+3) P A B C S a h1
 have e2:=uI (n+3) P A B C S t h2
 simp[qG,Chg.enc,aX,e1,e2]
theorem M4(n:Nat)(P A B C:D)(S:List Scene)(a:Nat)(h1:a<S.length):aA T dfs (n+5) 35 [.tup [P,A,.tup (S.map Scene.enc),B,C],(Chg.cut a).enc]=.ok (.bl true):=by
 refine aJ (k:=false) rfl rfl rfl ?_
 have e1:=uI (n+3) P A B C S a h1
 simp[qG,Chg.enc,aX,e1]
theorem M5(n:Nat)(P:List Part)(A B C:D)(S:List Scene)(a:Nat)(s:Scene)(hp:P.length<=8)(h1:a<=S.length)(h:NewScene P.length S s):aA T dfs (n+5) 35 [.tup [.tup (P.map Part.enc),A,.tup (S.map Scene.enc),B,C],(Chg.add a s).enc]=.ok (.bl true):=by
 refine aJ (k:=false) rfl rfl rfl ?_
 have e1:=M2 n P A B C S s hp h
 have h2:(a:Int)<=(S.length:Int):=by lia
 have e2:D.ix (.tup [.str "add", .int a,s.enc]) (.int 2)=.ok s.enc:=xI
 simp[qG,Chg.enc,aX,e1,h2,e2]
theorem uJ(n:Nat)(P:List Part)(A B C:D)(S:List Scene)(c:Chg)(hc:∃a m,(c=.len a m\/c=.pau a m)\/∃p,c=.ent a p\/c=.lea a p)(hf:c.fit P.length S):aA T dfs (n+5) 35 [.tup [.tup (P.map Part.enc),A,.tup (S.map Scene.enc),B,C],c.enc]=.ok (.bl true):=by
 refine aJ (k:=false) rfl rfl rfl ?_
 have one:∀a,a<S.length->aA T dfs (n+4) 32 [.tup [.tup (P.map Part.enc),A,.tup (S.map Scene.enc),B,C],.int a]=.ok (.bl true)/\D.ix (.tup (S.map Scene.enc)) (.int (a:Int))=.ok (aK S a).enc:=λa h=>⟨uI (n+3) (.tup (P.map Part.enc)) A B C S a h,kP (lV h)⟩
 have ip:∀p,p<P.length->aA T dfs (n+3) 31 [.tup [.tup (P.map Part.enc),A,.tup (S.map Scene.enc),B,C],.int p]=.ok (.bl true):=λp h=>Fp (n+2) P A (.tup (S.map Scene.enc)) B C p h
 have x2:D.ix (.tup [.tup (P.map Part.enc),A,.tup (S.map Scene.enc),B,C]) (T.glob 4)=.ok (.tup (S.map Scene.enc)):=rfl
 generalize D.tup [.tup (P.map Part.enc),A,.tup (S.map Scene.enc),B,C]=BK at *
 obtain⟨a,m,(rfl|rfl)|⟨p,rfl|rfl⟩⟩:=hc
 ·obtain⟨e1,e2⟩:=one a hf.1
  have e3:aA T dfs (n+4) 34 [BK,.str "length", (aK S a).enc,.int m]=.ok (.bl true):=by
   refine aJ (k:=false) rfl rfl rfl ?_
   have e4:=uH (n+2) m hf.2
   have s0:D.cmp .Eq (.str "length") (.str "length")=.ok (.bl true):=by simp[aX]
   generalize (aK S a).enc=z at *
   lk
  dsimp only[Chg.enc]
  have s0:D.cmp .Eq (.str "length") (.str "add")=.ok (.bl false):=by simp[aX]
  have s1:D.cmp .Eq (.str "length") (.str "move")=.ok (.bl false):=by simp[aX]
  have s2:D.cmp .Eq (.str "length") (.str "cut")=.ok (.bl false):=by simp[aX]
  generalize (aK S a).enc=z at *
  generalize S.map Scene.enc=SE at *
  lk
 ·obtain⟨e1,e2⟩:=one a hf.1
  have e3:aA T dfs (n+4) 34 [BK,.str "pause", (aK S a).enc,.int m]=.ok (.bl true):=by
   refine aJ (k:=false) rfl rfl rfl ?_
   have e4:=uH (n+2) m hf.2
   have s0:D.cmp .Eq (.str "pause") (.str "length")=.ok (.bl false):=by simp[aX]
   have s1:D.cmp .Eq (.str "pause") (.str "pause")=.ok (.bl true):=by simp[aX]
   generalize (aK S a).enc=z at *
   lk
  dsimp only[Chg.enc]
  have s0:D.cmp .Eq (.str "pause") (.str "add")=.ok (.bl false):=by simp[aX]
  have s1:D.cmp .Eq (.str "pause") (.str "move")=.ok (.bl false):=by simp[aX]
  have s2:D.cmp .Eq (.str "pause") (.str "cut")=.ok (.bl false):=by simp[aX]
  generalize (aK S a).enc=z at *
  generalize S.map Scene.enc=SE at *
  lk
 ·obtain⟨e1,e2⟩:=one a hf.1
  have hw:=hf.2.2
  rw[tM hf.1]at hw
  have e3:aA T dfs (n+4) 34 [BK,.str "enter", (aK S a).enc,.int p]=.ok (.bl true):=by
   refine aJ (k:=false) rfl rfl rfl ?_
   have e4:=ip p hf.2.1
   have e5:=E1 (i:=p) (ws:=(aK S a).who)
   rw[decide_eq_false hw]at e5
   have e5':D.cmp .NotIn (.int (p:Int)) (.tup (aE (aK S a).who))=.ok (.bl true):=e5
   have e7:D.ix (aK S a).enc (.int 3)=.ok (.tup (aE (aK S a).who)):=sZ
   have s0:D.cmp .Eq (.str "enter") (.str "length")=.ok (.bl false):=by simp[aX]
   have s1:D.cmp .Eq (.str "enter") (.str "pause")=.ok (.bl false):=by simp[aX]
   have s2:D.cmp .Eq (.str "enter") (.str "enter")=.ok (.bl true):=by simp[aX]
   generalize (aK S a).enc=z at *
   lk
  dsimp only[Chg.enc]
  have s0:D.cmp .Eq (.str "enter") (.str "add")=.ok (.bl false):=by simp[aX]
  have s1:D.cmp .Eq (.str "enter") (.str "move")=.ok (.bl false):=by simp[aX]
  have s2:D.cmp .Eq (.str "enter") (.str "cut")=.ok (.bl false):=by simp[aX]
  generalize (aK S a).enc=z at *
  generalize S.map Scene.enc=SE at *
  lk
 ·obtain⟨e1,e2⟩:=one a hf.1
  have hw:=hf.2
  rw[tM hf.1]at hw
  have e3:aA T dfs (n+4) 34 [BK,.str "leave", (aK S a).enc,.int p]=.ok (.bl true):=by
   refine aJ (k:=false) rfl rfl rfl ?_
   have e5:=sX (i:=p) (ws:=(aK S a).who)
   rw[decide_eq_true hw]at e5
   have e5':D.cmp .In (.int (p:Int)) (.tup (aE (aK S a).who))=.ok (.bl true):=e5
   have e7:D.ix (aK S a).enc (.int 3)=.ok (.tup (aE (aK S a).who)):=sZ
   have s0:D.cmp .Eq (.str "leave") (.str "length")=.ok (.bl false):=by simp[aX]
   have s1:D.cmp .Eq (.str "leave") (.str "pause")=.ok (.bl false):=by simp[aX]
   have s2:D.cmp .Eq (.str "leave") (.str "enter")=.ok (.bl false):=by simp[aX]
   have s3:D.cmp .Eq (.str "leave") (.str "leave")=.ok (.bl true):=by simp[aX]
   generalize (aK S a).enc=z at *
   lk
  dsimp only[Chg.enc]
  have s0:D.cmp .Eq (.str "leave") (.str "add")=.ok (.bl false):=by simp[aX]
  have s1:D.cmp .Eq (.str "leave") (.str "move")=.ok (.bl false):=by simp[aX]
  have s2:D.cmp .Eq (.str "leave") (.str "cut")=.ok (.bl false):=by simp[aX]
  generalize (aK S a).enc=z at *
  generalize S.map Scene.enc=SE at *
  lk
theorem M6(n:Nat)(P:List Part)(A B C:D)(S:List Scene)(c:Chg)(hp:P.length<=8)(hf:c.fit P.length S):aA T dfs (n+5) 35 [.tup [.tup (P.map Part.enc),A,.tup (S.map Scene.enc),B,C],c.enc]=.ok (.bl true):=by
 cases c with
 |mov a t=>exact M3 n _ A B C S a t hf.1 hf.2
 |cut a=>exact M4 n _ A B C S a hf
 |add a s=>exact M5 n P A B C S a s hp hf.1 hf.2
 |len a m=>exact uJ n P A B C S _ ⟨a,m,.inl (.inl rfl)⟩ hf
 |pau a m=>exact uJ n P A B C S _ ⟨a,m,.inl (.inr rfl)⟩ hf
 |ent a p=>exact uJ n P A B C S _ ⟨a,0,.inr ⟨p,.inl rfl⟩⟩ hf
 |lea a p=>exact uJ n P A B C S _ ⟨a,0,.inr ⟨p,.inr rfl⟩⟩ hf
theorem Fq(n:Nat)(P:List Part)(A B C:D)(S:List Scene)(c:Chg)(hp:P.length<=8)(hf:c.fit P.length S):aA T dfs (n+6) 36 [.tup [.tup (P.map Part.enc),A,.tup (S.map Scene.enc),B,C],c.enc]=.ok .non:=by
 have e:=M6 n P A B C S c hp hf
 generalize c.enc=z at e⊢
 refine LW (e:=[.v (.tup [.tup (P.map Part.enc),A,.tup (S.map Scene.enc),B,C]),.v z]) rfl rfl rfl ?_
 simp[zO,e]
theorem Fu(S:List Scene):eI (.tup (S.map Scene.enc))=false:=by cases S<;>rfl
theorem AZ(n:Nat)(S:List Scene)(a:Nat)(h:a<S.length)(hs:S.length<1000):aA T dfs (n+1) 37 [.tup (S.map Scene.enc),.int a]=.ok (.tup ((bN S a).map Scene.enc)):=by
 refine aJ (k:=true) rfl rfl rfl ?_
 have hb:=bI
 have c1:cut (S.map Scene.enc) none (some (a:Int))=(S.take a).map Scene.enc:=by rw[nX (by rw[aD];lia),mO]
 have c2:cut (S.map Scene.enc) (some ((a:Int)+1)) none=(S.drop (a+1)).map Scene.enc:=by
  have:=lU (xs:=S.map Scene.enc) (a:=a+1) (by rw[aD];lia)
  rw[rJ]
  simpa using this
 have e:=oD (a:=(S.take a).map Scene.enc) (b:=(S.drop (a+1)).map Scene.enc) (by rw[aD,aD,dF,iP];lia)
 have e2:(bN S a).map Scene.enc=(S.take a).map Scene.enc++(S.drop (a+1)).map Scene.enc:=by unfold bN;rw[cS]
 have e3:eI (.tup ((S.take a).map Scene.enc++(S.drop (a+1)).map Scene.enc))=false:=by rw[<-e2];exact Fu _
 rw[e2]
 generalize (S.take a).map Scene.enc=X at *
 generalize (S.drop (a+1)).map Scene.enc=Y at *
 simp[zP,c1,c2,e,e3]
theorem A0(n:Nat)(S:List Scene)(a:Nat)(x:Scene)(h:a<=S.length)(hs:S.length<1000):aA T dfs (n+1) 38 [.tup (S.map Scene.enc),.int a,x.enc]=.ok (.tup ((bU S a x).map Scene.enc)):=by
 refine aJ (k:=true) rfl rfl rfl ?_
 have hb:=bI
 have c1:cut (S.map Scene.enc) none (some (a:Int))=(S.take a).map Scene.enc:=by rw[nX (by rw[aD];lia),mO]
 have c2:cut (S.map Scene.enc) (some (a:Int)) none=(S.drop a).map Scene.enc:=by rw[lU (by rw[aD];lia),rJ]
 have e:=oD (a:=(S.take a).map Scene.enc) (b:=[x.enc]) (by rw[aD,dF,iQ];lia)
 have e1:=oD (a:=(S.take a).map Scene.enc++[x.enc]) (b:=(S.drop a).map Scene.enc) (by rw[cP,aD,aD,dF,iP,iQ];lia)
 have e2:(bU S a x).map Scene.enc=((S.take a).map Scene.enc++[x.enc])++(S.drop a).map Scene.enc:=by unfold bU;simp
 have e3:eI (.tup (((S.take a).map Scene.enc++[x.enc])++(S.drop a).map Scene.enc))=false:=by rw[<-e2];exact Fu _
 rw[e2]
 generalize (S.take a).map Scene.enc=X at *
 generalize (S.drop a).map Scene.enc=Y at *
 generalize x.enc=z at *
 rw[dG]at e3
 replace e3:eI (.tup (X++z::Y))=false:=e3
 simp[zQ,c1,c2,e,e1,e3]
theorem M7(n:Nat)(c:Chg)(k:Str)(a:Nat)(v:D)(x:Scene)(he:c.enc=.tup [.str k,.int a,v])(hc:(∃m,c=.len a m\/c=.pau a m)\/∃p,c=.ent a p\/c=.lea a p)(hw:x.who.length<100) :
 aA T dfs (n+1) 39 [.str k,x.enc,v]=.ok (c.mod x).enc:=by
 refine aJ (k:=false) rfl rfl rfl ?_
 have hb:=bI
 rcases hc with⟨m,rfl|rfl⟩|⟨p,rfl|rfl⟩
 ·cases he
  simp[oF,Scene.enc,aX,Chg.mod]
 ·cases he
  simp[oF,Scene.enc,aX,Chg.mod]
 ·cases he
  have e:=oD (a:=aE x.who) (b:=[.int (p:Int)]) (by rw[lS,iQ];lia)
  have e2:aE (x.who++[p])=aE x.who++[.int (p:Int)]:=by unfold aE;simp
  simp[oF,Scene.enc,aX,Chg.mod,e,e2]
 ·cases he
  have c1:∀x0 x1 x3 x4 x5 x6,aU (bE T (aA T dfs n) 1 [2] (.one 0) tX tW [x0,x1,.v (.int (p:Int)),x3,x4,x5,x6]) (aE x.who)=.ok (aE (x.who.filter λi=>!(i==p))):=by
   intro x0 x1 x3 x4 x5 x6
   rw[xN,tF aL (λi=>!(i==p)) (by
    intro i _
    by_cases h:i=p
    ·subst h;simp[bE,Tr.bT,aL,tW,tX]
    ·have h':((i:Int)==(p:Int))=false:=by simp;lia
     have h2:(i==p)=false:=by simp[h]
     simp[bE,Tr.bT,aL,tW,tX,h',h2])]
   rfl
  have e6:(aE x.who).length<=big:=by rw[lS];lia
  simp[oF,Scene.enc,aX,Chg.mod,c1,e6]
theorem M8(n many:Nat)(S:List Scene)(c:Chg)(hf:c.fit many S)(hs:S.length<100)(hw:∀x∈S,x.who.length<100):aA T dfs (n+2) 40 [.tup (S.map Scene.enc),c.enc]=.ok (.tup ((c.on S).map Scene.enc)):=by
 refine aJ (k:=false) rfl rfl rfl ?_
 have mods:∀(k:Str) (a:Nat) (v:D),a<S.length->c.enc=.tup [.str k,.int a,v]->(k == "add")=false->(k == "cut")=false->(k == "move")=false->((∃m,c=.len a m\/c=.pau a m)\/∃p,c=.ent a p\/c=.lea a p)->c.on S=bU (bN S a) a (c.mod (aK S a)) ->
  exS T (aA T dfs (n+1)) jG [.v (.tup (S.map Scene.enc)),.v c.enc,.no,.no,.no]=.ok (.rt (.tup ((c.on S).map Scene.enc)) false):=by
  intro k a v ha he k1 k2 k3 hc hon
  have e1:=AZ n S a ha (by lia)
  have e2:=M7 n c k a v (aK S a) he hc (hw _ (jY ha))
  have e3:=A0 n (bN S a) a (c.mod (aK S a)) (by rw[gZ ha];lia) (by rw[gZ ha];lia)
  have e4:=kP (lV ha)
  rw[hon,he]
  generalize (c.mod (aK S a)).enc=y at *
  generalize (aK S a).enc=z at *
  generalize ((bU (bN S a) a (c.mod (aK S a))).map Scene.enc)=W at *
  simp[jG,aX,k1,k2,k3,e1,e4,e2,e3]
 cases c with
 |mov a t=>
  obtain⟨h1,h2⟩:=hf
  have e1:=AZ n S a h1 (by lia)
  have e2:=A0 n (bN S a) t (aK S a) (by rw[gZ h1];lia) (by rw[gZ h1];lia)
  have e4:=kP (lV h1)
  show exS T (aA T dfs (n+1)) jG [.v (.tup (S.map Scene.enc)),.v (Chg.mov a t).enc,.no,.no,.no]=.ok (.rt (.tup ((bU (bN S a) t (aK S a)).map Scene.enc)) false)
  generalize (aK S a).enc=z at *
  simp[jG,Chg.enc,aX,e1,e2,e4]
 |cut a=>
  have e1:=AZ n S a hf (by lia)
  show exS T (aA T dfs (n+1)) jG [.v (.tup (S.map Scene.enc)),.v (Chg.cut a).enc,.no,.no,.no]=.ok (.rt (.tup ((bN S a).map Scene.enc)) false)
  simp[jG,Chg.enc,aX,e1]
 |add a s=>
  have e2:=A0 n S a s hf.1 (by lia)
  show exS T (aA T dfs (n+1)) jG [.v (.tup (S.map Scene.enc)),.v (Chg.add a s).enc,.no,.no,.no]=.ok (.rt (.tup ((bU S a s).map Scene.enc)) false)
  simp only[Chg.enc]
  generalize s.enc=z at *
  simp[jG,aX,e2]
 |len a m=>exact mods "length" a _ hf.1 rfl (by simp) (by simp) (by simp) (.inl ⟨m,.inl rfl⟩) rfl
 |pau a m=>exact mods "pause" a _ hf.1 rfl (by simp) (by simp) (by simp) (.inl ⟨m,.inr rfl⟩) rfl
 |ent a p=>exact mods "enter" a _ hf.1 rfl (by simp) (by simp) (by simp) (.inr ⟨p,.inl rfl⟩) rfl
 |lea a p=>exact mods "leave" a _ hf.1 rfl (by simp) (by simp) (by simp) (.inr ⟨p,.inr rfl⟩) rfl
theorem Fv(n:Nat)(P:List Part)(A B C:D)(S:List Scene)(c:Chg)(hp:P.length<=8)(hf:c.fit P.length S)(hs:S.length<100)(hw:∀x∈S,x.who.length<100) :
 aA T dfs (n+7) 41 [.tup [.tup (P.map Part.enc),A,.tup (S.map Scene.enc),B,C],c.enc]=.ok (.tup [.tup (P.map Part.enc),A,.tup ((c.on S).map Scene.enc),B,C]):=by
 refine aJ (k:=true) rfl rfl rfl ?_
 have e1:=Fq n P A B C S c hp hf
 have e2:=M8 (n+4) P.length S c hf hs hw
 have c1:cut [D.tup (P.map Part.enc),A,.tup (S.map Scene.enc),B,C] none (some 2)=[D.tup (P.map Part.enc),A]:=rfl
 have c2:cut [D.tup (P.map Part.enc),A,.tup (S.map Scene.enc),B,C] (some 3) none=[B,C]:=rfl
 have hb:∀k:Nat,k<=10->k<=big:=λk h=>by have:=bI;lia
 have a1:∀x,D.bin .Add (.tup [D.tup (P.map Part.enc),A]) (.tup [x])=.ok (.tup [D.tup (P.map Part.enc),A,x]):=λx=>oD (hb 3 (by lia))
 have a2:∀x,D.bin .Add (.tup [D.tup (P.map Part.enc),A,x]) (.tup [B,C])=.ok (.tup [D.tup (P.map Part.enc),A,x,B,C]):=λx=>oD (hb 5 (by lia))
 generalize c.enc=z at *
 simp[zR,e1,e2,c1,c2,a1,a2]
theorem Fw(n:Nat)(x:Int)(a b c d f:Sl):∀xs:List Nat,(∀j∈xs,j<8)->aU (bE T (aA T dfs n) 1 [2] (.one 0) qP qO [a,b,.v (.int x),c,d,f]) (xs.map λj:Nat=>D.int j)=.ok ((xs.filter (inV x)).map λj:Nat=>D.int j)
 |[],_=>rfl
 |j::r,hj=>by
  have h8:=hj j bA
  have e1:D.ix (.lst [.int 1,.int 3,.int 9,.int 27,.int 81,.int 243,.int 729,.int 2187]) (.int j)=.ok (.int (dA j)):=by
   show Res.of (atI _ _)=_
   rw[FP _ _ _ _ _ _ _ _ j h8]
   unfold dA
   repeat' split
   all_goals rfl
  have hp:=FQ j
  have e2:D.bin .FloorDiv (.int x) (.int (dA j))=.ok (.int (x/dA j)):=by
   show aC (decide (0<dA j)&&decide (dA j<1073741824)) _=_
   rw[show decide (0<dA j)=true by simpa using hp.1,show decide (dA j<1073741824)=true by simpa using hp.2]
   rfl
  rw[aG,aU,Fw n x a b c d f r λi hi=>hj i (aY _ hi)]
  by_cases q:x/dA j%3=0
  ·have q':inV x j=true:=by unfold inV;simpa using q
   rw[Gs q']
   simp[bE,Tr.bT,qP,qO,e1,e2,q]
  ·have q':¬inV x j=true:=by unfold inV;simpa using q
   rw[Gu q']
   simp[bE,Tr.bT,qP,qO,e1,e2,q]
theorem M_ (i:Int) (h:0<=i/\i<8):∃(y w:Str),D.ix (.str "abcdefgh") (.int i)=.ok (.str y)/\bS w/\D.bin .Add (.str "new") (.str y)=.ok (.str w):=by
 have:i=0\/i=1\/i=2\/i=3\/i=4\/i=5\/i=6\/i=7:=by lia
 rcases this with rfl|rfl|rfl|rfl|rfl|rfl|rfl|rfl
 ·exact⟨"a", "newa", rfl,⟨by decide,by decide,by decide⟩,rfl⟩
 ·exact⟨"b", "newb", rfl,⟨by decide,by decide,by decide⟩,rfl⟩
 ·exact⟨"c", "newc", rfl,⟨by decide,by decide,by decide⟩,rfl⟩
 ·exact⟨"d", "newd", rfl,⟨by decide,by decide,by decide⟩,rfl⟩
 ·exact⟨"e", "newe", rfl,⟨by decide,by decide,by decide⟩,rfl⟩
 ·exact⟨"f", "newf", rfl,⟨by decide,by decide,by decide⟩,rfl⟩
 ·exact⟨"g", "newg", rfl,⟨by decide,by decide,by decide⟩,rfl⟩
 ·exact⟨"h", "newh", rfl,⟨by decide,by decide,by decide⟩,rfl⟩
theorem Ma(n:Nat)(P:List Part)(A S B C:D)(cell:Int)(hp:P.length<=8):∃s:Scene,bS s.name/\iI s.len/\iI s.pause/\s.who.Nodup/\(∀i∈s.who,i<P.length) /\
 aA T dfs (n+2) 57 [.tup [.tup (P.map Part.enc),A,S,B,C],.int cell]=.ok s.enc:=by
 have hb:=bI
 have e0:=gN n cell 3 (by lia)
 have e1:=gN n cell 5 (by lia)
 have e2:=kW n (aF cell 3)
 have e3:=kW n (aF cell 5)
 have e6:jB (.int (P.length:Int))=.ok ((aI P.length).map λj:Nat=>D.int j):=by
  rw[lR (by lia),jD]
  simp
 have e7:∀a b c d f,aU (bE T (aA T dfs (n+1)) 1 [2] (.one 0) qP qO [a,b,.v (.int (aF cell 3)),c,d,f]) ((aI P.length).map λj:Nat=>D.int j)=.ok ((iK (aF cell 3) P.length).map λj:Nat=>D.int j):=λa b c d f=>Fw (n+1) (aF cell 3) a b c d f (aI P.length) λj hj=>by rw[kC]at hj;lia
 have hl:=FS (aF cell 3) P.length
 have hnd:(iK (aF cell 3) P.length).Nodup:=rC.filter _ Ak
 have hlt:∀i∈iK (aF cell 3) P.length,i<P.length:=λi hi=>by simpa using(dW.mp hi).1
 generalize iK (aF cell 3) P.length=W at *
 have hr:=xW cell W
 have e8:cell%((W.length:Int)+1)=(((cell%((W.length:Int)+1)).toNat:Nat):Int):=by
  have:=fH cell (show(W.length:Int)+1≠0 by lia)
  lia
 have e9:(0:Int)<(W.length:Int)+1:=by lia
 have hL:(W.map λj:Nat=>D.int j).length=W.length:=aD ..
 have e10:cut (W.map λj:Nat=>D.int j) (some (cell%((W.length:Int)+1))) none=(W.map λj:Nat=>D.int j).drop (cell%((W.length:Int)+1)).toNat:=by
  rw[e8];exact lU (by rw[hL];lia)
 have e11:cut (W.map λj:Nat=>D.int j) none (some (cell%((W.length:Int)+1)))=(W.map λj:Nat=>D.int j).take (cell%((W.length:Int)+1)).toNat:=by
  rw[e8];exact nX (by rw[hL];lia)
 have e12:D.bin .Add (.lst ((W.map λj:Nat=>D.int j).drop (cell%((W.length:Int)+1)).toNat)) (.lst ((W.map λj:Nat=>D.int j).take (cell%((W.length:Int)+1)).toNat))=.ok (.lst (aE (eZ cell W))):=by
  rw[pT (by rw[iP,dF,hL];lia)]
  unfold aE
  rw[<-xY]
  unfold eZ
  rw[hL]
 obtain⟨y,w,l1,l2,l3⟩:=M_ (cell%8) (by lia)
 have h1:=iJ (aF cell 3)
 have h2:=iJ (aF cell 5)
 refine⟨⟨w,bV (aF cell 3),bV (aF cell 5),eZ cell W⟩,l2,⟨h1.1,by show bV _<=_;lia⟩,⟨h2.1,by show bV _<=_;lia⟩,(tK _ _).nodup_iff.mpr hnd,λi hi=>hlt i (by rw[xX]at hi;exact hi),?_⟩
 refine aJ (k:=false) rfl rfl rfl ?_
 have e13:P.length<=big:=by lia
 have e14:W.length<=big:=by lia
 generalize aF cell 3=m3 at *
 generalize aF cell 5=m5 at *
 simp[AK,e0,e1,e2,e3,e6,e7,e9,e10,e11,e12,e13,e14,l1,l3,Scene.enc]
noncomputable def tl1:S->S
 |.cons _ r=>r
 |x=>x
noncomputable def hdS:S->S
 |.cons a _=>a
 |x=>x
noncomputable def gcT:S:=tl1 (tl1 (tl1 (tl1 lY)))
noncomputable def gcU:S:=tl1 (tl1 (tl1 gcT))
noncomputable def gcV:S:=tl1 (tl1 (tl1 (tl1 gcU)))
theorem Fx(w:Str):∀S:List Scene,D.mem (.str w) (S.map λs:Scene=>D.str s.name)=S.any λs:Scene=>s.name==w
 |[]=>rfl
 |s::r=>by rw[aG,D.mem,Fx w r,Ab];rfl
theorem Mb(w:Str)(S:List Scene):D.cmp .NotIn (.str w) (.lst (S.map λs:Scene=>D.str s.name))=.ok (.bl (!S.any λs:Scene=>s.name==w)):=by
 show(do let k<-aC (D.pls 30 (S.map λs:Scene=>D.str s.name)&&D.pl 29 (.str w)) (.ok (D.mem (.str w) (S.map λs:Scene=>D.str s.name)));.ok (D.bl (!k)))=_
 rw[bW (by rw[eC (λs:Scene=>D.str s.name) 29 (λ_=>rfl) S];rfl),Fx];rfl
theorem Mc{xs:List D}(h:D.pls 30 xs=true):D.cmp .NotEq (.tup xs) (.tup [])=.ok (.bl (!xs.isEmpty)):=by
 show aC (D.eqOk (.tup xs) (.tup [])) _=_
 rw[bW (by unfold D.eqOk;rw[nR,h];rfl)]
 cases xs<;>rfl
theorem Fy{w:List Nat}(h:w≠[])(c:Int):0<=c%(w.length:Int)/\∃p∈w,w[(c%(w.length:Int)).toNat]?=some p:=by
 have hl:0<w.length:=lG.mpr h
 have h1:=fH c (show(w.length:Int)≠0 by lia)
 have h2:=jI c (show 0<(w.length:Int) by lia)
 have h3:(c%(w.length:Int)).toNat<w.length:=by lia
 exact⟨h1,w[(c%(w.length:Int)).toNat],jH h3,aR h3⟩
theorem Md(n:Nat)(P:List Part)(A B C:D)(S:List Scene)(cell:Int)(hp:P.length<=8)(hs:S.length<=100)(g:∀s∈S,OkScene P.length s) :
 ∃c:Chg,c.fit P.length S/\aA T dfs (n+3) 58 [.tup [.tup (P.map Part.enc),A,.tup (S.map Scene.enc),B,C],.int cell]=.ok c.enc:=by
 have hb:=bI
 obtain⟨s,s1,s2,s3,s4,s5,e0⟩:=Ma n P A (.tup (S.map Scene.enc)) B C (cell/7) hp
 have e1:=gN (n+1) (cell/7) 1 (by lia)
 have hN:=uF (cell/7) 1
 generalize hNN:aF (cell/7) 1=N at *
 have x2:D.ix (.tup [.tup (P.map Part.enc),A,.tup (S.map Scene.enc),B,C]) (T.glob 4)=.ok (.tup (S.map Scene.enc)):=rfl
 have x2':D.ix (.tup [.tup (P.map Part.enc),A,.tup (S.map Scene.enc),B,C]) (.int 2)=.ok (.tup (S.map Scene.enc)):=rfl
 have y0:D.ix (.tup [.tup (P.map Part.enc),A,.tup (S.map Scene.enc),B,C]) (.int 0)=.ok (.tup (P.map Part.enc)):=rfl
 generalize D.tup [.tup (P.map Part.enc),A,.tup (S.map Scene.enc),B,C]=BK at *
 have x0:D.ix s.enc (.int 0)=.ok (.str s.name):=rfl
 have w7:cell%7=0\/cell%7=1\/cell%7=2\/cell%7=3\/cell%7=4\/cell%7=5\/cell%7=6:=by lia
 have pre:∀d,exS T (aA T dfs (n+2)) gcT [.v BK,.v (.int cell),.v (.tup (S.map Scene.enc)),.v (.int (cell%7)),.v (.int N),.v s.enc,.no,.no,.no,.no]=.ok (.rt d false) ->
  aA T dfs (n+3) 58 [BK,.int cell]=.ok d:=by
  intro d h
  refine aJ (k:=false) rfl rfl rfl ?_
  show exS T (aA T dfs (n+2)) (.cons (hdS lY) (.cons (hdS (tl1 lY)) (.cons (hdS (tl1 (tl1 lY))) (.cons (hdS (tl1 (tl1 (tl1 lY)))) gcT)))) _=_
  generalize gcT=R at h⊢
  generalize s.enc=z at *
  dsimp only[hdS,tl1]
  refine' dZ (o1:=.nx ?xe1) ?xh1 (eA (dZ (o1:=.nx ?xe2) ?xh2 (eA (dZ (o1:=.nx ?xe3) ?xh3 (eA (dZ (o1:=.nx ?xe4) ?xh4 (eA h)))))))
  case xh1=>lk
  case xh2=>lk
  case xh3=>lk
  case xh4=>lk
 generalize cell%7=q at *
 have t1:=EH (eC Scene.enc 29 (Dl 27) S)
 have n1:=Mb s.name S
 have l1:S.length<=big:=by lia
 have l1':(S.map Scene.enc).length<=big:=by rw[aD];exact l1
 have ln:Bt.run .len [.tup (S.map Scene.enc)]=.ok (.int (S.length:Int)):=by rw[nL,aD]
 have c1:aU (dJ T (aA T dfs (n+2)) (.one 0) AL (.con (.bl true)) [.no]) (S.map Scene.enc)=.ok (S.map λs:Scene=>D.str s.name):=by
  rw[gE Scene.enc (λs=>some (D.str s.name)) (by
   intro s _
   unfold Scene.enc
   lk),lH]
 by_cases hA:S=[]\/q=0
 ·have hor:evE T (aA T dfs (n+2)) (.or (.cmp .Eq (.var 2) (.tup .anil)) (.cmp .Eq (.var 3) (.con (.int 0)))) [.v BK,.v (.int cell),.v (.tup (S.map Scene.enc)),.v (.int q),.v (.int N),.v s.enc,.no,.no,.no,.no]=.ok (.bl true):=by
   rcases hA with h|h
   ·rw[h]at t1⊢
    generalize s.enc=z at *
    lk
   ·subst h
    generalize s.enc=z at *
    cases hE:(S.map Scene.enc).isEmpty<;>rw[hE]at t1<;>lk
  by_cases hadd:(S.any λx:Scene=>x.name==s.name)=false/\S.length<20
  ·obtain⟨h1,h2⟩:=hadd
   rw[h1]at n1
   have m0:0<(S.length:Int)+1:=by lia
   have m1:=fH N (show(S.length:Int)+1≠0 by lia)
   have m2:=jI N m0
   obtain⟨a,ha⟩:∃a:Nat,N%((S.length:Int)+1)=a:=⟨(N%((S.length:Int)+1)).toNat,by lia⟩
   refine⟨.add a s,⟨by lia,s1,λx hx e=>by
    have:=Gr.mp h1 x hx
    exact this (by rw[e];simp),s2,s3,s4,s5⟩,pre _ ?_⟩
   have h2':decide ((S.length:Int)<20)=true:=decide_eq_true (by lia)
   have md:D.bin .Mod (.int N) (.int ((S.length:Int)+1))=.ok (.int (a:Int)):=by rw[iH m0,ha]
   have n1':D.cmp .NotIn (.str s.name) (.lst (S.map λs:Scene=>D.str s.name))=.ok (.bl true):=n1
   dsimp only[Chg.enc]
   generalize s.name=sn at *
   generalize (S.map λs:Scene=>D.str s.name)=nms at *
   generalize s.enc=z at *
   generalize S.map Scene.enc=SE at *
   generalize (S.length:Int)=sl at *
   dsimp only[gcT,tl1]
   lk
  ·have hS:S≠[]:=λh=>hadd (by subst h;exact⟨rfl,by simp⟩)
   have hL0:0<(S.length:Int):=by have:=lG.mpr hS;lia
   have m1:=fH N (show(S.length:Int)≠0 by lia)
   have m2:=jI N hL0
   obtain⟨a,ha⟩:∃a:Nat,N%(S.length:Int)=a:=⟨(N%(S.length:Int)).toNat,by lia⟩
   have md:D.bin .Mod (.int N) (.int (S.length:Int))=.ok (.int (a:Int)):=by rw[iH hL0,ha]
   refine⟨.cut a,show a<S.length by lia,pre _ ?_⟩
   have hand:evE T (aA T dfs (n+2)) (.and (.cmp .NotIn (.ix (.var 5) (.con (.int 0))) (.comp 1 [] (.one 0) AL (.seq (.var 2)) (.con (.bl true)))) (.cmp .Lt (.bt .len (.acons (.var 2) .anil)) (.con (.int 20))))
    [.v BK,.v (.int cell),.v (.tup (S.map Scene.enc)),.v (.int q),.v (.int N),.v s.enc,.no,.no,.no,.no]=.ok (.bl false):=by
    by_cases h2:S.length<20
    ·have h1:(S.any λx:Scene=>x.name==s.name)=true:=by
      cases h:(S.any λx:Scene=>x.name==s.name)with
      |true=>rfl
      |false=>exact absurd ⟨h,h2⟩ hadd
     rw[h1]at n1
     have n1':D.cmp .NotIn (.str s.name) (.lst (S.map λs:Scene=>D.str s.name))=.ok (.bl false):=n1
     generalize s.name=sn at *
     generalize (S.map λs:Scene=>D.str s.name)=nms at *
     generalize s.enc=z at *
     generalize S.map Scene.enc=SE at *
     lk
    ·have h2':decide ((S.length:Int)<20)=false:=decide_eq_false (by lia)
     have lt:D.cmp .Lt (.int (S.length:Int)) (.int 20)=.ok (.bl false):=by rw[Da,h2']
     generalize s.name=sn at *
     generalize (S.map λs:Scene=>D.str s.name)=nms at *
     generalize s.enc=z at *
     generalize S.map Scene.enc=SE at *
     generalize (S.length:Int)=sl at *
     cases h1:(!S.any λx:Scene=>x.name==sn)<;>rw[h1]at n1<;>lk
   dsimp only[Chg.enc]
   generalize s.enc=z at *
   generalize S.map Scene.enc=SE at *
   generalize (S.length:Int)=sl at *
   dsimp only[gcT,tl1]
   lk
 ·have hS:S≠[]:=λh=>hA (.inl h)
  have h0:q≠0:=λh=>hA (.inr h)
  have hL0:0<(S.length:Int):=by have:=lG.mpr hS;lia
  have m1:=fH N (show(S.length:Int)≠0 by lia)
  have m2:=jI N hL0
  obtain⟨a,ha⟩:∃a:Nat,N%(S.length:Int)=a:=⟨(N%(S.length:Int)).toNat,by lia⟩
  have md:D.bin .Mod (.int N) (.int (S.length:Int))=.ok (.int (a:Int)):=by rw[iH hL0,ha]
  have hal:a<S.length:=by lia
  have d1:D.bin .FloorDiv (.int N) (.int (S.length:Int))=.ok (.int (N/(S.length:Int))):=xG ⟨hL0,by lia⟩
  generalize N/(S.length:Int)=M at *
  have e5:=kW (n+1) M
  have hmin:=iJ M
  have hmin':iI (bV M):=⟨hmin.1,by show bV M<=_;lia⟩
  have e6:=kP (lV hal)
  have e7:D.ix (aK S a).enc (.int 3)=.ok (.tup (aE (aK S a).who)):=sZ
  have hE:(S.map Scene.enc).isEmpty=false:=by simp[hS]
  rw[hE]at t1
  have rg:=nT (n:=P.length) (by lia)
  have hwho:=tM hal
  have lp:Bt.run .len [.tup (P.map Part.enc)]=.ok (.int (P.length:Int)):=by rw[nL,aD]
  generalize (aK S a).who=W at *
  have c2:aU (dJ T (aA T dfs (n+2)) (.one 0) FD FC [.no,.v (.tup (aE W))]) ((aI P.length).map aL)=.ok (((aI P.length).filter λk=>!decide (k∈W)).map aL):=by
   refine tF aL _ λk _=>?_
   have e:=E1 (i:=k) (ws:=W)
   unfold aL
   generalize decide (k∈W)=b at e⊢
   cases b with
   |true=>rw[if_neg (by decide)];have e':D.cmp .NotIn (.int (k:Int)) (.tup (aE W))=.ok (.bl false):=e;lk
   |false=>rw[if_pos (show(!false)=true from rfl)];have e':D.cmp .NotIn (.int (k:Int)) (.tup (aE W))=.ok (.bl true):=e;lk
  have l2:((aI P.length).map aL).length<=big:=by rw[aD,eS];lia
  have f1:=Lq (eC aL 29 (EG 29) ((aI P.length).filter λk=>!decide (k∈W)))
  have f2:=Mc (nN 29 W)
  have lw:Bt.run .len [.tup (aE W)]=.ok (.int W.length):=by rw[nL,lS]
  have hout:∀k∈(aI P.length).filter (λk=>!decide (k∈W)),k<P.length/\k∉W:=λk hk=>by
   obtain⟨h1,h2⟩:=dW.mp hk
   exact⟨by simpa using h1,by simpa using h2⟩
  generalize (aI P.length).filter (λk=>!decide (k∈W))=U at *
  generalize (aI P.length).map aL=RG at *
  have lu:Bt.run .len [.lst (U.map aL)]=.ok (.int U.length):=by rw[xH,aD]
  have mv1:=fH M (show(S.length:Int)≠0 by lia)
  have mv2:=jI M hL0
  obtain⟨t,ht⟩:∃t:Nat,M%(S.length:Int)=t:=⟨(M%(S.length:Int)).toNat,by lia⟩
  have htl:t<S.length:=by lia
  have mt:D.bin .Mod (.int M) (.int (S.length:Int))=.ok (.int (t:Int)):=by rw[iH hL0,ht]
  have hmf:(Chg.mov a t).fit P.length S:=⟨hal,htl⟩
  generalize s.enc=z at *
  generalize (aK S a).enc=y at *
  generalize S.map Scene.enc=SE at *
  generalize P.map Part.enc=PE at *
  generalize (S.length:Int)=sl at *
  have q0:(q==0)=false:=by simp[h0]
  have preU:∀d,exS T (aA T dfs (n+2)) gcU [.v BK,.v (.int cell),.v (.tup SE),.v (.int q),.v (.int N),.v z,.v (.int (a:Int)),.v (.int M),.no,.no]=.ok (.rt d false) ->
   aA T dfs (n+3) 58 [BK,.int cell]=.ok d:=by
   intro d h
   refine pre d ?_
   show exS T (aA T dfs (n+2)) (.cons (hdS gcT) (.cons (hdS (tl1 gcT)) (.cons (hdS (tl1 (tl1 gcT))) gcU))) _=_
   generalize gcU=R at h⊢
   dsimp only[gcT,hdS,tl1]
   refine' dZ (o1:=.nx ?ye1) ?yh1 (eA (dZ (o1:=.nx ?ye2) ?yh2 (eA (dZ (o1:=.nx ?ye3) ?yh3 (eA h)))))
   case yh1=>lk
   case yh2=>lk
   case yh3=>lk
  have preV:(q==1)=false->decide (q<4)=false->∀d,exS T (aA T dfs (n+2)) gcV [.v BK,.v (.int cell),.v (.tup SE),.v (.int q),.v (.int N),.v z,.v (.int (a:Int)),.v (.int M),.v (.tup (aE W)),.v (.lst (U.map aL))]=.ok (.rt d false) ->
   aA T dfs (n+3) 58 [BK,.int cell]=.ok d:=by
   intro q1 q4 d h
   refine preU d ?_
   show exS T (aA T dfs (n+2)) (.cons (hdS gcU) (.cons (hdS (tl1 gcU)) (.cons (hdS (tl1 (tl1 gcU))) (.cons (hdS (tl1 (tl1 (tl1 gcU)))) gcV)))) _=_
   generalize gcV=R at h⊢
   dsimp only[gcU,gcT,hdS,tl1]
   refine' dZ (o1:=.nx ?ze1) ?zh1 (eA (dZ (o1:=.nx ?ze2) ?zh2 (eA (dZ (o1:=.nx ?ze3) ?zh3 (eA (dZ (o1:=.nx ?ze4) ?zh4 (eA h)))))))
   case zh1=>lk
   case zh2=>lk
   case zh3=>lk
   case zh4=>lk
  clear pre c2 c1 rg e0 e1
  rcases w7 with h|h|h|h|h|h|h
  ·exact absurd h h0
  ·subst h
   refine⟨.cut a,hal,preU _ ?_⟩
   dsimp only[Chg.enc,gcU,gcT,tl1]
   lk
  ·subst h
   refine⟨.len a (bV M),⟨hal,hmin'⟩,preU _ ?_⟩
   dsimp only[Chg.enc,gcU,gcT,tl1]
   lk
  ·subst h
   refine⟨.pau a (bV M),⟨hal,hmin'⟩,preU _ ?_⟩
   dsimp only[Chg.enc,gcU,gcT,tl1]
   lk
  ·subst h
   refine⟨.mov a t,hmf,preV rfl rfl _ ?_⟩
   dsimp only[Chg.enc,gcV,gcU,gcT,tl1]
   lk
  ·subst h
   by_cases hU:U=[]
   ·refine⟨.mov a t,hmf,preV rfl rfl _ ?_⟩
    have f1':D.cmp .NotEq (.lst (U.map aL)) (.lst [])=.ok (.bl false):=by rw[f1,hU];rfl
    generalize U.map aL=UN at *
    dsimp only[Chg.enc,gcV,gcU,gcT,tl1]
    lk
   ·obtain⟨p1,p,p2,p3⟩:=Fy hU M
    have hUl:0<(U.length:Int):=by have:=lG.mpr hU;lia
    have f1':D.cmp .NotEq (.lst (U.map aL)) (.lst [])=.ok (.bl true):=by rw[f1];simp[hU]
    have e8:D.ix (.lst (U.map aL)) (.int (M%(U.length:Int)))=.ok (.int (p:Int)):=Dd p1 (by rw[cE,p3];rfl)
    refine⟨.ent a p,⟨hal,(hout p p2).1,by rw[hwho];exact(hout p p2).2⟩,preV rfl rfl _ ?_⟩
    have mu:=iH (i:=M) hUl
    generalize U.map aL=UN at *
    generalize (U.length:Int)=ul at *
    dsimp only[Chg.enc,gcV,gcU,gcT,tl1]
    lk
  ·subst h
   by_cases hW:W=[]
   ·refine⟨.mov a t,hmf,preV rfl rfl _ ?_⟩
    have f2':D.cmp .NotEq (.tup (aE W)) (.tup [])=.ok (.bl false):=by rw[hW];rfl
    generalize aE W=WN at *
    dsimp only[Chg.enc,gcV,gcU,gcT,tl1]
    lk
   ·obtain⟨p1,p,p2,p3⟩:=Fy hW M
    have hWl:0<(W.length:Int):=by have:=lG.mpr hW;lia
    have f2':D.cmp .NotEq (.tup (aE W)) (.tup [])=.ok (.bl true):=by
     rw[f2]
     cases W with
     |nil=>exact absurd rfl hW
     |cons _ _=>rfl
    have e8:D.ix (.tup (aE W)) (.int (M%(W.length:Int)))=.ok (.int (p:Int)):=ix_tI p1 (by rw[xN,cE,p3];rfl)
    refine⟨.lea a p,⟨hal,by rw[hwho];exact p2⟩,preV rfl rfl _ ?_⟩
    have mu:=iH (i:=M) hWl
    generalize aE W=WN at *
    generalize (W.length:Int)=wl at *
    dsimp only[Chg.enc,gcV,gcU,gcT,tl1]
    lk
theorem Me(n:Nat)(P:List Part)(A B C:D)(S:List Scene)(c:Chg)(hp:P.length<=8)(hf:c.fit P.length S):aA T dfs (n+7) 42 [.tup [.tup (P.map Part.enc),A,.tup (S.map Scene.enc),B,C],c.enc]=.ok (.lst ((gG S c).map Chg.enc)):=by
 refine aJ (k:=true) rfl rfl rfl ?_
 have e1:=Fq n P A B C S c hp hf
 have two:∀a,a<S.length->D.ix (.tup (S.map Scene.enc)) (.int (a:Int))=.ok (aK S a).enc:=λa h=>kP (lV h)
 have x2:D.ix (.tup [.tup (P.map Part.enc),A,.tup (S.map Scene.enc),B,C]) (T.glob 4)=.ok (.tup (S.map Scene.enc)):=rfl
 generalize D.tup [.tup (P.map Part.enc),A,.tup (S.map Scene.enc),B,C]=BK at *
 cases c with
 |mov a t=>
  simp only[Chg.enc,gG,aG,dQ]at e1⊢
  have s0:D.cmp .Eq (.str "move") (.str "move")=.ok (.bl true):=by simp[aX]
  lk
 |add a s=>
  simp only[Chg.enc,gG,aG,dQ]at e1⊢
  have s0:D.cmp .Eq (.str "add") (.str "move")=.ok (.bl false):=by simp[aX]
  have s1:D.cmp .Eq (.str "add") (.str "add")=.ok (.bl true):=by simp[aX]
  generalize s.enc=z at *
  lk
 |cut a=>
  have e2:=two a hf
  simp only[Chg.enc,gG,aG,dQ]at e1⊢
  have s0:D.cmp .Eq (.str "cut") (.str "move")=.ok (.bl false):=by simp[aX]
  have s1:D.cmp .Eq (.str "cut") (.str "add")=.ok (.bl false):=by simp[aX]
  have s2:D.cmp .Eq (.str "cut") (.str "cut")=.ok (.bl true):=by simp[aX]
  generalize (aK S a).enc=z at *
  generalize S.map Scene.enc=SE at *
  lk
 |len a m=>
  have e2:=two a hf.1
  simp only[Chg.enc,gG,aG,dQ]at e1⊢
  have s0:D.cmp .Eq (.str "length") (.str "move")=.ok (.bl false):=by simp[aX]
  have s1:D.cmp .Eq (.str "length") (.str "add")=.ok (.bl false):=by simp[aX]
  have s2:D.cmp .Eq (.str "length") (.str "cut")=.ok (.bl false):=by simp[aX]
  generalize (aK S a).enc=z at *
  generalize S.map Scene.enc=SE at *
  lk
 |pau a m=>
  have e2:=two a hf.1
  simp only[Chg.enc,gG,aG,dQ]at e1⊢
  have s0:D.cmp .Eq (.str "pause") (.str "move")=.ok (.bl false):=by simp[aX]
  have s1:D.cmp .Eq (.str "pause") (.str "add")=.ok (.bl false):=by simp[aX]
  have s2:D.cmp .Eq (.str "pause") (.str "cut")=.ok (.bl false):=by simp[aX]
  generalize (aK S a).enc=z at *
  generalize S.map Scene.enc=SE at *
  lk
 |ent a p=>
  have e2:=two a hf.1
  simp only[Chg.enc,gG,aG,dQ]at e1⊢
  have s0:D.cmp .Eq (.str "enter") (.str "move")=.ok (.bl false):=by simp[aX]
  have s1:D.cmp .Eq (.str "enter") (.str "add")=.ok (.bl false):=by simp[aX]
  have s2:D.cmp .Eq (.str "enter") (.str "cut")=.ok (.bl false):=by simp[aX]
  generalize (aK S a).enc=z at *
  generalize S.map Scene.enc=SE at *
  lk
 |lea a p=>
  have e2:=two a hf.1
  simp only[Chg.enc,gG,aG,dQ]at e1⊢
  have s0:D.cmp .Eq (.str "leave") (.str "move")=.ok (.bl false):=by simp[aX]
  have s1:D.cmp .Eq (.str "leave") (.str "add")=.ok (.bl false):=by simp[aX]
  have s2:D.cmp .Eq (.str "leave") (.str "cut")=.ok (.bl false):=by simp[aX]
  generalize (aK S a).enc=z at *
  generalize S.map Scene.enc=SE at *
  lk
theorem notPr3(p:Nat×Nat)(ps:List (Nat×Nat)):D.cmp .NotIn (aB p) (.lst (ps.map aB))=.ok (.bl (!decide (p∈ps))):=by
 show(do let k<-aC (D.pls 30 (ps.map aB)&&D.pl 29 (aB p)) (.ok (D.mem (aB p) (ps.map aB)));.ok (D.bl (!k)))=_
 rw[eC aB 29 (jV 28),jV 28,pV];rfl
theorem Mf(n:Nat)(P:List Part)(Q:List Player)(X Y Z:D)(hv:∀p∈P,(aH p.voice).length=1)(cs:List (Option Nat))(hc:∀j,some j∈cs->j<Q.length)(k:Nat)(hk:k<P.length)(hk2:k<cs.length) :
 aA T dfs (n+1) 27 [.tup [.tup (P.map Part.enc),.tup (Q.map Player.enc),X,Y,Z],.int k,aT (cs.getD k none)]=.ok (eM (gF P Q cs k)):=by
 refine aJ (k:=false) rfl rfl rfl ?_
 have h0:D.ix (.tup [.tup (P.map Part.enc),.tup (Q.map Player.enc),X,Y,Z]) (T.glob 2)=.ok (.tup (P.map Part.enc)):=rfl
 have h1:D.ix (.tup [.tup (P.map Part.enc),.tup (Q.map Player.enc),X,Y,Z]) (T.glob 3)=.ok (.tup (Q.map Player.enc)):=rfl
 unfold gF
 cases h:cs.getD k none with
 |none=>
  dsimp only[eM,Flt.enc,aT]
  lk
 |some j=>
  have hj:j<Q.length:=hc j (by
   have:=EK hk2
   rw[h]at this
   exact iO this)
  have e1:=sY (aR hk)
  have e2:=ED (aR hj)
  have e3:=Ll (p:=P[k]) (q:=Q[j]) (hv _ (jH hk))
  rw[<-EF hk hj]at e3
  have e4:=EC (s:=P[k])
  have e5:=EB (s:=Q[j])
  dsimp only[aT]
  generalize D.tup [.tup (P.map Part.enc),.tup (Q.map Player.enc),X,Y,Z]=BK at *
  generalize nZ P Q k j=c at *
  generalize P[k].enc=pk at *
  generalize Q[j].enc=qj at *
  cases c with
  |true=>rw[if_pos rfl];dsimp only[eM];lk
  |false=>rw[if_neg bR];dsimp only[eM,Flt.enc];lk
theorem Fz(n:Nat)(cs:List (Option Nat))(i j:Nat)(hi:i<cs.length)(hj:j<cs.length):aA T dfs (n+1) 28 [.lst (cs.map aT),.int i,.int j]=.ok (.bl (dE cs i j)):=by
 refine aJ (k:=false) rfl rfl rfl ?_
 have e1:=EL hi
 have e2:=EL hj
 have e3:=Lp (cs.getD i none) (cs.getD j none)
 unfold dE
 generalize cs.getD i none=a at *
 generalize cs.getD j none=b at *
 generalize cs.map aT=cd at *
 cases a with
 |none=>dsimp only[aT]at e1;lk
 |some x=>rw[EE]at e1 e3;generalize aT b=bd at *;generalize decide (some x=b)=q at *;show _=Res.ok (Out.rt (D.bl q) false);lk
theorem GA:∀(l:List D)(k:Int),(bX k l).length=l.length
 |[],_=>rfl
 |_::l,k=>by rw[bX,aW,aW,GA l (k+1)]
theorem Mg(n:Nat)(P:List Part)(Q:List Player)(S:List Scene)(Y Z:D)(hp:P.length<=8)(hs:S.length<=24)(hv:∀p∈P,(aH p.voice).length=1)(cs:List (Option Nat))(hl:cs.length=P.length)(hc:∀j,some j∈cs->j<Q.length)(ps:List (Nat×Nat))(hps:∀p∈ps,p.1<P.length/\p.2<P.length)(hpl:ps.length<=100)
 (cl:aA T dfs (n+5) 26 [.tup [.tup (P.map Part.enc),.tup (Q.map Player.enc),.tup (S.map Scene.enc),Y,Z]]=.ok (.lst (ps.map aB))) :
 aA T dfs (n+6) 29 [.tup [.tup (P.map Part.enc),.tup (Q.map Player.enc),.tup (S.map Scene.enc),Y,Z],.lst (cs.map aT)]=.ok (.lst ((gY P Q ps cs).map Flt.enc)):=by
 have hb:=bI
 refine aJ (k:=true) rfl rfl rfl ?_
 have c1:aU (dJ T (aA T dfs (n+5)) (.many [0,1]) Ei (.con (.bl true)) [.no,.no,.v (.tup [.tup (P.map Part.enc),.tup (Q.map Player.enc),.tup (S.map Scene.enc),Y,Z])]) (bX 0 (cs.map aT))=.ok ((aI cs.length).map λk=>eM (gF P Q cs k)):=by
  have e:=EJ aT none cs 0
  rw[show((0:Nat):Int)=0 from rfl]at e
  rw[e,gE (λk=>D.tup [.int ((0+k:Nat):Int),aT (cs.getD k none)]) (λk=>some (eM (gF P Q cs k))) (by
   intro k hk
   have hk:k<cs.length:=by simpa using hk
   have e1:=Mf (n+4) P Q (.tup (S.map Scene.enc)) Y Z hv cs hc k (by lia) hk
   simp only[Ai]
   generalize aT (cs.getD k none)=z at e1⊢
   generalize D.tup [.tup (P.map Part.enc),.tup (Q.map Player.enc),.tup (S.map Scene.enc),Y,Z]=BK at *
   lk),lH]
 have c2:∀(l:List (Option Flt)),aU (dJ T (aA T dfs (n+5)) (.one 0) Ek Ej [.no]) (l.map eM)=.ok ((l.filterMap id).map Flt.enc):=by
  intro l
  rw[gE eM (λo=>o.map Flt.enc) (by
   intro o _
   have q:=Lr (o:=o)
   cases o with
   | none => have q' : (!(eM none).isNon) = false := by rw [q]; rfl
             lk
   | some f => have q' : (!(eM (some f)).isNon) = true := by rw [q]; rfl
               show _=Res.ok (some (eM (some f)))
               generalize eM (some f)=z at *
               lk)]
  refine congrArg Res.ok ?_
  induction l with
  |nil=>rfl
  |cons o r ih=>cases o<;>simp[ih]
 have c3:aU (dJ T (aA T dfs (n+5)) (.many [0,1]) Em El [.no,.no,.v (.lst (cs.map aT))]) (ps.map aB)=.ok (((ps.filter λp=>dE cs p.1 p.2).map λp=>Flt.cla p.1 p.2).map Flt.enc):=by
  rw[gE aB (λp=>if dE cs p.1 p.2=true then some (Flt.enc (.cla p.1 p.2))else none) (by
   intro p hp'
   have h:=hps p hp'
   have e1:=Fz (n+4) cs p.1 p.2 (by lia) (by lia)
   generalize dE cs p.1 p.2=c at *
   generalize cs.map aT=cd at *
   unfold aB
   dsimp only[Flt.enc]
   cases c with
   |true=>rw[if_pos rfl];lk
   |false=>rw[if_neg bR];lk)]
  refine congrArg Res.ok ?_
  clear cl hpl hps
  induction ps with
  |nil=>rfl
  |cons p r ih=>
   rw[mL,Gn]
   cases dE cs p.1 p.2<;>simp[ih]
 have c4:((aI cs.length).map λk=>eM (gF P Q cs k))=((aI cs.length).map (gF P Q cs)).map eM:=by rw[bB];rfl
 rw[c4]at c1
 have c5:=c2 ((aI cs.length).map (gF P Q cs))
 have l1:cs.length<=big:=by lia
 have l2:(((aI cs.length).map (gF P Q cs)).map eM).length<=big:=by simp;lia
 have l3:ps.length<=big:=by lia
 have l5:=lF (λp:Nat×Nat=>dE cs p.1 p.2) ps
 have l6:(((aI cs.length).map (gF P Q cs)).filterMap id).length<=cs.length:=by
  have:=List.length_filterMap_le id ((aI cs.length).map (gF P Q cs))
  simpa using this
 have f1:gY P Q ps cs=((aI cs.length).map (gF P Q cs)).filterMap id++(ps.filter λp=>dE cs p.1 p.2).map λp=>Flt.cla p.1 p.2:=by
  unfold gY
  rw[Gc];rfl
 rw[f1]
 generalize ((aI cs.length).map (gF P Q cs)).filterMap id=A at *
 generalize hB:((aI cs.length).map (gF P Q cs)).map eM=B at *
 have l7:A.length+((ps.filter λp=>dE cs p.1 p.2)).length<=big:=by lia
 generalize hG:(ps.filter λp=>dE cs p.1 p.2).map (λp=>Flt.cla p.1 p.2)=G at *
 have l8:A.length+G.length<=big:=by rw[<-hG,aD];exact l7
 have l1:(bX 0 (cs.map aT)).length<=big:=by rw[GA,aD];exact l1
 have l3:(ps.map aB).length<=big:=by rw[aD];exact l3
 have l8:(A.map Flt.enc).length+(G.map Flt.enc).length<=big:=by rw[aD,aD];exact l8
 have en:=Kv (ds:=cs.map aT)
 rw[cS]
 generalize D.tup [.tup (P.map Part.enc),.tup (Q.map Player.enc),.tup (S.map Scene.enc),Y,Z]=BK at *
 generalize bX 0 (cs.map aT)=ed at *
 generalize cs.map aT=cd at *
 generalize ps.map aB=pd at *
 lk
theorem Mh(n:Nat)(w:Str)(h:w.length<1000)(hn:(aH w).Nodup):aA T dfs (n+1) 1 [.str w]=.ok (.bl true):=by
 refine aJ (k:=false) rfl rfl rfl ?_
 have hb:=bI
 have h1:w.length=(aH w).length:=fM w
 have e1:((aH w).map λc=>(Sum.inr (cH c):Sum Int Str)).Nodup:=by
  exact tJ (λa b e=>by simp[cH]at e;exact e) hn
 have e2:=xS e1
 have e3:(iD ((aH w).map λc=>(Sum.inr (cH c):Sum Int Str))).length=(aH w).length:=by rw[e2,aD]
 have e4:(aH w).length+1<4096:=by lia
 have e5:(aH w).length<=big:=by lia
 have es:=xF (Lf w)
 simp[qE,es,e3,e4,h1,e5]
theorem Mi(n:Nat)(ns:List Nat)(h:ns.length<1000)(hn:ns.Nodup):aA T dfs (n+1) 1 [.lst (ns.map λi:Nat=>D.int i)]=.ok (.bl true):=by
 refine aJ (k:=false) rfl rfl rfl ?_
 have e0:∀ns:List Nat,gQ (ns.map λi:Nat=>D.int i)=.ok (ns.map λi:Nat=>(Sum.inl (i:Int):Sum Int Str)):=by
  intro ns
  induction ns with
  |nil=>rfl
  |cons a r ih=>rw[aG,gQ,ih];rfl
 have e1:(ns.map λi:Nat=>(Sum.inl (i:Int):Sum Int Str)).Nodup:=by
  exact tJ (λa b e=>by simp at e;exact Gq.inj e) hn
 have e2:=xS e1
 have e3:(iD (ns.map λi:Nat=>(Sum.inl (i:Int):Sum Int Str))).length=ns.length:=by rw[e2,aD]
 have e4:ns.length+1<4096:=by lia
 have es:=xF (x:=.lst (ns.map λi:Nat=>D.int i)) (e0 ns)
 simp[qE,es,e3,e4]
theorem mH(n m:Nat)(hm:m<10^9):aA T dfs (n+2) 3 [.str (bG m)]=.ok (.bl true):=by
 refine aJ (k:=false) rfl rfl rfl ?_
 have hb:=bI
 have hs:aH (bG m)=cK m:=by simp[aH,bG]
 have hl:=fM (bG m)
 rw[hs]at hl
 have h2:=xR (by lia) hm
 have h1:1<=(cK m).length:=by
  have:=Dx m
  cases e:cK m with
  |nil=>exact absurd e this
  |cons _ _=>simp
 have e0:(aH (bG m)).all (dN "0123456789")=true:=by
  rw[hs,gO]
  intro c hc
  have:=xQ hc
  have:c=48\/c=49\/c=50\/c=51\/c=52\/c=53\/c=54\/c=55\/c=56\/c=57:=by lia
  rcases this with rfl|rfl|rfl|rfl|rfl|rfl|rfl|rfl|rfl|rfl<;>decide
 have e1:=AY n "0123456789" (bG m) (by lia)
 rw[e0]at e1
 have e2:(cK m).length<=big:=by lia
 have e3:(1:Int)<=((cK m).length:Int):=by lia
 have e4:((cK m).length:Int)<=9:=by lia
 have e5:(do let x<-D.cmp .Eq (.str (bG m)) (.str "0");let k<-x.truth;if k=true then Res.ok x else do let x<-(D.str (bG m)).ix (.int 0);D.cmp .NotEq x (.str "0"))=Res.ok (.bl true):=by
  rw[aX]
  by_cases hz:m=0
  ·subst hz
   have:(bG 0 == "0")=true:=by
    rw[show bG 0 = "0" from pR (by rw[hs,Ld];decide)];decide
   rw[this];rfl
  ·obtain⟨c,r,q1,q2⟩:=Lc hz
   have h6:(bG m == "0")=false:=pS (by
    rw[hs,q1,show aH "0" = [48] by decide]
    intro e;injection e with e _;exact q2 e)
   rw[h6]
   show(do let x<-(D.str (bG m)).ix (.int 0);D.cmp .NotEq x (.str "0"))=Res.ok (.bl true)
   rw[Lh (hs.trans q1) (by lia)]
   show D.cmp .NotEq (.str (cH c)) (.str "0")=_
   rw[Dz,show(cH c == "0")=false from pS (by
    rw[show aH (cH c)=[c]from rfl,show aH "0" = [48] by decide]
    intro e;injection e with e _;exact q2 e)]
   rfl
 simp[yN,hl,e1,e2,e3,e4,e5]
theorem Mj (n c:Nat) (h:dN "abcdefghijklmnopqrstuvwxyz" c=true):aA T dfs (n+1) 4 [.str (cH c)]=.ok (.bl true):=by
 refine aJ (k:=false) rfl rfl rfl ?_
 have hb:=bI
 have h1:(cH c).length=1:=rfl
 have e1:1<=big:=by lia
 simp[yO,h1,h,e1]
theorem Mk (n:Nat) (w:Str) (h0:1<=(aH w).length) (h1:(aH w).length<1000) (h2:(aH w).Nodup) (h3:(aH w).all (dN "abcdefghijklmnopqrstuvwxyz")=true):aA T dfs (n+2) 5 [.str w]=.ok (.bl true):=by
 refine aJ (k:=false) rfl rfl rfl ?_
 have hb:=bI
 have hl:=fM w
 have e1:=AY n "abcdefghijklmnopqrstuvwxyz" w (by lia)
 rw[h3]at e1
 have e2:=Mh n w (by lia) h2
 have e3:(w == "-")=false:=pS (λe=>by
  rw[e,show aH "-" = [45] by decide]at h3
  exact absurd h3 (by decide))
 have e4:(w == "")=false:=pS (λe=>by rw[e]at h0;exact absurd h0 (by decide))
 simp[tO,aX,Dz,e1,e2,e3,e4]
theorem Ml (n:Nat):aA T dfs (n+1) 5 [.str "-"]=.ok (.bl true):=by
 refine aJ (k:=false) rfl rfl rfl ?_
 have e3:(("-" : Str) == "-")=true:=by decide
 simp[tO,aX,e3]
theorem A1(n:Nat)(A:D)(nm:Str)(k:Int)(p:Str×List D)(x y:Sl):bJ T (aA T dfs n) (.many [2,3]) kS (.tup [.int k,ent p]) [.v A,.v (.str nm),x,y]=(if p.1==nm then .ok (.rt (.int k) false)else .ok (.nx [.v A,.v (.str nm),.v (.int k),.v (ent p)])):=by
 cases h:(p.1==nm)<;>simp[bJ,kS,ent,aX,h]
theorem GC(n:Nat)(A:D)(nm:Str):∀(ps:List (Str×List D))(k:Int)(x y:Sl),
 (∀p∈ps,p.1≠nm)->∃x' y',bH (bJ T (aA T dfs n) (.many [2,3]) kS) (bX k (ps.map ent)) [.v A,.v (.str nm),x,y]=.ok (.nx [.v A,.v (.str nm),x',y'])
 |[],k,x,y,_=>⟨x,y,rfl⟩
 |p::r,k,x,y,h=>by
  have h1:(p.1==nm)=false:=by simpa using h p bA
  have e:=A1 n A nm k p x y
  rw[h1]at e
  rw[aG,bX,dY e]
  exact GC n A nm r (k+1) _ _ λq hq=>h q (aY _ hq)
theorem GD(n:Nat)(A:D)(nm:Str):∀(ps:List (Str×List D))(k:Int)(x y:Sl)(i:Nat)(p:Str×List D),
 ps[i]?=some p->p.1=nm->(∀j q,j<i->ps[j]?=some q->q.1≠nm)->bH (bJ T (aA T dfs n) (.many [2,3]) kS) (bX k (ps.map ent)) [.v A,.v (.str nm),x,y]=.ok (.rt (.int (k+i)) false)
 |[],k,x,y,i,p,h,_,_=>by simp at h
 |q::r,k,x,y,0,p,h,hp,_=>by
  simp at h;subst h
  have e:=A1 n A nm k q x y
  rw[show(q.1==nm)=true by simpa using hp]at e
  rw[aG,bX,Di e]
  simp
 |q::r,k,x,y,i+1,p,h,hp,hl=>by
  have h1:(q.1==nm)=false:=by simpa using hl 0 q (by lia) (by simp)
  have e:=A1 n A nm k q x y
  rw[h1]at e
  rw[aG,bX,dY e,GD n A nm r (k+1) _ _ i p (by simpa using h) hp λj q' hj hq=>hl (j+1) q' (by lia) (by simpa using hq)]
  congr 2
  push_cast
  congr 1
  lia
theorem Mm(n:Nat)(ps:List (Str×List D))(nm:Str)(h:∀p∈ps,p.1≠nm):aA T dfs (n+1) 6 [.tup (ps.map ent),.str nm]=.ok .non:=by
 refine aJ (k:=false) rfl rfl rfl ?_
 obtain⟨x,y,e⟩:=GC n (.tup (ps.map ent)) nm ps 0 .no .no h
 simp[qF,jT,e]
theorem qU(n:Nat)(ps:List (Str×List D))(i:Nat)(p:Str×List D)(h:ps[i]?=some p)(hn:(ps.map (·.1)).Nodup):aA T dfs (n+1) 6 [.tup (ps.map ent),.str p.1]=.ok (.int i):=by
 refine aJ (k:=false) rfl rfl rfl ?_
 have e:=GD n (.tup (ps.map ent)) p.1 ps 0 .no .no i p h rfl λj q hj hq e=>by
  have h1:(ps.map (·.1))[j]?=some p.1:=by rw[cE,hq,<-e];rfl
  have h2:(ps.map (·.1))[i]?=some p.1:=by rw[cE,h];rfl
  have hi:i<(ps.map (·.1)).length:=(fE.mp h2).1
  have hj':j<(ps.map (·.1)).length:=(fE.mp h1).1
  have:=(List.getElem?_inj hj' hn).mp (h1.trans h2.symm)
  lia
 simp[qF,jT,e]
theorem uK(n:Nat)(ps:List (Str×List D))(nm:Str)(hm:bS nm)(h:∀p∈ps,p.1≠nm):aA T dfs (n+3) 7 [.tup (ps.map ent),.str nm]=.ok (.bl true):=by
 refine aJ (k:=false) rfl rfl rfl ?_
 have e1:=Fn n nm hm
 have e2:=Mm (n+1) ps nm h
 simp[tP,e1,e2]
theorem Mn (n:Nat) (ps:List (Str×List D)) (A B C G:D) (nm:Str) (v off on:Nat) (hm:bS nm) (hn:∀p∈ps,p.1≠nm) (hv:dN "abcdefghijklmnopqrstuvwxyz" v=true) (h1:off<10^9) (h2:on<10^9) :
 aA T dfs (n+4) 8 [.tup [.tup (ps.map ent),A,B,C,G],.lst [.str "part", .str nm,.str (cH v),.str (bG off),.str (bG on)]]=.ok (ent (nm,[.str (cH v),.int off,.int on])):=by
 refine aJ (k:=false) rfl rfl rfl ?_
 have e1:=uK n ps nm hm hn
 have e2:=Mj (n+2) v hv
 have e3:=mH (n+1) off h1
 have e4:=mH (n+1) on h2
 have e5:=lT off h1
 have e6:=lT on h2
 simp[yP,ent,e1,e2,e3,e4,e5,e6]
theorem Mo (n:Nat) (ps:List (Str×List D)) (A B C G:D) (nm w:Str) (hire:Nat) (hm:bS nm) (hn:∀p∈ps,p.1≠nm) (h0:1<=(aH w).length) (h1:(aH w).length<1000) (h2:(aH w).Nodup) (h3:(aH w).all (dN "abcdefghijklmnopqrstuvwxyz")=true) (h4:hire<10^9) :
 aA T dfs (n+4) 9 [.tup [A,.tup (ps.map ent),B,C,G],.lst [.str "player", .str nm,.str w,.str (bG hire)]]=.ok (ent (nm,[.str w,.int hire])):=by
 refine aJ (k:=false) rfl rfl rfl ?_
 have e1:=uK n ps nm hm hn
 have e2:=Mk (n+1) w h0 h1 h2 h3
 have e3:=mH (n+1) hire h4
 have e5:=lT hire h4
 have e6:(w == "-")=false:=pS (λe=>by
  rw[e,show aH "-" = [45] by decide]at h3
  exact absurd h3 (by decide))
 simp[tQ,ent,aX,e1,e2,e3,e5,e6]
theorem Mp(n:Nat)(ps:List (Str×List D))(A B C G:D)(nm:Str)(hire:Nat)(hm:bS nm)(hn:∀p∈ps,p.1≠nm)(h4:hire<10^9) :
 aA T dfs (n+4) 9 [.tup [A,.tup (ps.map ent),B,C,G],.lst [.str "player", .str nm,.str "-", .str (bG hire)]]=.ok (ent (nm,[.str "", .int hire])):=by
 refine aJ (k:=false) rfl rfl rfl ?_
 have e1:=uK n ps nm hm hn
 have e2:=Ml (n+2)
 have e3:=mH (n+1) hire h4
 have e5:=lT hire h4
 have e6:(("-" : Str) == "-")=true:=by decide
 simp[tQ,ent,aX,e1,e2,e3,e5,e6]
theorem Mq(n:Nat)(ps qs:List (Str×List D))(cs:List (Nat×Nat))(B C:D)(i k:Nat)(p q:Str×List D)(hp:ps[i]?=some p)(hq:qs[k]?=some q)(hn:(ps.map (·.1)).Nodup)(hm:(qs.map (·.1)).Nodup)(hc:(i,k)∉cs) :
 aA T dfs (n+2) 12 [.tup [.tup (ps.map ent),.tup (qs.map ent),B,C,.tup (cs.map λc:Nat×Nat=>D.tup [.int c.1,.int c.2])],.lst [.str "cover", .str p.1,.str q.1]]=.ok (.tup [.int i,.int k]):=by
 refine aJ (k:=false) rfl rfl rfl ?_
 have e1:=qU n ps i p hp hn
 have e2:=qU n qs k q hq hm
 have e3:D.cmp .In (.tup [.int i,.int k]) (.tup (cs.map λc:Nat×Nat=>D.tup [.int c.1,.int c.2]))=.ok (.bl false):=by
  show(D.inn _ _>>=λk=>Res.ok (D.bl k))=_
  rw[Li hc];rfl
 simp[yU,e1,e2,e3]
theorem Mr(n:Nat)(ps qs:List (Str×List D))(ls:List (Nat×Nat×Nat))(B G:D)(i k m:Nat)(p q:Str×List D)(hp:ps[i]?=some p)(hq:qs[k]?=some q)(hn:(ps.map (·.1)).Nodup)(hm:(qs.map (·.1)).Nodup)(hc:(k,i)∉ls.map λl=>(l.1,l.2.1))(hl:ls.length<=1000)(h1:m<10^9) :
 aA T dfs (n+3) 11 [.tup [.tup (ps.map ent),.tup (qs.map ent),B,.tup (ls.map λl:Nat×Nat×Nat=>D.tup [.int l.1,.int l.2.1,.int l.2.2]),G],.lst [.str "like", .str q.1,.str p.1,.str (bG m)]]=.ok (.tup [.int k,.int i,.int m]):=by
 refine aJ (k:=false) rfl rfl rfl ?_
 have hb:=bI
 have e1:=qU (n+1) ps i p hp hn
 have e2:=qU (n+1) qs k q hq hm
 have e4:=mH n m h1
 have e5:=lT m h1
 have e6:∀(env:Nv)(xs:List (Nat×Nat×Nat)),aU (bE T (aA T dfs (n+2)) 1 [] (.one 0) yS (.con (.bl true)) env) (xs.map λl:Nat×Nat×Nat=>D.tup [.int l.1,.int l.2.1,.int l.2.2])=.ok ((xs.map λl=>(l.1,l.2.1)).map λc:Nat×Nat=>D.tup [.int c.1,.int c.2]):=by
  intro env xs
  induction xs with
  |nil=>rfl
  |cons x r ih=>
   rw[aG,aU,ih]
   simp[bE,Tr.bT,yS]
   rfl
 have e7:D.cmp .In (.tup [.int k,.int i]) (.lst ((ls.map λl=>(l.1,l.2.1)).map λc:Nat×Nat=>D.tup [.int c.1,.int c.2]))=.ok (.bl false):=by
  show(D.inn _ _>>=λk=>Res.ok (D.bl k))=_
  rw[Lj hc];rfl
 have e8:ls.length<=big:=by lia
 rw[bB]at e7
 simp only[bB]at e6
 simp[yT,e1,e2,e4,e5,e6,e7,e8]
noncomputable def oK (ps:List (Str×List D)) (i:Nat):Str:=((ps[i]?).map (·.1)).getD ""
theorem Ms{p:Str×List D}(h:ps[i]?=some p):oK ps i=p.1:=by unfold oK;rw[h];rfl
theorem Mu(n:Nat)(ps ss:List (Str×List D))(A B G:D)(nm:Str)(len pause:Nat)(is:List Nat)(hm:bS nm)(hnew:∀p∈ss,p.1≠nm)(hn:(ps.map (·.1)).Nodup)(h1:len<10^9)(h2:pause<10^9)(hi:∀i∈is,i<ps.length)(hd:is.Nodup)(hl:is.length<900) :
 aA T dfs (n+4) 10 [.tup [.tup (ps.map ent),A,.tup (ss.map ent),B,G],.lst (.str "scene" :: .str nm::.str (bG len)::.str (bG pause)::is.map λi=>D.str (oK ps i))]=.ok (ent (nm,[.int len,.int pause,.tup (is.map λi:Nat=>D.int i)])):=by
 refine aJ (k:=false) rfl rfl rfl ?_
 have hb:=bI
 have e1:=uK n ss nm hm hnew
 have e3:=mH (n+1) len h1
 have e4:=mH (n+1) pause h2
 have e5:=lT len h1
 have e6:=lT pause h2
 have e7:∀(env:Nv)(xs:List Nat),(∀i∈xs,i<ps.length)->aU (bE T (aA T dfs (n+3)) 1 [0] (.one 0) yQ (.con (.bl true)) (.v (.tup [.tup (ps.map ent),A,.tup (ss.map ent),B,G])::env)) (xs.map λi=>D.str (oK ps i))=.ok (xs.map λi:Nat=>D.int i):=by
  intro env xs hx
  induction xs with
  |nil=>rfl
  |cons x r ih=>
   have q:=hx x bA
   have q1:=aR q
   have q2:=qU (n+2) ps x ps[x] q1 hn
   rw[<-Ms q1]at q2
   rw[aG,aU,ih λi h=>hx i (aY _ h)]
   simp[bE,Tr.bT,yQ,q2]
 have e7':=λenv=>e7 env is hi
 clear e7
 have e8:D.cmp .In .non (.lst (is.map λi:Nat=>D.int i))=.ok (.bl false):=by
  have a1:∀xs:List Nat,D.mem .non (xs.map λi:Nat=>D.int i)=false:=by
   intro xs
   induction xs with
   |nil=>rfl
   |cons x r ih=>rw[aG,D.mem,ih];rfl
  have a2:∀xs:List Nat,D.pls 30 (xs.map λi:Nat=>D.int i)=true:=by
   intro xs
   induction xs with
   |nil=>rfl
   |cons x r ih=>rw[aG,D.pls,ih];rfl
  show(aC (D.pls 30 _&&D.pl 29 .non) (.ok (D.mem _ _))>>=λk=>Res.ok (D.bl k))=_
  rw[a1,a2];rfl
 have e9:=Mi (n+2) is (by lia) hd
 have e10:cut (D.str "scene" :: .str nm::.str (bG len)::.str (bG pause)::is.map λi=>D.str (oK ps i)) (some 4) none=is.map λi=>D.str (oK ps i):=by
  exact(lU (a:=4) (by simp)).trans rfl
 have e11:is.length<=big:=by lia
 have e12:¬((is.length:Int)+1+1+1+1<4):=by lia
 simp[yR,ent,e1,e3,e4,e5,e6,e7',e8,e9,e10,e11,e12]
theorem qV (r:Str) (h:r.length<big):Mt.run .split (.str r) (.str " ")=.ok (.lst ((cT r 32).map D.str)):=by
 have e:(" " : Str)=⟨#[32]⟩:=by decide
 rw[e]
 show aC (decide (r.length<big)&&decide (32<256)) (.ok (D.lst ((cT r 32).map D.str)))=_
 rw[show decide (r.length<big)=true by simpa using h]
 rfl
theorem oM(xs:List D):D.cmp .Is (.tup xs) .non=.ok (.bl false):=rfl
theorem kin0:D.cmp .NotIn (.str "part") (.tup [.str "part", .str "player", .str "scene", .str "like", .str "cover"])=.ok (.bl false):=by rfl
theorem kin1:D.cmp .NotIn (.str "player") (.tup [.str "part", .str "player", .str "scene", .str "like", .str "cover"])=.ok (.bl false):=by rfl
theorem kin2:D.cmp .NotIn (.str "scene") (.tup [.str "part", .str "player", .str "scene", .str "like", .str "cover"])=.ok (.bl false):=by rfl
theorem kin3:D.cmp .NotIn (.str "like") (.tup [.str "part", .str "player", .str "scene", .str "like", .str "cover"])=.ok (.bl false):=by rfl
theorem kin4:D.cmp .NotIn (.str "cover") (.tup [.str "part", .str "player", .str "scene", .str "like", .str "cover"])=.ok (.bl false):=by rfl
theorem kix0:kJ ["part", "player", "scene", "like", "cover"] (.str "part")=.ok (.int 0):=by rfl
theorem kix1:kJ ["part", "player", "scene", "like", "cover"] (.str "player")=.ok (.int 1):=by rfl
theorem kix2:kJ ["part", "player", "scene", "like", "cover"] (.str "scene")=.ok (.int 2):=by rfl
theorem kix3:kJ ["part", "player", "scene", "like", "cover"] (.str "like")=.ok (.int 3):=by rfl
theorem kix4:kJ ["part", "player", "scene", "like", "cover"] (.str "cover")=.ok (.int 4):=by rfl
theorem ktab0(a b c d e:Nat):kI [a,b,c,d,e] (.int 0)=.ok a:=by rfl
theorem ktab1(a b c d e:Nat):kI [a,b,c,d,e] (.int 1)=.ok b:=by rfl
theorem ktab2(a b c d e:Nat):kI [a,b,c,d,e] (.int 2)=.ok c:=by rfl
theorem ktab3(a b c d e:Nat):kI [a,b,c,d,e] (.int 3)=.ok d:=by rfl
theorem ktab4(a b c d e:Nat):kI [a,b,c,d,e] (.int 4)=.ok e:=by rfl
theorem eO{a b:List D}(h:a.length+b.length<=big):D.bin .Add (.tup a) (.tup b)=.ok (.tup (a++b)):=by
 show aC (decide (a.length+b.length<=big)) (.ok (D.tup (a++b)))=_
 rw[show decide (a.length+b.length<=big)=true by simpa using h]
 rfl
theorem Mv (n:Nat) (ps:List D) (A B C G:D) (r:Str) (ws:List Str) (xs:List D) (hr:r.length<big) (hs:cT r 32=("part" : Str)::ws) (hl:ps.length<1000)
 (h:aA T dfs n 8 [.tup [D.tup ps,A,B,C,G],.lst (.str "part" :: ws.map D.str)]=.ok (.tup xs)) :
 aA T dfs (n+1) 13 [.tup [D.tup ps,A,B,C,G],.str r]=.ok (.tup [D.tup (ps++[D.tup xs]),A,B,C,G]):=by
 refine aJ (k:=true) rfl rfl rfl ?_
 have hb:=bI
 have e1:=qV r hr
 rw[hs,aG]at e1
 have e2:D.bin .Add (.tup ps) (.tup [.tup xs])=.ok (.tup (ps++[.tup xs])):=eO (by simp;lia)
 have e3:cut [D.tup ps,A,B,C,G] none (some 0)=[]:=rfl
 have e4:cut [D.tup ps,A,B,C,G] (some 1) none=[A,B,C,G]:=rfl
 have e5:D.bin .Add (.tup []) (.tup [.tup (ps++[.tup xs])])=.ok (.tup [D.tup (ps++[D.tup xs])]):=eO (by simp;lia)
 have e6:D.bin .Add (.tup [D.tup (ps++[D.tup xs])]) (.tup [A,B,C,G])=.ok (.tup [D.tup (ps++[D.tup xs]),A,B,C,G]):=eO (by simp;lia)
 simp[lX,e1,kin0,kix0,ktab0,h,oM,e2,e3,e4,e5,e6]
theorem Mw (n:Nat) (ps:List D) (A:List D) (B C G:D) (r:Str) (ws:List Str) (xs:List D) (hr:r.length<big) (hs:cT r 32=("player" : Str)::ws) (hl:ps.length<1000)
 (h:aA T dfs n 9 [.tup [D.tup A,D.tup ps,B,C,G],.lst (.str "player" :: ws.map D.str)]=.ok (.tup xs)) :
 aA T dfs (n+1) 13 [.tup [D.tup A,D.tup ps,B,C,G],.str r]=.ok (.tup [D.tup A,D.tup (ps++[D.tup xs]),B,C,G]):=by
 refine aJ (k:=true) rfl rfl rfl ?_
 have hb:=bI
 have e1:=qV r hr
 rw[hs,aG]at e1
 have e2:D.bin .Add (.tup ps) (.tup [.tup xs])=.ok (.tup (ps++[.tup xs])):=eO (by simp;lia)
 have e3:cut [D.tup A,D.tup ps,B,C,G] none (some 1)=[D.tup A]:=rfl
 have e4:cut [D.tup A,D.tup ps,B,C,G] (some 2) none=[B,C,G]:=rfl
 have e5:D.bin .Add (.tup [D.tup A]) (.tup [.tup (ps++[.tup xs])])=.ok (.tup [D.tup A,D.tup (ps++[D.tup xs])]):=eO (by simp;lia)
 have e6:D.bin .Add (.tup [D.tup A,D.tup (ps++[D.tup xs])]) (.tup [B,C,G])=.ok (.tup [D.tup A,D.tup (ps++[D.tup xs]),B,C,G]):=eO (by simp;lia)
 simp[lX,e1,kin1,kix1,ktab1,h,oM,e2,e3,e4,e5,e6]
theorem Mx (n:Nat) (ps:List D) (A:List D) (B C G:D) (r:Str) (ws:List Str) (xs:List D) (hr:r.length<big) (hs:cT r 32=("scene" : Str)::ws) (hl:ps.length<1000)
 (h:aA T dfs n 10 [.tup [D.tup A,B,D.tup ps,C,G],.lst (.str "scene" :: ws.map D.str)]=.ok (.tup xs)) :
 aA T dfs (n+1) 13 [.tup [D.tup A,B,D.tup ps,C,G],.str r]=.ok (.tup [D.tup A,B,D.tup (ps++[D.tup xs]),C,G]):=by
 refine aJ (k:=true) rfl rfl rfl ?_
 have hb:=bI
 have e1:=qV r hr
 rw[hs,aG]at e1
 have e2:D.bin .Add (.tup ps) (.tup [.tup xs])=.ok (.tup (ps++[.tup xs])):=eO (by simp;lia)
 have e3:cut [D.tup A,B,D.tup ps,C,G] none (some 2)=[D.tup A,B]:=rfl
 have e4:cut [D.tup A,B,D.tup ps,C,G] (some 3) none=[C,G]:=rfl
 have e5:D.bin .Add (.tup [D.tup A,B]) (.tup [.tup (ps++[.tup xs])])=.ok (.tup [D.tup A,B,D.tup (ps++[D.tup xs])]):=eO (by simp;lia)
 have e6:D.bin .Add (.tup [D.tup A,B,D.tup (ps++[D.tup xs])]) (.tup [C,G])=.ok (.tup [D.tup A,B,D.tup (ps++[D.tup xs]),C,G]):=eO (by simp;lia)
 simp[lX,e1,kin2,kix2,ktab2,h,oM,e2,e3,e4,e5,e6]
theorem My (n:Nat) (ps:List D) (A:List D) (B C G:D) (r:Str) (ws:List Str) (xs:List D) (hr:r.length<big) (hs:cT r 32=("like" : Str)::ws) (hl:ps.length<1000)
 (h:aA T dfs n 11 [.tup [D.tup A,B,C,D.tup ps,G],.lst (.str "like" :: ws.map D.str)]=.ok (.tup xs)) :
 aA T dfs (n+1) 13 [.tup [D.tup A,B,C,D.tup ps,G],.str r]=.ok (.tup [D.tup A,B,C,D.tup (ps++[D.tup xs]),G]):=by
 refine aJ (k:=true) rfl rfl rfl ?_
 have hb:=bI
 have e1:=qV r hr
 rw[hs,aG]at e1
 have e2:D.bin .Add (.tup ps) (.tup [.tup xs])=.ok (.tup (ps++[.tup xs])):=eO (by simp;lia)
 have e3:cut [D.tup A,B,C,D.tup ps,G] none (some 3)=[D.tup A,B,C]:=rfl
 have e4:cut [D.tup A,B,C,D.tup ps,G] (some 4) none=[G]:=rfl
 have e5:D.bin .Add (.tup [D.tup A,B,C]) (.tup [.tup (ps++[.tup xs])])=.ok (.tup [D.tup A,B,C,D.tup (ps++[D.tup xs])]):=eO (by simp;lia)
 have e6:D.bin .Add (.tup [D.tup A,B,C,D.tup (ps++[D.tup xs])]) (.tup [G])=.ok (.tup [D.tup A,B,C,D.tup (ps++[D.tup xs]),G]):=eO (by simp;lia)
 simp[lX,e1,kin3,kix3,ktab3,h,oM,e2,e3,e4,e5,e6]
theorem Mz (n:Nat) (ps:List D) (A:List D) (B C G:D) (r:Str) (ws:List Str) (xs:List D) (hr:r.length<big) (hs:cT r 32=("cover" : Str)::ws) (hl:ps.length<1000)
 (h:aA T dfs n 12 [.tup [D.tup A,B,C,G,D.tup ps],.lst (.str "cover" :: ws.map D.str)]=.ok (.tup xs)) :
 aA T dfs (n+1) 13 [.tup [D.tup A,B,C,G,D.tup ps],.str r]=.ok (.tup [D.tup A,B,C,G,D.tup (ps++[D.tup xs])]):=by
 refine aJ (k:=true) rfl rfl rfl ?_
 have hb:=bI
 have e1:=qV r hr
 rw[hs,aG]at e1
 have e2:D.bin .Add (.tup ps) (.tup [.tup xs])=.ok (.tup (ps++[.tup xs])):=eO (by simp;lia)
 have e3:cut [D.tup A,B,C,G,D.tup ps] none (some 4)=[D.tup A,B,C,G]:=rfl
 have e4:cut [D.tup A,B,C,G,D.tup ps] (some 5) none=[]:=rfl
 have e5:D.bin .Add (.tup [D.tup A,B,C,G]) (.tup [.tup (ps++[.tup xs])])=.ok (.tup [D.tup A,B,C,G,D.tup (ps++[D.tup xs])]):=eO (by simp;lia)
 have e6:D.bin .Add (.tup [D.tup A,B,C,G,D.tup (ps++[D.tup xs])]) (.tup [])=.ok (.tup [D.tup A,B,C,G,D.tup (ps++[D.tup xs])]):=eO (by simp;lia)
 simp[lX,e1,kin4,kix4,ktab4,h,oM,e2,e3,e4,e5,e6]
theorem NA(n:Nat)(A:D)(r:Str)(k:Int)(b b':List D)(x y:Sl)(h:aA T dfs n 13 [.tup b,.str r]=.ok (.tup b')):bJ T (aA T dfs n) (.many [2,3]) tU (.tup [.int k,.str r]) [.v A,.v (.tup b),x,y]=.ok (.nx [.v A,.v (.tup b'),.v (.int k),.v (.str r)]):=by
 simp[bJ,tU,h,oM]
noncomputable def Run(n:Nat):List D->List Str->List D->Prop
 |b,[],b'=>b=b'
 |b,r::rs,b'=>∃b1,aA T dfs n 13 [.tup b,.str r]=.ok (.tup b1)/\Run n b1 rs b'
theorem Run.app:∀{rs qs:List Str} {b b1 b2:List D},Run n b rs b1->Run n b1 qs b2->Run n b (rs++qs) b2
 |[],qs,b,b1,b2,h1,h2=>by cases h1;exact h2
 |r::rs,qs,b,b1,b2,h1,h2=>by
  obtain⟨b3,e,h⟩:=h1
  exact⟨b3,e,Run.app h h2⟩
theorem GE(n:Nat)(A:D):∀(rows:List Str)(b b':List D)(x y:Sl)(k:Int),Run n b rows b' ->
 ∃x' y',bH (bJ T (aA T dfs n) (.many [2,3]) tU) (bX k (rows.map D.str)) [.v A,.v (.tup b),x,y]=.ok (.nx [.v A,.v (.tup b'),x',y'])
 |[],b,b',x,y,k,h=>by cases h;exact⟨x,y,rfl⟩
 |r::q,b,b',x,y,k,h=>by
  obtain⟨b1,e0,h⟩:=h
  have e:=NA n A r k b b1 x y e0
  obtain⟨x',y',e2⟩:=GE n A q b1 b' (.v (.int k)) (.v (.str r)) (k+1) h
  refine⟨x',y',?_⟩
  rw[aG,bX,dY e,e2]
theorem NB(n:Nat)(rows:List Str)(b':List D)(h:Run n (bkT [] [] [] [] []) rows b'):aA T dfs (n+1) 14 [.lst (rows.map D.str)]=.ok (.tup b'):=by
 refine aJ (k:=false) rfl rfl rfl ?_
 obtain⟨x,y,e⟩:=GE n (.lst (rows.map D.str)) rows _ b' .no .no 0 h
 unfold bkT at e
 simp only[dQ]at e
 simp[yV,jT,e]
theorem step_P(n:Nat)(ps qs ss:List (Str×List D))(ls:List (Nat×Nat×Nat))(cs:List (Nat×Nat))(x:PtB)(g:GP x)(hn:∀p∈ps,p.1≠x.name)(hl:ps.length<1000):aA T dfs (n+5) 13 [.tup (bkT ps qs ss ls cs),.str (bK (fN x))]=.ok (.tup (bkT (ps++[x.p]) qs ss ls cs)):=by
 have hb:20000<big:=by decide
 have wd:=ES g
 have hlen:=pW wd (by simp[fN])
 have h:=Mn n ps (.tup (qs.map ent)) (.tup (ss.map ent)) (.tup (ls.map lkT)) (.tup (cs.map cvT)) x.name x.v x.off x.on g.nm hn g.v g.off g.on
 have:=Mv (n+4) (ps.map ent) (.tup (qs.map ent)) (.tup (ss.map ent)) (.tup (ls.map lkT)) (.tup (cs.map cvT)) (bK (fN x)) _ _ (by lia) (pX (by simp[fN]) wd) (by simpa using hl) h
 rw[show bkT ps qs ss ls cs=[.tup (ps.map ent),.tup (qs.map ent),.tup (ss.map ent),.tup (ls.map lkT),.tup (cs.map cvT)]from rfl,this]
 unfold bkT
 rw[cS];rfl
theorem step_Q(n:Nat)(ps qs ss:List (Str×List D))(ls:List (Nat×Nat×Nat))(cs:List (Nat×Nat))(x:PlB)(g:GQ x)(hn:∀p∈qs,p.1≠x.name)(hl:qs.length<1000):aA T dfs (n+5) 13 [.tup (bkT ps qs ss ls cs),.str (bK (fA x))]=.ok (.tup (bkT ps (qs++[x.p]) ss ls cs)):=by
 have hb:20000<big:=by decide
 have wd:=ET g
 have hlen:=pW wd (by simp[fA])
 have h:aA T dfs (n+4) 9 [.tup [.tup (ps.map ent),.tup (qs.map ent),.tup (ss.map ent),.tup (ls.map lkT),.tup (cs.map cvT)],.lst (.str "player" :: [x.name,voW x.voices,bG x.hire].map D.str)]=.ok (ent x.p):=by
  unfold voW
  by_cases c:aH x.voices=[]
  ·rw[if_pos c]
   have e:x.voices = "" := pR (by rw[c];rfl)
   unfold PlB.p
   rw[e]
   exact Mp n qs (.tup (ps.map ent)) (.tup (ss.map ent)) (.tup (ls.map lkT)) (.tup (cs.map cvT)) x.name x.hire g.nm hn g.hire
  ·rw[if_neg c]
   exact Mo n qs (.tup (ps.map ent)) (.tup (ss.map ent)) (.tup (ls.map lkT)) (.tup (cs.map cvT)) x.name x.voices x.hire g.nm hn (lG.mpr c) (by have:=g.len;lia) g.nd g.vs g.hire
 have:=Mw (n+4) (qs.map ent) (ps.map ent) (.tup (ss.map ent)) (.tup (ls.map lkT)) (.tup (cs.map cvT)) (bK (fA x)) _ _ (by lia) (pX (by simp[fA]) wd) (by simpa using hl) h
 rw[show bkT ps qs ss ls cs=[.tup (ps.map ent),.tup (qs.map ent),.tup (ss.map ent),.tup (ls.map lkT),.tup (cs.map cvT)]from rfl,this]
 unfold bkT
 rw[cS];rfl
theorem step_S(n:Nat)(ps qs ss:List (Str×List D))(ls:List (Nat×Nat×Nat))(cs:List (Nat×Nat))(x:ScB)(hps:∀p∈ps,bS p.1)(hd:(ps.map (·.1)).Nodup)(g:GS ps.length x)(hn:∀p∈ss,p.1≠x.name)(hl:ss.length<1000):aA T dfs (n+5) 13 [.tup (bkT ps qs ss ls cs),.str (bK (fO ps x))]=.ok (.tup (bkT ps qs (ss++[x.p]) ls cs)):=by
 have hb:20000<big:=by decide
 have wd:=EU hps g
 have hlen:=pW wd (by have:=g.cnt;simp[fO];lia)
 have h:=Mu n ps ss (.tup (qs.map ent)) (.tup (ls.map lkT)) (.tup (cs.map cvT)) x.name x.len x.pause x.who g.nm hn hd g.len g.pause g.lt g.nd (by have:=g.cnt;lia)
 have h':aA T dfs (n+4) 10 [.tup [.tup (ps.map ent),.tup (qs.map ent),.tup (ss.map ent),.tup (ls.map lkT),.tup (cs.map cvT)],.lst (.str "scene" :: (x.name::bG x.len::bG x.pause::x.who.map (dS ps)).map D.str)]=.ok (ent x.p):=by
  rw[aG,aG,aG,bB]
  exact h
 have:=Mx (n+4) (ss.map ent) (ps.map ent) (.tup (qs.map ent)) (.tup (ls.map lkT)) (.tup (cs.map cvT)) (bK (fO ps x)) _ _ (by lia) (pX (by simp[fO]) wd) (by simpa using hl) h'
 rw[show bkT ps qs ss ls cs=[.tup (ps.map ent),.tup (qs.map ent),.tup (ss.map ent),.tup (ls.map lkT),.tup (cs.map cvT)]from rfl,this]
 unfold bkT
 rw[cS];rfl
theorem uL{p:Str×List D}(h:ps[i]?=some p):dS ps i=p.1:=by unfold dS;rw[h];rfl
theorem step_L(n:Nat)(ps qs ss:List (Str×List D))(ls:List (Nat×Nat×Nat))(cs:List (Nat×Nat))(l:Nat×Nat×Nat)(hps:∀p∈ps,bS p.1)(hqs:∀p∈qs,bS p.1)(hd:(ps.map (·.1)).Nodup)(hd2:(qs.map (·.1)).Nodup)(g1:l.1<qs.length)(g2:l.2.1<ps.length)(g3:l.2.2<10^9)(hn:(l.1,l.2.1)∉ls.map λl=>(l.1,l.2.1))(hl:ls.length<1000):aA T dfs (n+5) 13 [.tup (bkT ps qs ss ls cs),.str (bK (fP ps qs l))]=.ok (.tup (bkT ps qs ss (ls++[l]) cs)):=by
 have hb:20000<big:=by decide
 have wd:=EV hps hqs g1 g2 g3
 have hlen:=pW wd (by simp[fP])
 have h:=Mr (n+1) ps qs ls (.tup (ss.map ent)) (.tup (cs.map cvT)) l.2.1 l.1 l.2.2 _ _ (aR g2) (aR g1) hd hd2 hn (by lia) g3
 have h':aA T dfs (n+4) 11 [.tup [.tup (ps.map ent),.tup (qs.map ent),.tup (ss.map ent),.tup (ls.map lkT),.tup (cs.map cvT)],.lst (.str "like" :: [dS qs l.1,dS ps l.2.1,bG l.2.2].map D.str)]=.ok (lkT l):=by
  rw[uL (aR g2),uL (aR g1)]
  exact h
 have:=My (n+4) (ls.map lkT) (ps.map ent) (.tup (qs.map ent)) (.tup (ss.map ent)) (.tup (cs.map cvT)) (bK (fP ps qs l)) _ _ (by lia) (pX (by simp[fP]) wd) (by simpa using hl) h'
 rw[show bkT ps qs ss ls cs=[.tup (ps.map ent),.tup (qs.map ent),.tup (ss.map ent),.tup (ls.map lkT),.tup (cs.map cvT)]from rfl,this]
 unfold bkT
 rw[cS];rfl
theorem step_C(n:Nat)(ps qs ss:List (Str×List D))(ls:List (Nat×Nat×Nat))(cs:List (Nat×Nat))(c:Nat×Nat)(hps:∀p∈ps,bS p.1)(hqs:∀p∈qs,bS p.1)(hd:(ps.map (·.1)).Nodup)(hd2:(qs.map (·.1)).Nodup)(g1:c.1<ps.length)(g2:c.2<qs.length)(hn:c∉cs)(hl:cs.length<1000):aA T dfs (n+5) 13 [.tup (bkT ps qs ss ls cs),.str (bK (fQ ps qs c))]=.ok (.tup (bkT ps qs ss ls (cs++[c]))):=by
 have hb:20000<big:=by decide
 have wd:=EW hps hqs g1 g2
 have hlen:=pW wd (by simp[fQ])
 have h:=Mq (n+2) ps qs cs (.tup (ss.map ent)) (.tup (ls.map lkT)) c.1 c.2 _ _ (aR g1) (aR g2) hd hd2 hn
 have h':aA T dfs (n+4) 12 [.tup [.tup (ps.map ent),.tup (qs.map ent),.tup (ss.map ent),.tup (ls.map lkT),.tup (cs.map cvT)],.lst (.str "cover" :: [dS ps c.1,dS qs c.2].map D.str)]=.ok (cvT c):=by
  rw[uL (aR g1),uL (aR g2)]
  exact h
 have:=Mz (n+4) (cs.map cvT) (ps.map ent) (.tup (qs.map ent)) (.tup (ss.map ent)) (.tup (ls.map lkT)) (bK (fQ ps qs c)) _ _ (by lia) (pX (by simp[fQ]) wd) (by simpa using hl) h'
 rw[show bkT ps qs ss ls cs=[.tup (ps.map ent),.tup (qs.map ent),.tup (ss.map ent),.tup (ls.map lkT),.tup (cs.map cvT)]from rfl,this]
 unfold bkT
 rw[cS];rfl
theorem A2(n:Nat)(ss:List (Str×List D))(ls:List (Nat×Nat×Nat))(cs:List (Nat×Nat)):∀(A:List IA)(ps qs:List (Str×List D)),(∀x,Sum.inl x∈A->GP x)->(∀y,Sum.inr y∈A->GQ y) ->
 (ps.map (·.1)++(A.filterMap aP).map (·.name)).Nodup->(qs.map (·.1)++(A.filterMap aQ).map (·.name)).Nodup->ps.length+A.length<1000->qs.length+A.length<1000 ->
 Run (n+5) (bkT ps qs ss ls cs) (A.map rowA) (bkT (ps++(A.filterMap aP).map PtB.p) (qs++(A.filterMap aQ).map PlB.p) ss ls cs)
 |[],ps,qs,_,_,_,_,_,_=>by
  show bkT ps qs ss ls cs=bkT (ps++[]) (qs++[]) ss ls cs
  rw[fF,fF]
 |.inl x::A,ps,qs,h1,h2,h3,h4,h5,h6=>by
  rw[aW]at h5 h6
  have e3:(Sum.inl x::A:List IA).filterMap aP=x::A.filterMap aP:=rfl
  have e4:(Sum.inl x::A:List IA).filterMap aQ=A.filterMap aQ:=rfl
  rw[e3,aG]at h3
  rw[e4]at h4
  have hn:∀p∈ps,p.1≠x.name:=λp hp e=>by
   have:=(kG.mp h3).2.2 p.1 (cN.mpr ⟨p,hp,rfl⟩) x.name bA
   exact this e
  refine⟨_,step_P n ps qs ss ls cs x (h1 x bA) hn (by lia),?_⟩
  rw[e3,e4,aG]
  have:=A2 n ss ls cs A (ps++[x.p]) qs (λy hy=>h1 y (aY _ hy)) (λy hy=>h2 y (aY _ hy)) (by rw[cS,dG];exact h3) h4 (by simp;lia) (by lia)
  rwa [dG]at this
 |.inr x::A,ps,qs,h1,h2,h3,h4,h5,h6=>by
  rw[aW]at h5 h6
  have e3:(Sum.inr x::A:List IA).filterMap aP=A.filterMap aP:=rfl
  have e4:(Sum.inr x::A:List IA).filterMap aQ=x::A.filterMap aQ:=rfl
  rw[e3]at h3
  rw[e4,aG]at h4
  have hn:∀p∈qs,p.1≠x.name:=λp hp e=>by
   have:=(kG.mp h4).2.2 p.1 (cN.mpr ⟨p,hp,rfl⟩) x.name bA
   exact this e
  refine⟨_,step_Q n ps qs ss ls cs x (h2 x bA) hn (by lia),?_⟩
  rw[e3,e4,aG]
  have:=A2 n ss ls cs A ps (qs++[x.p]) (λy hy=>h1 y (aY _ hy)) (λy hy=>h2 y (aY _ hy)) h3 (by rw[cS,dG];exact h4) (by lia) (by simp;lia)
  rwa [dG]at this
theorem uM(n:Nat)(ps qs:List (Str×List D))(hps:∀p∈ps,bS p.1)(hqs:∀p∈qs,bS p.1)(hd:(ps.map (·.1)).Nodup)(hd2:(qs.map (·.1)).Nodup):∀(Z:List IZ)(ss:List (Str×List D))(ls:List (Nat×Nat×Nat))(cs:List (Nat×Nat)),
 (∀x,Sum.inl x∈Z->GS ps.length x)->(∀l,Sum.inr (Sum.inl l)∈Z->l.1<qs.length/\l.2.1<ps.length/\l.2.2<10^9)->(∀c,Sum.inr (Sum.inr c)∈Z->c.1<ps.length/\c.2<qs.length) ->
 (ss.map (·.1)++(Z.filterMap zS).map (·.name)).Nodup->((ls++Z.filterMap zL).map λl=>(l.1,l.2.1)).Nodup->(cs++Z.filterMap zC).Nodup->ss.length+Z.length<1000->ls.length+Z.length<1000->cs.length+Z.length<1000 ->
 Run (n+5) (bkT ps qs ss ls cs) (Z.map (rowZ ps qs)) (bkT ps qs (ss++(Z.filterMap zS).map ScB.p) (ls++Z.filterMap zL) (cs++Z.filterMap zC))
 |[],ss,ls,cs,_,_,_,_,_,_,_,_,_=>by
  show bkT ps qs ss ls cs=bkT ps qs (ss++[]) (ls++[]) (cs++[])
  rw[fF,fF,fF]
 |.inl x::Z,ss,ls,cs,h1,h2,h3,h4,h5,h6,h7,h8,h9=>by
  rw[aW]at h7 h8 h9
  have e1:(Sum.inl x::Z:List IZ).filterMap zS=x::Z.filterMap zS:=rfl
  have e2:(Sum.inl x::Z:List IZ).filterMap zL=Z.filterMap zL:=rfl
  have e3:(Sum.inl x::Z:List IZ).filterMap zC=Z.filterMap zC:=rfl
  rw[e1,aG]at h4
  rw[e2]at h5
  rw[e3]at h6
  have hn:∀p∈ss,p.1≠x.name:=λp hp e=>by
   have:=(kG.mp h4).2.2 p.1 (cN.mpr ⟨p,hp,rfl⟩) x.name bA
   exact this e
  refine⟨_,step_S n ps qs ss ls cs x hps hd (h1 x bA) hn (by lia),?_⟩
  rw[e1,e2,e3,aG]
  have:=uM n ps qs hps hqs hd hd2 Z (ss++[x.p]) ls cs (λy hy=>h1 y (aY _ hy)) (λy hy=>h2 y (aY _ hy)) (λy hy=>h3 y (aY _ hy)) (by rw[cS,dG];exact h4) h5 h6 (by simp;lia) (by lia) (by lia)
  rwa [dG]at this
 |.inr (.inl l)::Z,ss,ls,cs,h1,h2,h3,h4,h5,h6,h7,h8,h9=>by
  rw[aW]at h7 h8 h9
  have e1:(Sum.inr (Sum.inl l)::Z:List IZ).filterMap zS=Z.filterMap zS:=rfl
  have e2:(Sum.inr (Sum.inl l)::Z:List IZ).filterMap zL=l::Z.filterMap zL:=rfl
  have e3:(Sum.inr (Sum.inl l)::Z:List IZ).filterMap zC=Z.filterMap zC:=rfl
  rw[e1]at h4
  rw[e2]at h5
  rw[e3]at h6
  have hn:(l.1,l.2.1)∉ls.map λl=>(l.1,l.2.1):=λhm=>by
   rw[cS,aG]at h5
   exact(kG.mp h5).2.2 _ hm _ bA rfl
  obtain⟨g1,g2,g3⟩:=h2 l bA
  refine⟨_,step_L n ps qs ss ls cs l hps hqs hd hd2 g1 g2 g3 hn (by lia),?_⟩
  rw[e1,e2,e3]
  have:=uM n ps qs hps hqs hd hd2 Z ss (ls++[l]) cs (λy hy=>h1 y (aY _ hy)) (λy hy=>h2 y (aY _ hy)) (λy hy=>h3 y (aY _ hy)) h4 (by rw[dG];exact h5) h6 (by lia) (by simp;lia) (by lia)
  rwa [dG]at this
 |.inr (.inr c)::Z,ss,ls,cs,h1,h2,h3,h4,h5,h6,h7,h8,h9=>by
  rw[aW]at h7 h8 h9
  have e1:(Sum.inr (Sum.inr c)::Z:List IZ).filterMap zS=Z.filterMap zS:=rfl
  have e2:(Sum.inr (Sum.inr c)::Z:List IZ).filterMap zL=Z.filterMap zL:=rfl
  have e3:(Sum.inr (Sum.inr c)::Z:List IZ).filterMap zC=c::Z.filterMap zC:=rfl
  rw[e1]at h4
  rw[e2]at h5
  rw[e3]at h6
  have hn:c∉cs:=λhm=>(kG.mp h6).2.2 _ hm _ bA rfl
  obtain⟨g1,g2⟩:=h3 c bA
  refine⟨_,step_C n ps qs ss ls cs c hps hqs hd hd2 g1 g2 hn (by lia),?_⟩
  rw[e1,e2,e3]
  have:=uM n ps qs hps hqs hd hd2 Z ss ls (cs++[c]) (λy hy=>h1 y (aY _ hy)) (λy hy=>h2 y (aY _ hy)) (λy hy=>h3 y (aY _ hy)) h4 h5 (by rw[dG];exact h6) (by lia) (by lia) (by simp;lia)
  rwa [dG]at this
theorem NC(n:Nat)(x:PtB)(g:GP x):aA T dfs (n+1) 15 [ent x.p]=.ok (.str (bK (fN x))):=by
 refine aJ (k:=false) rfl rfl rfl ?_
 have j:=pY (ES g) (by simp[fN])
 simp only[fN,aG,dQ]at j
 have n1:=oB g.off
 have n2:=oB g.on
 simp[yW,ent,PtB.p,n1,n2,j,fN]
theorem ND(n:Nat)(x:PlB)(g:GQ x):aA T dfs (n+1) 16 [ent x.p]=.ok (.str (bK (fA x))):=by
 refine aJ (k:=false) rfl rfl rfl ?_
 have hb:=bI
 have j:=pY (ET g) (by simp[fA])
 simp only[fA,aG,dQ]at j
 have n1:=oB g.hire
 have tr:D.truth (.str x.voices)=.ok (!decide (aH x.voices=[])):=by
  show aC (decide (x.voices.length<=big)) (.ok ((x.voices.length:Int) != 0))=_
  have:=g.len
  rw[bW (by rw[decide_eq_true_eq,fM];lia),fM]
  congr 1
  by_cases z:aH x.voices=[]
  ·rw[decide_eq_true z,z];rfl
  ·rw[decide_eq_false z]
   have:=lG.mpr z
   simp;lia
 by_cases z:aH x.voices=[]
 ·rw[decide_eq_true z]at tr
  unfold voW at j
  rw[if_pos z]at j
  simp[tV,ent,PlB.p,n1,j,fA,tr,voW,z]
 ·rw[decide_eq_false z]at tr
  unfold voW at j
  rw[if_neg z]at j
  simp[tV,ent,PlB.p,n1,j,fA,tr,voW,z]
theorem GF(n:Nat)(ps:List (Str×List D))(A B C G:D)(x1 x2:Sl):∀is:List Nat,(∀i∈is,i<ps.length)->aU (bE T (aA T dfs n) 1 [0] (.one 0) yX (.con (.bl true)) [.v (.tup [.tup (ps.map ent),A,B,C,G]),x1,x2]) (is.map λi:Nat=>D.int i)=.ok ((is.map (dS ps)).map D.str)
 |[],_=>rfl
 |i::r,h=>by
  have hi:=h i bA
  have e:=qA hi
  have e2:=jW hi
  rw[aG,aU,GF n ps A B C G x1 x2 r λy hy=>h y (aY _ hy)]
  simp[bE,Tr.bT,yX,e,e2]
theorem NF(n:Nat)(ps:List (Str×List D))(A B C G:D)(hps:∀p∈ps,bS p.1)(x:ScB)(g:GS ps.length x):aA T dfs (n+1) 17 [.tup [.tup (ps.map ent),A,B,C,G],ent x.p]=.ok (.str (bK (fO ps x))):=by
 refine aJ (k:=false) rfl rfl rfl ?_
 have hb:=bI
 have hc:=g.cnt
 have j:=pY (EU hps g) (by simp[fO];lia)
 have n1:=oB g.len
 have n2:=oB g.pause
 have c:=λx1 x2=>GF n ps A B C G x1 x2 x.who g.lt
 have ad:D.bin .Add (.lst [.str "scene", .str x.name,.str (bG x.len),.str (bG x.pause)]) (.lst ((x.who.map (dS ps)).map D.str))=.ok (.lst ((fO ps x).map D.str)):=by
  rw[pT (by simp;lia)];rfl
 have l2:x.who.length<=big:=by lia
 generalize (fO ps x).map D.str=W at *
 generalize hNm:(x.who.map (dS ps)).map D.str=NN at *
 rw[show ent x.p=.tup [.str x.name,.int x.len,.int x.pause,.tup (x.who.map λi:Nat=>D.int i)]from rfl]
 simp[yY,n1,n2,c,l2,ad,j]
theorem NG(n:Nat)(ps qs:List (Str×List D))(B C G:D)(hps:∀p∈ps,bS p.1)(hqs:∀p∈qs,bS p.1)(l:Nat×Nat×Nat)(g1:l.1<qs.length)(g2:l.2.1<ps.length)(g3:l.2.2<10^9):aA T dfs (n+1) 18 [.tup [.tup (ps.map ent),.tup (qs.map ent),B,C,G],lkT l]=.ok (.str (bK (fP ps qs l))):=by
 refine aJ (k:=false) rfl rfl rfl ?_
 have j:=pY (EV hps hqs g1 g2 g3) (by simp[fP])
 simp only[fP,aG,dQ,jW g1,jW g2]at j
 have n1:=oB g3
 have e1:=qA g1
 have e2:=qA g2
 simp[yZ,lkT,e1,e2,n1,j,fP,jW g1,jW g2]
theorem NH(n:Nat)(ps qs:List (Str×List D))(B C G:D)(hps:∀p∈ps,bS p.1)(hqs:∀p∈qs,bS p.1)(c:Nat×Nat)(g1:c.1<ps.length)(g2:c.2<qs.length):aA T dfs (n+1) 19 [.tup [.tup (ps.map ent),.tup (qs.map ent),B,C,G],cvT c]=.ok (.str (bK (fQ ps qs c))):=by
 refine aJ (k:=false) rfl rfl rfl ?_
 have j:=pY (EW hps hqs g1 g2) (by simp[fQ])
 simp only[fQ,aG,dQ,jW g1,jW g2]at j
 have e1:=qA g1
 have e2:=qA g2
 simp[zA,cvT,e1,e2,j,fQ,jW g1,jW g2]
theorem oN{α:Type}{own:Nat}{caps:List Nat}{g:G}{elt:E}{env:Nv}(enc:α->D)(f:α->Str):∀{xs:List α},(∀x∈xs,bE T (aA T dfs n) own caps g elt (.con (.bl true)) env (enc x)=.ok (some (.str (f x))))->aU (bE T (aA T dfs n) own caps g elt (.con (.bl true)) env) (xs.map enc)=.ok ((xs.map f).map D.str)
 |[],_=>rfl
 |x::r,h=>by
  rw[aG,aU,h x bA,Res.ok_bind,oN enc f λy hy=>h y (aY _ hy)]
  rfl
theorem NI(n:Nat){Ps Qs Ss Ls Cs}(g:GB Ps Qs Ss Ls Cs):aA T dfs (n+2) 20 [.tup (bkT (Ps.map PtB.p) (Qs.map PlB.p) (Ss.map ScB.p) Ls Cs)]=.ok (.lst ((tL Ps Qs Ss Ls Cs).map D.str)):=by
 have hb:=bI
 have b1:=g.lp
 have b2:=g.lq
 have b3:=g.ls
 have b4:=g.ll
 have b5:=g.lc
 have gs':∀x∈Ss,GS (Ps.map PtB.p).length x:=by simpa using g.gs
 have gl':∀l∈Ls,l.1<(Qs.map PlB.p).length/\l.2.1<(Ps.map PtB.p).length/\l.2.2<10^9:=by simpa using g.gl
 have gc':∀c∈Cs,c.1<(Ps.map PtB.p).length/\c.2<(Qs.map PlB.p).length:=by simpa using g.gc
 have nP:=g.nmP
 have nQ:=g.nmQ
 have c1:∀env,aU (bE T (aA T dfs (n+1)) 1 [] (.one 0) zB (.con (.bl true)) env) (Ps.map λx=>ent x.p)=.ok ((Ps.map λx=>bK (fN x)).map D.str):=λenv=>oN (λx:PtB=>ent x.p) _ λx hx=>by
  have e:=NC n x (g.gp x hx)
  generalize ent x.p=z at e⊢
  simp[bE,Tr.bT,zB,e]
 have c2:∀env,aU (bE T (aA T dfs (n+1)) 1 [] (.one 0) zD (.con (.bl true)) env) (Qs.map λx=>ent x.p)=.ok ((Qs.map λx=>bK (fA x)).map D.str):=λenv=>oN (λx:PlB=>ent x.p) _ λx hx=>by
  have e:=ND n x (g.gq x hx)
  generalize ent x.p=z at e⊢
  simp[bE,Tr.bT,zD,e]
 have c3:∀r,aU (bE T (aA T dfs (n+1)) 1 [0] (.one 0) zE (.con (.bl true)) (.v (.tup (bkT (Ps.map PtB.p) (Qs.map PlB.p) (Ss.map ScB.p) Ls Cs))::r)) (Ss.map λx=>ent x.p)=.ok ((Ss.map λx=>bK (fO (Ps.map PtB.p) x)).map D.str):=λr=>oN (λx:ScB=>ent x.p) _ λx hx=>by
  have e:=NF n (Ps.map PtB.p) (.tup ((Qs.map PlB.p).map ent)) (.tup ((Ss.map ScB.p).map ent)) (.tup (Ls.map lkT)) (.tup (Cs.map cvT)) nP x (gs' x hx)
  rw[show [D.tup ((Ps.map PtB.p).map ent),.tup ((Qs.map PlB.p).map ent),.tup ((Ss.map ScB.p).map ent),.tup (Ls.map lkT),.tup (Cs.map cvT)]=bkT (Ps.map PtB.p) (Qs.map PlB.p) (Ss.map ScB.p) Ls Cs from rfl]at e
  generalize bkT (Ps.map PtB.p) (Qs.map PlB.p) (Ss.map ScB.p) Ls Cs=B at e⊢
  generalize ent x.p=z at e⊢
  simp[bE,Tr.bT,zE,e]
 have c4:∀r,aU (bE T (aA T dfs (n+1)) 1 [0] (.one 0) zF (.con (.bl true)) (.v (.tup (bkT (Ps.map PtB.p) (Qs.map PlB.p) (Ss.map ScB.p) Ls Cs))::r)) (Ls.map lkT)=.ok ((Ls.map λl=>bK (fP (Ps.map PtB.p) (Qs.map PlB.p) l)).map D.str):=λr=>oN lkT _ λl hl=>by
  obtain⟨g1,g2,g3⟩:=gl' l hl
  have e:=NG n (Ps.map PtB.p) (Qs.map PlB.p) (.tup ((Ss.map ScB.p).map ent)) (.tup (Ls.map lkT)) (.tup (Cs.map cvT)) nP nQ l g1 g2 g3
  rw[show [D.tup ((Ps.map PtB.p).map ent),.tup ((Qs.map PlB.p).map ent),.tup ((Ss.map ScB.p).map ent),.tup (Ls.map lkT),.tup (Cs.map cvT)]=bkT (Ps.map PtB.p) (Qs.map PlB.p) (Ss.map ScB.p) Ls Cs from rfl]at e
  generalize bkT (Ps.map PtB.p) (Qs.map PlB.p) (Ss.map ScB.p) Ls Cs=B at e⊢
  generalize lkT l=z at e⊢
  simp[bE,Tr.bT,zF,e]
 have c5:∀r,aU (bE T (aA T dfs (n+1)) 1 [0] (.one 0) zG (.con (.bl true)) (.v (.tup (bkT (Ps.map PtB.p) (Qs.map PlB.p) (Ss.map ScB.p) Ls Cs))::r)) (Cs.map cvT)=.ok ((Cs.map λc=>bK (fQ (Ps.map PtB.p) (Qs.map PlB.p) c)).map D.str):=λr=>oN cvT _ λc hc=>by
  obtain⟨g1,g2⟩:=gc' c hc
  have e:=NH n (Ps.map PtB.p) (Qs.map PlB.p) (.tup ((Ss.map ScB.p).map ent)) (.tup (Ls.map lkT)) (.tup (Cs.map cvT)) nP nQ c g1 g2
  rw[show [D.tup ((Ps.map PtB.p).map ent),.tup ((Qs.map PlB.p).map ent),.tup ((Ss.map ScB.p).map ent),.tup (Ls.map lkT),.tup (Cs.map cvT)]=bkT (Ps.map PtB.p) (Qs.map PlB.p) (Ss.map ScB.p) Ls Cs from rfl]at e
  generalize bkT (Ps.map PtB.p) (Qs.map PlB.p) (Ss.map ScB.p) Ls Cs=B at e⊢
  generalize cvT c=z at e⊢
  simp[bE,Tr.bT,zG,e]
 refine aJ (k:=true) rfl rfl rfl ?_
 have hR:tL Ps Qs Ss Ls Cs=Ps.map (λx=>bK (fN x))++Qs.map (λx=>bK (fA x))++Ss.map (λx=>bK (fO (Ps.map PtB.p) x))++Ls.map (λl=>bK (fP (Ps.map PtB.p) (Qs.map PlB.p) l))++Cs.map (λc=>bK (fQ (Ps.map PtB.p) (Qs.map PlB.p) c)):=rfl
 rw[hR]
 unfold bkT
 unfold bkT at c3 c4 c5
 rw[yC,yC,yC]at *
 generalize hr1:Ps.map (λx=>bK (fN x))=R1 at *
 generalize hr2:Qs.map (λx=>bK (fA x))=R2 at *
 generalize hr3:Ss.map (λx=>bK (fO (Ps.map PtB.p) x))=R3 at *
 generalize hr4:Ls.map (λl=>bK (fP (Ps.map PtB.p) (Qs.map PlB.p) l))=R4 at *
 generalize hr5:Cs.map (λc=>bK (fQ (Ps.map PtB.p) (Qs.map PlB.p) c))=R5 at *
 have q1:R1.length=Ps.length:=by rw[<-hr1];simp
 have q2:R2.length=Qs.length:=by rw[<-hr2];simp
 have q3:R3.length=Ss.length:=by rw[<-hr3];simp
 have q4:R4.length=Ls.length:=by rw[<-hr4];simp
 have q5:R5.length=Cs.length:=by rw[<-hr5];simp
 generalize hp:Ps.map (λx=>ent x.p)=pD at *
 generalize hq:Qs.map (λx=>ent x.p)=qD at *
 generalize hs:Ss.map (λx=>ent x.p)=sD at *
 generalize hl:Ls.map lkT=lD at *
 generalize hc:Cs.map cvT=cD at *
 have m1:pD.length<=big:=by rw[<-hp,aD];lia
 have m2:qD.length<=big:=by rw[<-hq,aD];lia
 have m3:sD.length<=big:=by rw[<-hs,aD];lia
 have m4:lD.length<=big:=by rw[<-hl,aD];lia
 have m5:cD.length<=big:=by rw[<-hc,aD];lia
 have k2:R1.length+R2.length<=big:=by lia
 have k3:R1.length+(R2.length+R3.length)<=big:=by lia
 have k4:R1.length+(R2.length+(R3.length+R4.length))<=big:=by lia
 have k5:R1.length+(R2.length+(R3.length+(R4.length+R5.length)))<=big:=by lia
 have k3':R1.length+R2.length+R3.length<=big:=by lia
 have k4':R1.length+R2.length+R3.length+R4.length<=big:=by lia
 have k5':R1.length+R2.length+R3.length+R4.length+R5.length<=big:=by lia
 have k6:R1.length+(R2.length+R3.length)+R4.length<=big:=by lia
 have k7:R1.length+(R2.length+(R3.length+R4.length))+R5.length<=big:=by lia
 simp[zH,c1,c2,c3,c4,c5,m1,m2,m3,m4,m5,k2,k3',k6,k7]
theorem NJ(n:Nat){Ps Qs Ss Ls Cs}(g:GB Ps Qs Ss Ls Cs)(A:List IA)(Z:List IZ)(hA:A.filterMap aP=Ps/\A.filterMap aQ=Qs)(hZ:Z.filterMap zS=Ss/\Z.filterMap zL=Ls/\Z.filterMap zC=Cs)(la:A.length<=200)(lz:Z.length<=200) :
 aA T dfs (n+6) 14 [.lst ((A.map rowA++Z.map (rowZ (Ps.map PtB.p) (Qs.map PlB.p))).map D.str)]=.ok (.tup (bkT (Ps.map PtB.p) (Qs.map PlB.p) (Ss.map ScB.p) Ls Cs)):=by
 have memP:∀x,Sum.inl x∈A->x∈Ps:=λx hx=>by rw[<-hA.1];exact mM.mpr ⟨_,hx,rfl⟩
 have memQ:∀x,Sum.inr x∈A->x∈Qs:=λx hx=>by rw[<-hA.2];exact mM.mpr ⟨_,hx,rfl⟩
 have memS:∀x,Sum.inl x∈Z->x∈Ss:=λx hx=>by rw[<-hZ.1];exact mM.mpr ⟨_,hx,rfl⟩
 have memL:∀x,Sum.inr (Sum.inl x)∈Z->x∈Ls:=λx hx=>by rw[<-hZ.2.1];exact mM.mpr ⟨_,hx,rfl⟩
 have memC:∀x,Sum.inr (Sum.inr x)∈Z->x∈Cs:=λx hx=>by rw[<-hZ.2.2];exact mM.mpr ⟨_,hx,rfl⟩
 have r1:=A2 n [] [] [] A [] [] (λx hx=>g.gp x (memP x hx)) (λx hx=>g.gq x (memQ x hx)) (by rw[hA.1];exact g.np) (by rw[hA.2];exact g.nq) (by simp;lia) (by simp;lia)
 rw[hA.1,hA.2,eF,eF]at r1
 have r2:=uM n (Ps.map PtB.p) (Qs.map PlB.p) g.nmP g.nmQ (by rw[bB];exact g.np) (by rw[bB];exact g.nq) Z [] [] [] (λx hx=>by rw[aD];exact g.gs x (memS x hx)) (λx hx=>by rw[aD,aD];exact g.gl x (memL x hx)) (λx hx=>by rw[aD,aD];exact g.gc x (memC x hx)) (by rw[hZ.1];exact g.ns) (by rw[hZ.2.1];exact g.nl) (by rw[hZ.2.2];exact g.nc) (by simp;lia) (by simp;lia) (by simp;lia)
 rw[hZ.1,hZ.2.1,hZ.2.2,eF,eF,eF]at r2
 exact NB (n+5) _ _ (Run.app r1 r2)
noncomputable def dO(p:Nat×Nat):Int:=(p.1:Int)*1000+(p.2:Int)
noncomputable def plP(p:Nat×Nat):List Int:=[(p.1:Int),(p.2:Int)]
theorem NK{p q:Nat×Nat}(hp:p.2<1000)(hq:q.2<1000):Tr.eV (plP p) (plP q)=decide (dO p<dO q):=by
 unfold plP dO
 rw[Tr.eV]
 by_cases c:(p.1:Int)=(q.1:Int)
 ·rw[if_pos c,Tr.eV]
  by_cases d:(p.2:Int)=(q.2:Int)
  ·rw[if_pos d,Tr.eV];exact(decide_eq_false (by lia)).symm
  ·rw[if_neg d];exact decide_eq_decide.mpr (by lia)
 ·rw[if_neg c];exact decide_eq_decide.mpr (by lia)
theorem GG:∀x:List (Nat×Nat),kK (x.map aB)=.ok (x.map plP)
 |[]=>rfl
 |p::x=>by
  show(do let a<-gP [.int (p.1:Int),.int (p.2:Int)];let q<-kK (x.map aB);Res.ok (a::q))=_
  rw[GG x];rfl
theorem GH{lt:Nat×Nat->Nat×Nat->Prop}(hi:∀a,¬lt a a)(ha:∀a b,lt a b->¬lt b a):∀{a b:List (Nat×Nat)},a.Pairwise lt->b.Pairwise lt->(∀p,p∈a↔p∈b)->a=b
 |[],[],_,_,_=>rfl
 |[],q::b,_,_,h=>absurd ((h q).mpr bA) iS
 |p::a,[],_,_,h=>absurd ((h p).mp bA) iS
 |p::a,q::b,h1,h2,h=>by
  obtain⟨a1,a2⟩:=PJ.mp h1
  obtain⟨b1,b2⟩:=PJ.mp h2
  have e:p=q:=by
   rcases bL.mp ((h p).mp bA)with e|e
   ·exact e
   ·rcases bL.mp ((h q).mpr bA)with e'|e'
    ·exact e'.symm
    ·exact absurd (a1 q e') (ha _ _ (b1 p e))
  subst e
  rw[GH hi ha a2 b2 λr=>?_]
  constructor
  ·intro hr
   rcases bL.mp ((h r).mp (aY _ hr))with e|e
   ·rw[e]at hr;exact absurd (a1 p hr) (hi p)
   ·exact e
  ·intro hr
   rcases bL.mp ((h r).mpr (aY _ hr))with e|e
   ·rw[e]at hr;exact absurd (b1 p hr) (hi p)
   ·exact e
noncomputable def ltP(p q:Nat×Nat):Prop:=dO p<dO q
theorem NL{z:List (Nat×Nat)}(hx:x.Nodup)(hz:z.Pairwise ltP)(hm:∀p,p∈x↔p∈z)(hl:x.length<64)(hb:∀p∈x,p.2<1000):oW (.lst (x.map aB))=.ok (.lst (z.map aB)):=by
 have inj:∀{p q:Nat×Nat},p.2<1000->q.2<1000->dO p=dO q->p=q:=λ{p q} h1 h2 e=>by
  unfold dO at e
  exact Prod.ext (by lia) (by lia)
 show(do let kss<-kK (x.map aB);aC (kss.all (λk=>k.length==2)&&decide ((x.map aB).length<64)) (Res.ok (D.lst ((dR kss).map λi=>(x.map aB).getD i .non))))=_
 rw[GG,Res.ok_bind,bW (by rw[aM,Gj];exact⟨gO.mpr λ_ _=>rfl,decide_eq_true (by rw[aD];exact hl)⟩)]
 suffices h:∃y:List (Nat×Nat),(dR (x.map plP)).map (λi=>(x.map aB).getD i .non)=y.map aB/\y.Pairwise ltP/\∀p,p∈y↔p∈x by
  obtain⟨y,e,y1,y2⟩:=h
  rw[e,GH (λa=>Int.lt_irrefl _) (λa b h=>Int.lt_asymm h) y1 hz λp=>(y2 p).trans (hm p)]
 unfold dR
 by_cases c:(x.map plP).length<2
 ·rw[if_pos c]
  rw[aD]at c
  refine⟨x,?_,?_,λp=>Iff.rfl⟩
  ·rcases x with _|⟨p,_|⟨q,r⟩⟩
   ·rfl
   ·rfl
   ·rw[aW,aW]at c;lia
  ·rcases x with _|⟨p,_|⟨q,r⟩⟩
   ·exact rC.nil
   ·exact List.pairwise_singleton _ _
   ·rw[aW,aW]at c;lia
 ·rw[if_neg c]
  rw[aD]at c
  let f:Nat->Int:=λi=>match x[i]? with|some p=>dO p|none => -1
  have fat:∀i (h:i<x.length),f i=dO x[i]:=λi h=>by show(match x[i]? with|some p=>dO p|none => -1)=_;rw[aR h]
  have lt:(λi j=>Tr.eV ((x.map plP).getD i []) ((x.map plP).getD j []))=ltF f:=by
   funext i j
   show Tr.eV _ _=decide (f i<f j)
   rw[gI,gI,cE,cE]
   show _=decide ((match x[i]? with|some p=>dO p|none => -1)<(match x[j]? with|some p=>dO p|none => -1))
   cases hi:x[i]? with
   |none=>
    cases hj:x[j]? with
    |none=>rfl
    |some q=>show true=decide ((-1:Int)<dO q);exact(decide_eq_true (by unfold dO;lia)).symm
   |some p=>
    cases hj:x[j]? with
    |none=>show false=decide (dO p<(-1:Int));exact(decide_eq_false (by unfold dO;lia)).symm
    |some q=>exact NK (hb p (iO hi)) (hb q (iO hj))
  have fne:∀i j,i<j->j<x.length->f i≠f j:=λi j hij hj e=>by
   rw[fat i (by lia),fat j hj]at e
   have:=inj (hb _ (jH _)) (hb _ (jH _)) e
   exact PK.mp hx i j (by lia) hj hij this
  obtain⟨ok,ris⟩:=MH (f:=f) (n:=x.length) (by lia) fne
  unfold vO
  rw[lt,aD]
  generalize cO (ltF f) (PySem.W.kas_sort x.length)=p at *
  have pm:∀i,i∈p.toList↔i<x.length:=λi=>by
   have:=(Ol.mp ok.perm).mem_iff (a:=i)
   rw[this];simp
  have ga:∀i,i<x.length->(x.map aB).getD i .non=aB (x.getD i (0,0)):=λi h=>by simp[gI,h]
  refine⟨p.toList.map λi=>x.getD i (0,0),?_,?_,λq=>?_⟩
  ·rw[bB]
   exact gH λi hi=>ga i ((pm i).mp hi)
  ·rw[List.pairwise_map]
   refine PK.mpr λi j hi hj hij=>?_
   rw[qY]at hi hj
   have s:=ok.size
   have r:=ris i j hij (by lia)
   have e:∀k (h:k<p.size),p.getD k 0=p.toList[k]'(by simpa using h):=λk h=>by simp[mP,h]
   rw[e i hi,e j hj]at r
   have b1:=(pm _).mp (jH (l:=p.toList) (n:=i) (by simpa using hi))
   have b2:=(pm _).mp (jH (l:=p.toList) (n:=j) (by simpa using hj))
   rw[fat _ b1,fat _ b2]at r
   show dO _<dO _
   rw[gI,gI,aR b1,aR b2]
   exact r
  ·rw[cN]
   constructor
   ·rintro⟨i,hi,rfl⟩
    have:=(pm i).mp hi
    rw[gI,aR this]
    exact jH this
   ·intro hq
    obtain⟨i,hi,rfl⟩:=List.mem_iff_getElem.mp hq
    exact⟨i,(pm i).mpr hi,by rw[gI,aR hi];rfl⟩
theorem GI:∀n,n<=8->(pairsOf n).Pairwise ltP:=by
 have:∀n,n<9->(pairsOf n).Pairwise λp q=>p.1*1000+p.2<q.1*1000+q.2:=by decide +kernel
 exact λn h=>(this n (by lia)).imp λ{p q} h=>by unfold ltP dO;lia
theorem NM{S:List Scene}(hp:P.length<=8):(cF (aO P S) Y).Pairwise ltP:=((GI _ hp).filter _).filter _
theorem A3(p:Nat×Nat):∀ps:List (Nat×Nat),(ps.map aB).eraseIdx (plD (aB p) (ps.map aB))=(ps.erase p).map aB
 |[]=>rfl
 |q::ps=>by
  rw[aG,plD,EM,List.erase_cons]
  by_cases c:q=p
  ·rw[decide_eq_true c,if_pos rfl,if_pos (by simpa using c)];rfl
  ·rw[decide_eq_false c,if_neg bR,if_neg (by simpa using c),List.eraseIdx_cons_succ,A3 p ps,aG]
theorem GJ(p:Nat×Nat)(ps:List (Nat×Nat)):D.cmp .In (aB p) (.lst (ps.map aB))=.ok (.bl (decide (p∈ps))):=by
 show(do let k<-aC (D.pls 30 (ps.map aB)&&D.pl 29 (aB p)) (.ok (D.mem (aB p) (ps.map aB)));.ok (D.bl k))=_
 rw[eC aB 29 (jV 28),jV 28,pV];rfl
noncomputable def cV(xy:List (Nat×Nat)×List (Nat×Nat))(p:Nat×Nat):List (Nat×Nat)×List (Nat×Nat):=if p∈xy.2 then(xy.1,xy.2.erase p)else(xy.1++[p],xy.2)
theorem GK(xy:List (Nat×Nat)×List (Nat×Nat))(p:Nat×Nat):(cV xy p).1.length+(cV xy p).2.length<=xy.1.length+xy.2.length+1:=by
 unfold cV
 by_cases c:p∈xy.2
 ·rw[if_pos c];have:=List.length_erase_le (a:=p) (l:=xy.2);show xy.1.length+(xy.2.erase p).length<=_;lia
 ·rw[if_neg c];show(xy.1++[p]).length+xy.2.length<=_;rw[cP,iQ];lia
theorem GL(n a b:Nat)(d:D):∀(ps:List (Nat×Nat))(xy:List (Nat×Nat)×List (Nat×Nat))(x3:Sl),xy.1.length+xy.2.length+ps.length<1000 ->
 ∃x3',bH (bJ T (aA T dfs n) (.one 3) FH) (ps.map aB) [.r a (.lst (xy.1.map aB)),.r b (.lst (xy.2.map aB)),.v d,x3]=.ok (.nx [.r a (.lst ((ps.foldl cV xy).1.map aB)),.r b (.lst ((ps.foldl cV xy).2.map aB)),.v d,x3'])
 |[],xy,x3,_=>⟨x3,rfl⟩
 |p::ps,xy,x3,h=>by
  have hb:=bI
  rw[aW]at h
  have ll:=GK xy p
  obtain⟨x3',ih⟩:=GL n a b d ps (cV xy p) (.v (aB p)) (by lia)
  refine⟨x3',?_⟩
  rw[aG,lB,<-ih]
  refine dY ?_
  have e:=GJ p xy.2
  have l1:(xy.1.map aB).length<big:=by rw[aD];lia
  unfold cV
  by_cases c:p∈xy.2
  ·rw[if_pos c]
   rw[decide_eq_true c]at e
   have r:(D.pl 29 (aB p)&&D.pls 30 (xy.2.map aB)&&D.mem (aB p) (xy.2.map aB))=true:=by rw[eC aB 29 (jV 28),jV 28,pV,decide_eq_true c];rfl
   rw[<-A3]
   generalize xy.1.map aB=xd at *
   generalize xy.2.map aB=yd at *
   generalize aB p=pd at *
   lk
  ·rw[if_neg c]
   rw[decide_eq_false c]at e
   rw[cS,show [p].map aB=[aB p]from rfl]
   generalize xy.1.map aB=xd at *
   generalize xy.2.map aB=yd at *
   generalize aB p=pd at *
   lk
theorem GM(n a b:Nat)(d:D):∀(ps:List (Nat×Nat))(xy:List (Nat×Nat)×List (Nat×Nat))(x3:Sl),xy.1.length+xy.2.length+ps.length<1000 ->
 ∃x3',bH (bJ T (aA T dfs n) (.one 3) FI) (ps.map aB) [.r a (.lst (xy.2.map aB)),.r b (.lst (xy.1.map aB)),.v d,x3]=.ok (.nx [.r a (.lst ((ps.foldl cV xy).2.map aB)),.r b (.lst ((ps.foldl cV xy).1.map aB)),.v d,x3'])
 |[],xy,x3,_=>⟨x3,rfl⟩
 |p::ps,xy,x3,h=>by
  have hb:=bI
  rw[aW]at h
  have ll:=GK xy p
  obtain⟨x3',ih⟩:=GM n a b d ps (cV xy p) (.v (aB p)) (by lia)
  refine⟨x3',?_⟩
  rw[aG,lB,<-ih]
  refine dY ?_
  have e:=GJ p xy.2
  have l1:(xy.1.map aB).length<big:=by rw[aD];lia
  unfold cV
  by_cases c:p∈xy.2
  ·rw[if_pos c]
   rw[decide_eq_true c]at e
   have r:(D.pl 29 (aB p)&&D.pls 30 (xy.2.map aB)&&D.mem (aB p) (xy.2.map aB))=true:=by rw[eC aB 29 (jV 28),jV 28,pV,decide_eq_true c];rfl
   rw[<-A3]
   generalize xy.1.map aB=xd at *
   generalize xy.2.map aB=yd at *
   generalize aB p=pd at *
   lk
  ·rw[if_neg c]
   rw[decide_eq_false c]at e
   rw[cS,show [p].map aB=[aB p]from rfl]
   generalize xy.1.map aB=xd at *
   generalize xy.2.map aB=yd at *
   generalize aB p=pd at *
   lk
structure LaidI(C0 C:List (Nat×Nat))(x y:List (Nat×Nat)):Prop where
 nx:x.Nodup
 ny:y.Nodup
 mx:∀p,p∈x↔p∈C/\p∉C0
 my:∀p,p∈y↔p∈C0/\p∉C
theorem LaidI.lay(h:LaidI C0 C x y){p:Nat×Nat}(hp:p∉C):LaidI C0 (p::C) (cV (x,y) p).1 (cV (x,y) p).2:=by
 unfold cV
 by_cases c:p∈y
 ·rw[if_pos c]
  have h0:=((h.my p).mp c).1
  refine⟨h.nx,h.ny.erase p,λq=>?_,λq=>?_⟩
  ·rw[h.mx,bL]
   constructor
   ·exact λz=>⟨.inr z.1,z.2⟩
   ·rintro⟨rfl|z,w⟩
    ·exact absurd h0 w
    ·exact⟨z,w⟩
  ·show q∈y.erase p↔_
   rw[h.ny.mem_erase_iff,h.my,bL]
   constructor
   ·exact λz=>⟨z.2.1,λw=>w.elim z.1 z.2.2⟩
   ·exact λz=>⟨λw=>z.2 (.inl w),z.1,λw=>z.2 (.inr w)⟩
 ·rw[if_neg c]
  have h0:p∉C0:=λz=>c ((h.my p).mpr ⟨z,hp⟩)
  refine⟨kG.mpr ⟨h.nx,dP.mpr ⟨(λz=>nomatch z),kF⟩,λa ha b hb=>?_⟩,h.ny,λq=>?_,λq=>?_⟩
  ·rw[fX.mp hb]
   exact λz=>hp (z▸((h.mx a).mp ha).1)
  ·show q∈x++[p]↔_
   rw[fD,h.mx,fX,bL]
   constructor
   ·rintro(z|rfl)
    ·exact⟨.inr z.1,z.2⟩
    ·exact⟨.inl rfl,h0⟩
   ·rintro⟨rfl|z,w⟩
    ·exact .inr rfl
    ·exact .inl ⟨z,w⟩
  ·rw[h.my,bL]
   constructor
   ·exact λz=>⟨z.1,λw=>w.elim (λe=>h0 (e▸z.1)) z.2⟩
   ·exact λz=>⟨z.1,λw=>z.2 (.inr w)⟩
theorem LaidI.lays:∀(ps:List (Nat×Nat)){C x y:List (Nat×Nat)},LaidI C0 C x y->(∀p∈ps,p∉C)->ps.Nodup->LaidI C0 (ps.reverse++C) (ps.foldl cV (x,y)).1 (ps.foldl cV (x,y)).2
 |[],C,x,y,h,_,_=>h
 |p::ps,C,x,y,h,hp,hn=>by
  obtain⟨n1,n2⟩:=dP.mp hn
  have:=LaidI.lays ps (h.lay (hp p bA)) (λq hq z=>by
   rcases bL.mp z with e|z
   ·exact n1 (e▸hq)
   ·exact hp q (aY _ hq) z) n2
  rw[lB,List.reverse_cons,dG]
  exact this
theorem LaidI.iff{C0':List (Nat×Nat)}(h:LaidI C0 C x y)(h0:∀p,p∈C0↔p∈C0')(h1:∀p,p∈C↔p∈C'):LaidI C0' C' x y:=
 ⟨h.nx,h.ny,λp=>by rw[h.mx,h0,h1],λp=>by rw[h.my,h0,h1]⟩
theorem oO:∀{l U:List (Nat×Nat)},l.Nodup->(∀x∈l,x∈U)->l.length<=U.length
 |[],U,_,_=>eT _
 |a::r,U,h,hs=>by
  rw[dP]at h
  have ha:=hs a bA
  have:=oO (l:=r) (U:=U.erase a) h.2 λx hx=>(List.mem_erase_of_ne (λe:x=a=>h.1 (e▸hx))).mpr (hs x (aY _ hx))
  rw[Oz ha]at this
  have:=List.length_pos_of_mem ha
  rw[aW];lia
theorem LaidI.leave(h:LaidI C0 C x y){p:Nat×Nat}(hp:p∈C):LaidI C0 (C.filter λq=>!decide (q=p)) (cV (y,x) p).2 (cV (y,x) p).1:=by
 have mf:∀q,q∈C.filter (λq=>!decide (q=p))↔q∈C/\q≠p:=λq=>by rw[dW];simp
 unfold cV
 by_cases c:p∈x
 ·rw[if_pos c]
  have h0:=((h.mx p).mp c).2
  refine⟨h.nx.erase p,h.ny,λq=>?_,λq=>?_⟩
  ·show q∈x.erase p↔_
   rw[h.nx.mem_erase_iff,h.mx,mf]
   exact⟨λz=>⟨⟨z.2.1,z.1⟩,z.2.2⟩,λz=>⟨z.1.2,z.1.1,z.2⟩⟩
  ·rw[h.my,mf]
   exact⟨λz=>⟨z.1,λw=>z.2 w.1⟩,λz=>⟨z.1,λw=>z.2 ⟨w,λe=>h0 (e▸z.1)⟩⟩⟩
 ·rw[if_neg c]
  have h0:p∈C0:=Classical.byContradiction λz=>c ((h.mx p).mpr ⟨hp,z⟩)
  refine⟨h.nx,kG.mpr ⟨h.ny,dP.mpr ⟨(λz=>nomatch z),kF⟩,λa ha b hb=>?_⟩,λq=>?_,λq=>?_⟩
  ·rw[fX.mp hb]
   exact λz=>((h.my a).mp ha).2 (z▸hp)
  ·rw[h.mx,mf]
   exact⟨λz=>⟨⟨z.1,λe=>z.2 (e▸h0)⟩,z.2⟩,λz=>⟨z.1.1,z.2⟩⟩
  ·show q∈y++[p]↔_
   rw[fD,h.my,fX,mf]
   constructor
   ·rintro(z|rfl)
    ·exact⟨z.1,λw=>z.2 w.1⟩
    ·exact⟨h0,λw=>w.2 rfl⟩
   ·intro z
    by_cases e:q=p
    ·exact .inr e
    ·exact .inl ⟨z.1,λw=>z.2 ⟨w,e⟩⟩
theorem LaidI.leaves:∀(ps:List (Nat×Nat)){C x y:List (Nat×Nat)},LaidI C0 C x y->(∀p∈ps,p∈C)->ps.Nodup->LaidI C0 (C.filter λq=>!decide (q∈ps)) (ps.foldl cV (y,x)).2 (ps.foldl cV (y,x)).1
 |[],C,x,y,h,_,_=>h.iff (λ_=>Iff.rfl) λp=>by rw[dW];simp
 |p::ps,C,x,y,h,hp,hn=>by
  obtain⟨n1,n2⟩:=dP.mp hn
  have:=LaidI.leaves ps (h.leave (hp p bA)) (λq hq=>dW.mpr ⟨hp q (aY _ hq),by simpa using λe:q=p=>n1 (e▸hq)⟩) n2
  rw[lB]
  exact this.iff (λ_=>Iff.rfl) λq=>by
   rw[dW,dW,dW]
   simp only[cL,decide_eq_false_iff_not,bL]
   exact⟨λz=>⟨z.1.1,λw=>w.elim z.1.2 z.2⟩,λz=>⟨⟨z.1,λw=>z.2 (.inl w)⟩,λw=>z.2 (.inr w)⟩⟩
theorem less_mem{p:Nat×Nat}:p∈cF X Y↔p∈X/\p∉Y:=by unfold cF;rw[dW];simp
theorem NO(n:Nat)(h:LaidI C0 C x y)(h0:C0.length<=64)(h1:C.length<=64)(h2:C'.length<=64)(hn:C.Nodup)(hn':C'.Nodup) :
 ∃x' y',LaidI C0 C' x' y'/\kL (aA T dfs (n+1)) 60 (x.map aB) (y.map aB) (.tup [.lst ((cF C' C).map aB),.lst ((cF C C').map aB)])=.ok (x'.map aB,y'.map aB):=by
 have a1:=h.lays (cF C' C) (λp hp=>(less_mem.mp hp).2) (hn'.filter _)
 have a2:=a1.leaves (cF C C') (λp hp=>hV _ (less_mem.mp hp).1) (hn.filter _)
 have l1:=lF (λp=>!decide (p∈C)) C'
 have l2:=lF (λp=>!decide (p∈C')) C
 have b1:=oO h.nx λp hp=>((h.mx p).mp hp).1
 have b2:=oO h.ny λp hp=>((h.my p).mp hp).1
 have b3:=oO a1.nx λp hp=>((a1.mx p).mp hp).1
 have b4:=oO a1.ny λp hp=>((a1.my p).mp hp).1
 rw[cP,Ag]at b3
 refine⟨_,_,a2.iff (λ_=>Iff.rfl) λp=>?_,IS λa b ab=>?_⟩
 ·rw[dW,fD,List.mem_reverse,less_mem]
  simp only[cL,decide_eq_false_iff_not,less_mem]
  constructor
  ·rintro⟨z|z,w⟩
   ·exact z.1
   ·exact Classical.byContradiction λq=>w ⟨z,q⟩
  ·intro z
   refine⟨?_,λw=>w.2 z⟩
   by_cases q:p∈C
   ·exact .inr q
   ·exact .inl ⟨z,q⟩
 ·unfold cF at *
  obtain⟨y1,e1⟩:=GL n a b (.tup [.lst ((C'.filter λp=>!decide (p∈C)).map aB),.lst ((C.filter λp=>!decide (p∈C')).map aB)]) (C'.filter λp=>!decide (p∈C)) (x,y) .no (by show x.length+y.length+_<_;lia)
  generalize (C'.filter λp=>!decide (p∈C)).foldl cV (x,y)=z1 at *
  obtain⟨y2,e2⟩:=GM n a b (.tup [.lst ((C'.filter λp=>!decide (p∈C)).map aB),.lst ((C.filter λp=>!decide (p∈C')).map aB)]) (C.filter λp=>!decide (p∈C')) (z1.2,z1.1) y1 (by show z1.2.length+z1.1.length+_<_;lia)
  refine LX (e:=[.r a (.lst _),.r b (.lst _),.v (.tup [.lst ((C'.filter λp=>!decide (p∈C)).map aB),.lst ((C.filter λp=>!decide (p∈C')).map aB)]),y2]) rfl rfl rfl ?_ rfl rfl
  have i0:D.ix (.tup [.lst ((C'.filter λp=>!decide (p∈C)).map aB),.lst ((C.filter λp=>!decide (p∈C')).map aB)]) (.int 0)=.ok (.lst ((C'.filter λp=>!decide (p∈C)).map aB)):=rfl
  have i1:D.ix (.tup [.lst ((C'.filter λp=>!decide (p∈C)).map aB),.lst ((C.filter λp=>!decide (p∈C')).map aB)]) (.int 1)=.ok (.lst ((C.filter λp=>!decide (p∈C')).map aB)):=rfl
  generalize D.tup [.lst ((C'.filter λp=>!decide (p∈C)).map aB),.lst ((C.filter λp=>!decide (p∈C')).map aB)]=d at *
  generalize (C'.filter λp=>!decide (p∈C)).map aB=cd at *
  generalize (C.filter λp=>!decide (p∈C')).foldl cV (z1.2,z1.1)=z2 at *
  generalize (C.filter λp=>!decide (p∈C')).map aB=gd at *
  show exS T (aA T dfs n) AM [.r a (.lst (x.map aB)),.r b (.lst (y.map aB)),.v d,.no]=_
  lk
theorem GN(n:Nat)(P:List Part)(A B C A' B' C':D)(S S':List Scene)(hp:P.length<=8)(hs:S.length<=24)(hs':S'.length<=24) :
 aA T dfs (n+6) 43 [.tup [.tup (P.map Part.enc),A,.tup (S.map Scene.enc),B,C],.tup [.tup (P.map Part.enc),A',.tup (S'.map Scene.enc),B',C']] =
  .ok (.tup [.lst ((cF (aO P S') (aO P S)).map aB),.lst ((cF (aO P S) (aO P S')).map aB)]):=by
 have hb:=bI
 have e1:aA T dfs (n+5) 26 [.tup [.tup (P.map Part.enc),A,.tup (S.map Scene.enc),B,C]]=.ok (.lst ((aO P S).map aB)):=AX n A B C P S hs hp
 have e2:aA T dfs (n+5) 26 [.tup [.tup (P.map Part.enc),A',.tup (S'.map Scene.enc),B',C']]=.ok (.lst ((aO P S').map aB)):=AX n A' B' C' P S' hs' hp
 have l1:=lW (S:=S) hp
 have l2:=lW (S:=S') hp
 generalize aO P S=X at *
 generalize aO P S'=Y at *
 have cc:∀(X Y:List (Nat×Nat))(g:E)(c:E),g=.var 0->c=.cmp .NotIn (.var 0) (.var 1)->aU (dJ T (aA T dfs (n+5)) (.one 0) g c [.no,.v (.lst (X.map aB))]) (Y.map aB)=.ok ((cF Y X).map aB):=by
  rintro X Y _ _ rfl rfl
  refine tF aB _ λp _=>?_
  have e:=notPr3 p X
  generalize (!decide (p∈X))=b at e⊢
  generalize aB p=pd at *
  cases b with
  |false=>rw[if_neg bR];lk
  |true=>rw[if_pos rfl];lk
 have c1:=cc X Y Eu Et rfl rfl
 have c2:=cc Y X Es Er rfl rfl
 have l3:(X.map aB).length<=big:=by rw[aD];lia
 have l4:(Y.map aB).length<=big:=by rw[aD];lia
 refine aJ (k:=false) rfl rfl rfl ?_
 generalize D.tup [.tup (P.map Part.enc),A,.tup (S.map Scene.enc),B,C]=B1 at *
 generalize D.tup [.tup (P.map Part.enc),A',.tup (S'.map Scene.enc),B',C']=B2 at *
 lk
noncomputable def mJ(come:List (Nat×Nat))(cs:List (Option Nat)):Bool:=come.any λp=>dE cs p.1 p.2
theorem NP(n:Nat)(ps:List (Nat×Nat))(cs:List (Option Nat))(h:∀p∈ps,p.1<cs.length/\p.2<cs.length)(hl:ps.length<=100):aA T dfs (n+2) 44 [.lst (ps.map aB),.lst (cs.map aT)]=.ok (.bl (mJ ps cs)):=by
 have hb:=bI
 have c1:aU (dJ T (aA T dfs (n+1)) (.many [0,1]) Ex (.con (.bl true)) [.no,.no,.v (.lst (cs.map aT))]) (ps.map aB)=.ok ((ps.map λp:Nat×Nat=>dE cs p.1 p.2).map D.bl):=by
  rw[gE aB (λp=>some (D.bl (dE cs p.1 p.2))) (by
   intro p hp
   have e:=Fz n cs p.1 p.2 (h p hp).1 (h p hp).2
   unfold aB
   generalize cs.map aT=cd at *
   generalize dE cs p.1 p.2=b at *
   lk),lH,bB];rfl
 have l1:(ps.map aB).length<=big:=by rw[aD];lia
 have e3:Bt.run .any [.lst ((ps.map λp:Nat×Nat=>dE cs p.1 p.2).map D.bl)]=.ok (.bl (mJ ps cs)):=by
  show(do let q<-gK ((ps.map λp:Nat×Nat=>dE cs p.1 p.2).map D.bl);Res.ok (D.bl (q.any id)))=_
  rw[show gK ((ps.map λp:Nat×Nat=>dE cs p.1 p.2).map D.bl)=.ok (ps.map λp:Nat×Nat=>dE cs p.1 p.2) by
   generalize (ps.map λp:Nat×Nat=>dE cs p.1 p.2)=q
   clear c1 l1 h hl
   induction q with
   |nil=>rfl
   |cons b r ih=>rw[aG,gK,ih];rfl,Res.ok_bind,List.any_map]
  rfl
 refine aJ (k:=false) rfl rfl rfl ?_
 generalize (ps.map λp:Nat×Nat=>dE cs p.1 p.2).map D.bl=bd at *
 generalize cs.map aT=cd at *
 generalize ps.map aB=pd at *
 lk
theorem NQ(n:Nat)(ps:List (Nat×Nat))(r:D)(cs:List (Option Nat))(h:∀p∈ps,p.1<cs.length/\p.2<cs.length)(hl:ps.length<=100) :
 ∃ds,aA T dfs (n+3) 45 [.tup [.lst (ps.map aB),r],.lst [.lst (cs.map aT)]]=.ok (.lst ds)/\D.cmp .Eq (.lst ds) (.lst [])=.ok (.bl (!mJ ps cs)):=by
 have hb:=bI
 have e:=NP n ps cs h hl
 have i0:D.ix (.tup [.lst (ps.map aB),r]) (.int 0)=.ok (.lst (ps.map aB)):=rfl
 have en:jT (.lst [.lst (cs.map aT)])=.ok [.tup [.int 0,.lst (cs.map aT)]]:=rfl
 have l1:[D.tup [.int 0,.lst (cs.map aT)]].length<=big:=by show 1<=big;lia
 cases c:mJ ps cs with
 |true=>
  rw[c]at e
  refine⟨[.int 0],aJ (k:=true) rfl rfl rfl ?_,rfl⟩
  have k:aU (dJ T (aA T dfs (n+2)) (.many [0,1]) qI qH [.no,.no,.v (.tup [.lst (ps.map aB),r])]) [.tup [.int 0,.lst (cs.map aT)]]=.ok [.int 0]:=by
   have:dJ T (aA T dfs (n+2)) (.many [0,1]) qI qH [.no,.no,.v (.tup [.lst (ps.map aB),r])] (.tup [.int 0,.lst (cs.map aT)])=.ok (some (.int 0)):=by
    generalize D.tup [.lst (ps.map aB),r]=t at *
    generalize D.lst (cs.map aT)=cd at *
    generalize D.lst (ps.map aB)=pd at *
    lk
   rw[aU,this];rfl
  generalize D.tup [.lst (ps.map aB),r]=t at *
  generalize D.lst (cs.map aT)=cd at *
  lk
 |false=>
  rw[c]at e
  refine⟨[],aJ (k:=true) rfl rfl rfl ?_,rfl⟩
  have k:aU (dJ T (aA T dfs (n+2)) (.many [0,1]) qI qH [.no,.no,.v (.tup [.lst (ps.map aB),r])]) [.tup [.int 0,.lst (cs.map aT)]]=.ok []:=by
   have:dJ T (aA T dfs (n+2)) (.many [0,1]) qI qH [.no,.no,.v (.tup [.lst (ps.map aB),r])] (.tup [.int 0,.lst (cs.map aT)])=.ok none:=by
    generalize D.tup [.lst (ps.map aB),r]=t at *
    generalize D.lst (cs.map aT)=cd at *
    generalize D.lst (ps.map aB)=pd at *
    lk
   rw[aU,this];rfl
  generalize D.tup [.lst (ps.map aB),r]=t at *
  generalize D.lst (cs.map aT)=cd at *
  lk
theorem NR{ws:List Nat}:D.cmp .NotIn (.int (i:Int)) (.lst (aE ws))=.ok (.bl (!decide (i∈ws))):=by
 show(do let k<-aC (D.pls 30 (aE ws)&&D.pl 29 (.int (i:Int))) (.ok (D.mem (.int (i:Int)) (aE ws)));.ok (D.bl (!k)))=_
 rw[bW (by rw[nN 29 ws];rfl),sW];rfl
noncomputable def fT (p:Part):Part:=⟨p.name, "a", 0,0⟩
noncomputable def eP (q:Player):Player:=⟨q.name, "ba", q.hire⟩
noncomputable def cA(cs:List Nat)(i:Nat):Nat:=cs.getD i 0
noncomputable def fU(cell:Int)(m n:Nat):List Nat:=(aI n).map λ(k:Nat)=>(aF cell (k:Int)%(m:Int)).toNat
noncomputable def hJ(cs:List Nat):List Nat->List Nat->List Nat
 |kept,[]=>kept
 |kept,p::r=>if cA cs p∈kept.map (λi=>cA cs i)then hJ cs kept r else hJ cs (kept++[p]) r
noncomputable def iL(cs:List Nat)(s:Scene):Scene:=⟨s.name,s.len,s.pause,hJ cs [] s.who⟩
theorem A4(cs:List Nat):∀(r kept:List Nat),(kept.map (λi=>cA cs i)).Nodup->((hJ cs kept r).map (λi=>cA cs i)).Nodup/\(∀x∈hJ cs kept r,x∈kept\/x∈r)
 |[],kept,h=>⟨h,λx hx=>.inl hx⟩
 |p::r,kept,h=>by
  rw[hJ]
  by_cases c:cA cs p∈kept.map (λi=>cA cs i)
  ·rw[if_pos c]
   obtain⟨h1,h2⟩:=A4 cs r kept h
   exact⟨h1,λx hx=>(h2 x hx).imp id (aY _)⟩
  ·rw[if_neg c]
   obtain⟨h1,h2⟩:=A4 cs r (kept++[p]) (by
    rw[cS,kG]
    refine⟨h,by simp,λx hx y hy e=>c ?_⟩
    rw[aG,dQ,fX]at hy
    rw[<-hy,<-e];exact hx)
   refine⟨h1,λx hx=>?_⟩
   rcases h2 x hx with z|z
   ·rcases fD.mp z with z|z
    ·exact .inl z
    ·exact .inr (by rw[fX.mp z];exact bA)
   ·exact .inr (aY _ z)
theorem GO{α β:Type}(f:α->β):∀{l:List α},(l.map f).Nodup->l.Nodup
 |[],_=>kF
 |a::r,h=>by
  rw[aG,dP]at h
  exact dP.mpr ⟨λz=>h.1 (cN.mpr ⟨a,z,rfl⟩),GO f h.2⟩
theorem GR(h:i<cs.length):D.ix (.lst (aE cs)) (.int (i:Int))=.ok (.int (cA cs i:Int)):=by
 refine nM ?_
 unfold aE
 rw[cE,aR h,show cA cs i=cs[i] by unfold cA;rw[gI,aR h];rfl];rfl
theorem A5(n:Nat)(h8:cs.length<=8)(a0 a1 a2 a3 a5 a6 a7 a8 a9:Sl):∀(r kept:List Nat)(x:Sl),(∀i∈r,i<cs.length)->(∀i∈kept,i<cs.length)->kept.length+r.length<=100 ->
 ∃y,bH (bJ T (aA T dfs n) (.one 11) oI) (aE r) [a0,a1,a2,a3,.v (.lst (aE cs)),a5,a6,a7,a8,a9,.o (.lst (aE kept)),x]=.ok (.nx [a0,a1,a2,a3,.v (.lst (aE cs)),a5,a6,a7,a8,a9,.o (.lst (aE (hJ cs kept r))),y])
 |[],kept,x,_,_,_=>⟨x,rfl⟩
 |p::r,kept,x,hr,hk,hl=>by
  have hb:=bI
  have hp:=hr p bA
  have e1:=GR hp
  have c1:∀z,aU (bE T (aA T dfs n) 1 [4] (.one 0) AI (.con (.bl true)) [a0,a1,a2,a3,.v (.lst (aE cs)),a5,a6,a7,a8,a9,.o (.lst (aE kept)),z]) (aE kept)=.ok (aE (kept.map λi=>cA cs i)):=λz=>by
   unfold aE
   rw[gE (λ(i:Nat)=>D.int (i:Int)) (λi=>some (D.int (cA cs i:Int))) (λi hi=>by
    have:=GR (hk i hi)
    unfold aE at this
    simp[bE,Tr.bT,AI,this]),lH,bB];rfl
  have ln:(aE kept).length<=big:=by rw[lS];rw[aW]at hl;lia
  have ll:(aE kept).length<big:=by rw[lS];rw[aW]at hl;lia
  have q:=NR (i:=cA cs p) (ws:=kept.map λi=>cA cs i)
  rw[hJ]
  have ap:aE kept++[D.int (p:Int)]=aE (kept++[p]):=by unfold aE;rw[cS];rfl
  by_cases c:cA cs p∈kept.map (λi=>cA cs i)
  ·rw[if_pos c]
   rw[decide_eq_true c]at q
   obtain⟨y,hy⟩:=A5 n h8 a0 a1 a2 a3 a5 a6 a7 a8 a9 r kept (.v (.int (p:Int))) (λi hi=>hr i (aY _ hi)) hk (by rw[aW]at hl;lia)
   refine⟨y,?_⟩
   have body:bJ T (aA T dfs n) (.one 11) oI (.int (p:Int)) [a0,a1,a2,a3,.v (.lst (aE cs)),a5,a6,a7,a8,a9,.o (.lst (aE kept)),x]=.ok (.nx [a0,a1,a2,a3,.v (.lst (aE cs)),a5,a6,a7,a8,a9,.o (.lst (aE kept)),.v (.int (p:Int))]):=by
    generalize aE kept=k at *
    simp[bJ,oI,e1,c1,ln,q]
   show bH _ (.int (p:Int)::aE r) _=_
   rw[dY body,hy]
  ·rw[if_neg c]
   rw[decide_eq_false c]at q
   obtain⟨y,hy⟩:=A5 n h8 a0 a1 a2 a3 a5 a6 a7 a8 a9 r (kept++[p]) (.v (.int (p:Int))) (λi hi=>hr i (aY _ hi)) (λi hi=>by
    rcases fD.mp hi with z|z
    ·exact hk i z
    ·rw[fX.mp z];exact hp) (by rw[aW]at hl;rw[cP,iQ];lia)
   refine⟨y,?_⟩
   have body:bJ T (aA T dfs n) (.one 11) oI (.int (p:Int)) [a0,a1,a2,a3,.v (.lst (aE cs)),a5,a6,a7,a8,a9,.o (.lst (aE kept)),x]=.ok (.nx [a0,a1,a2,a3,.v (.lst (aE cs)),a5,a6,a7,a8,a9,.o (.lst (aE (kept++[p]))),.v (.int (p:Int))]):=by
    rw[<-ap]
    generalize aE kept=k at *
    simp[bJ,oI,e1,c1,ln,ll,q]
   show bH _ (.int (p:Int)::aE r) _=_
   rw[dY body,hy]
theorem GT{α:Type}(xs:List α)(k:Nat):cut xs none (some (k:Int))=xs.take k:=by
 by_cases h:k<=xs.length
 ·exact nX h
 ·unfold cut sIx
  dsimp only
  rw[if_neg (by lia),kE,Aj (by lia),uS,uT,Od,kD (by lia)]
theorem GU(n:Nat)(h8:cs.length<=8)(a0 a1 a2 a3:Sl):∀(ss done:List Scene)(x6 x7 x8 x9 x10 x11:Sl),(∀s∈ss,GoodScene cs.length s)->done.length+ss.length<=100 ->
 ∃y6 y7 y8 y9 y10 y11,bH (bJ T (aA T dfs n) (.many [6,7,8,9]) tZ) (ss.map Scene.enc) [a0,a1,a2,a3,.v (.lst (aE cs)),.o (.lst (done.map Scene.enc)),x6,x7,x8,x9,x10,x11]=.ok (.nx [a0,a1,a2,a3,.v (.lst (aE cs)),.o (.lst ((done++ss.map (iL cs)).map Scene.enc)),y6,y7,y8,y9,y10,y11])
 |[],done,x6,x7,x8,x9,x10,x11,_,_=>⟨x6,x7,x8,x9,x10,x11,by rw[dQ (f:=iL cs),fF];rfl⟩
 |s::ss,done,x6,x7,x8,x9,x10,x11,hg,hl=>by
  have hb:=bI
  have gs:=hg s bA
  have w8:s.who.length<=8:=eQ (pU gs.nd gs.lt) h8
  rw[aW]at hl
  obtain⟨y,hy⟩:=A5 n h8 a0 a1 a2 a3 (.o (.lst (done.map Scene.enc))) (.v (.str s.name)) (.v (.int s.len)) (.v (.int s.pause)) (.v (.tup (aE s.who))) s.who [] x11 gs.lt (λi hi=>by cases hi) (by rw[Gw];lia)
  obtain⟨y6,y7,y8,y9,y10,y11,h⟩:=GU n h8 a0 a1 a2 a3 ss (done++[iL cs s]) (.v (.str s.name)) (.v (.int s.len)) (.v (.int s.pause)) (.v (.tup (aE s.who))) (.o (.lst (aE (hJ cs [] s.who)))) y (λt ht=>hg t (aY _ ht)) (by rw[cP,iQ];lia)
  refine⟨y6,y7,y8,y9,y10,y11,?_⟩
  have ll:(done.map Scene.enc).length<big:=by rw[aD];lia
  have ap:done.map Scene.enc++[D.tup [.str s.name,.int s.len,.int s.pause,.tup (aE (hJ cs [] s.who))]]=(done++[iL cs s]).map Scene.enc:=by rw[cS];rfl
  have body:bJ T (aA T dfs n) (.many [6,7,8,9]) tZ s.enc [a0,a1,a2,a3,.v (.lst (aE cs)),.o (.lst (done.map Scene.enc)),x6,x7,x8,x9,x10,x11]=.ok (.nx [a0,a1,a2,a3,.v (.lst (aE cs)),.o (.lst ((done++[iL cs s]).map Scene.enc)),.v (.str s.name),.v (.int s.len),.v (.int s.pause),.v (.tup (aE s.who)),.o (.lst (aE (hJ cs [] s.who))),y]):=by
   rw[show aE []=[]from rfl]at hy
   rw[<-ap]
   generalize done.map Scene.enc=dd at *
   generalize aE (hJ cs [] s.who)=kk at *
   simp[bJ,tZ,Scene.enc,hy,ll]
  rw[aG,dY body,h,aG]
  rw[dG];rfl
theorem NS(hm:0<m){j:Nat}(h:j∈fU cell m n):j<m:=by
 obtain⟨k,_,rfl⟩:=cN.mp h
 have:=jI (aF cell (k:Int)) (show(0:Int)<(m:Int) by lia)
 have:=fH (aF cell (k:Int)) (show(m:Int)≠0 by lia)
 lia
theorem staged(n:Nat)(P:List Part)(Q:List Player)(S:List Scene)(L C:D)(dr:Drawn P Q S)(hq:0<Q.length)(cell:Int) :
 aA T dfs (n+2) 56 [.tup [.tup (P.map Part.enc),.tup (Q.map Player.enc),.tup (S.map Scene.enc),L,C],.int cell] =
  .ok (.tup [.tup [.tup ((P.map fT).map Part.enc),.tup ((Q.map eP).map Player.enc),.tup (((S.take 5).map (iL (fU cell Q.length P.length))).map Scene.enc),L,C],.lst (aE (fU cell Q.length P.length))]):=by
 have hb:=bI
 have hp8:=dr.hp
 have hq6:=dr.hq
 refine aJ (k:=false) rfl rfl rfl ?_
 have c1:∀e,aU (bE T (aA T dfs (n+1)) 4 [] (.many [0,1,2,3]) AF (.con (.bl true)) e) (P.map Part.enc)=.ok ((P.map fT).map Part.enc):=λe=>by
  rw[gE Part.enc (λp=>some (fT p).enc) (λp _=>by simp[bE,Tr.bT,AF,Part.enc,fT]),lH,bB];rfl
 have c2:∀e,aU (bE T (aA T dfs (n+1)) 3 [] (.many [0,1,2]) AG (.con (.bl true)) e) (Q.map Player.enc)=.ok ((Q.map eP).map Player.enc):=λe=>by
  rw[gE Player.enc (λp=>some (eP p).enc) (λp _=>by simp[bE,Tr.bT,AG,Player.enc,eP]),lH,bB];rfl
 have lp:Bt.run .len [.tup ((P.map fT).map Part.enc)]=.ok (.int (P.length:Nat)):=by
  show Res.ok (D.int (((P.map fT).map Part.enc).length:Nat))=_
  rw[aD,aD]
 have lq:Bt.run .len [.tup ((Q.map eP).map Player.enc)]=.ok (.int (Q.length:Nat)):=by
  show Res.ok (D.int (((Q.map eP).map Player.enc).length:Nat))=_
  rw[aD,aD]
 have rg:=nT (n:=P.length) (by lia)
 have c3:∀a0 a2 x4 x5 x6 x7 x8 x9 x10 x11,aU (bE T (aA T dfs (n+1)) 1 [1,3] (.one 0) AH (.con (.bl true)) [a0,.v (.int cell),a2,.v (.tup ((Q.map eP).map Player.enc)),x4,x5,x6,x7,x8,x9,x10,x11]) ((aI P.length).map aL)=.ok (aE (fU cell Q.length P.length)):=λa0 a2 x4 x5 x6 x7 x8 x9 x10 x11=>by
  rw[gE aL (λ(k:Nat)=>some (D.int ((aF cell (k:Int)%(Q.length:Int)).toNat:Int))) (λk hk=>by
   have hk:=kC.mp hk
   have e1:=gN n cell (k:Int) ⟨by lia,by lia⟩
   have e2:D.bin .Mod (.int (aF cell (k:Int))) (.int (Q.length:Nat))=.ok (.int ((aF cell (k:Int)%(Q.length:Int)).toNat:Int)):=by
    rw[iH (by lia)]
    have:=fH (aF cell (k:Int)) (show(Q.length:Int)≠0 by lia)
    rw[rL this]
   generalize ((Q.map eP).map Player.enc)=qq at *
   simp[bE,Tr.bT,AH,aL,e1,lq,e2]),lH]
  unfold aE fU
  rw[bB];rfl
 have hcl:(fU cell Q.length P.length).length=P.length:=by unfold fU;rw[aD,eS]
 have sl:D.sl (.tup (S.map Scene.enc)) none (some 5)=.ok (.tup ((S.take 5).map Scene.enc)):=by
  show Res.ok (D.tup (cut (S.map Scene.enc) none (some 5)))=_
  rw[show(some (5:Int))=some ((5:Nat):Int)from rfl]
  rw[GT,mO]
 generalize hcs:fU cell Q.length P.length=cs at *
 obtain⟨y6,y7,y8,y9,y10,y11,lo⟩:=GU (n+1) (cs:=cs) (by lia) (.v (.tup [.tup (P.map Part.enc),.tup (Q.map Player.enc),.tup (S.map Scene.enc),L,C])) (.v (.int cell)) (.v (.tup ((P.map fT).map Part.enc))) (.v (.tup ((Q.map eP).map Player.enc))) (S.take 5) [] .no .no .no .no .no .no (λs hs=>by rw[hcl];exact dr.good s (oT hs)) (by rw[Gw,dF];lia)
 have l1:((P.map Part.enc)).length<=big:=by rw[aD];lia
 have l2:((Q.map Player.enc)).length<=big:=by rw[aD];lia
 have l3:((aI P.length).map aL).length<=big:=by rw[aD,eS];lia
 rw[dQ,eF]at lo
 generalize (P.map fT).map Part.enc=pe at *
 generalize (Q.map eP).map Player.enc=qe at *
 generalize ((S.take 5).map (iL cs)).map Scene.enc=se at *
 generalize (S.take 5).map Scene.enc=s5 at *
 generalize S.map Scene.enc=s0 at *
 generalize P.map Part.enc=p0 at *
 generalize Q.map Player.enc=q0 at *
 generalize (aI P.length).map aL=rr at *
 generalize aE cs=cc at *
 simp[AJ,c1,c2,c3,lp,lq,rg,l1,l2,l3,sl,lo]
theorem NT{S:List Scene}(g:Nice many S){c:Chg}(hf:c.fit many S):Nice many (c.on S):=by
 have mods:∀a (y:Scene),a<S.length->y.name=(aK S a).name->c.on S=bU (bN S a) a y->Nice many (c.on S):=by
  intro a y h en e
  refine⟨qB g.ok hf,λs hs=>?_,?_⟩
  ·rw[e]at hs
   rcases jX hs with rfl|hs
   ·rw[en];exact g.nm _ (jY h)
   ·exact g.nm _ (jF hs)
  ·have k:=congrArg (List.map Scene.name) (yD h)
   rw[cS,aG]at k
   rw[e,EX h,cS,aG,en,<-k];exact g.nd
 have cuts:∀a,a<S.length->((bN S a).map Scene.name).Nodup:=λa h=>by
  have p:=((E2 h).map Scene.name).nodup_iff.mp g.nd
  rw[aG,dP]at p;exact p.2
 have cR:∀(U:List Scene)(a:Nat)(s:Scene),(U.map Scene.name).Nodup->(∀x∈U,x.name≠s.name)->((bU U a s).map Scene.name).Nodup:=λU a s hU hs=>by
  have q:(bU U a s).Perm (s::U):=by
   have:=PF (a:=s) (l₁:=U.take a) (l₂:=U.drop a)
   rw[uY]at this;exact this
  refine(q.map Scene.name).nodup_iff.mpr ?_
  rw[aG,dP]
  exact⟨λz=>by obtain⟨x,hx,e⟩:=cN.mp z;exact hs x hx e,hU⟩
 cases c with
 |mov a t=>
  refine⟨qB g.ok hf,λs hs=>?_,cR _ _ _ (cuts a hf.1) (yH g hf.1).new⟩
  rcases jX hs with rfl|hs
  ·exact g.nm _ (jY hf.1)
  ·exact g.nm _ (jF hs)
 |cut a=>exact⟨qB g.ok hf,λs hs=>g.nm _ (jF hs),cuts a hf⟩
 |add a s=>
  refine⟨qB g.ok hf,λx hx=>?_,cR _ _ _ g.nd hf.2.new⟩
  rcases jX hx with rfl|hx
  ·exact hf.2.nm
  ·exact g.nm _ hx
 |len a m=>exact mods a ((Chg.len a m).mod (aK S a)) hf.1 rfl rfl
 |pau a m=>exact mods a ((Chg.pau a m).mod (aK S a)) hf.1 rfl rfl
 |ent a p=>exact mods a ((Chg.ent a p).mod (aK S a)) hf.1 rfl rfl
 |lea a p=>exact mods a ((Chg.lea a p).mod (aK S a)) hf.1 rfl rfl
noncomputable def qW(s:Scene):ScB:=⟨s.name,s.len.toNat,s.pause.toNat,s.who⟩
theorem NU{s:Scene}(h:OkScene m s):ent (qW s).p=s.enc:=by
 show D.tup [.str s.name,.int (s.len.toNat:Int),.int (s.pause.toNat:Int),.tup (s.who.map λi:Nat=>D.int i)]=_
 rw[rL h.len.1,rL h.pause.1];rfl
noncomputable def Rdb(P:List Part)(Q:List Player)(L:List (Nat×Nat×Nat))(C:List (Nat×Nat)):Prop:=
 ∃Ps Qs,GB Ps Qs [] L C/\(Ps.map PtB.p).map ent=P.map Part.enc/\(Qs.map PlB.p).map ent=Q.map Player.enc
theorem lA{α β γ:Type}(f:α->Option γ)(g:β->α)(h:∀b,f (g b)=none)(xs:List β):(xs.map g).filterMap f=[]:=by
 rw[List.filterMap_eq_nil_iff]
 intro a ha
 obtain⟨b,_,rfl⟩:=cN.mp ha
 exact h b
theorem qX{α β:Type}(f:α->Option β)(g:β->α)(h:∀b,f (g b)=some b)(xs:List β):(xs.map g).filterMap f=xs:=by
 rw[Gc]
 have:(f∘g)=some:=by funext b;exact h b
 rw[this,List.filterMap_some]
theorem NW(n:Nat){S:List Scene}(r:Rdb P Q L C)(k:Nice P.length S)(hp:P.length<=8)(hs:S.length<=50) :
 ∃d,aA T dfs (n+6) 20 [.tup [.tup (P.map Part.enc),.tup (Q.map Player.enc),.tup (S.map Scene.enc),.tup (L.map lkD),.tup (C.map prD)]]=.ok d/\aA T dfs (n+6) 14 [d]=.ok (.tup [.tup (P.map Part.enc),.tup (Q.map Player.enc),.tup (S.map Scene.enc),.tup (L.map lkD),.tup (C.map prD)]):=by
 obtain⟨Ps,Qs,g0,e1,e2⟩:=r
 have hl:Ps.length=P.length:=by have:=congrArg A7 e1;simpa using this
 have g:GB Ps Qs (S.map qW) L C:=⟨g0.gp,g0.gq,λx hx=>by
  obtain⟨s,h,rfl⟩:=cN.mp hx
  have o:=k.ok s h
  have o1:=o.len
  have o2:=o.pause
  unfold iI at o1 o2
  rw[hl]
  exact⟨k.nm s h,by show s.len.toNat<_;lia,by show s.pause.toNat<_;lia,o.nd,o.lt,by have:=pU o.nd o.lt;show s.who.length<=50;lia⟩,g0.gl,g0.gc,g0.np,g0.nq,by rw[bB];exact k.nd,g0.nl,g0.nc,g0.lp,g0.lq,by rw[aD];exact hs,g0.ll,g0.lc⟩
 have e3:((S.map qW).map ScB.p).map ent=S.map Scene.enc:=by
  rw[bB,bB]
  exact gH λs h=>NU (k.ok s h)
 have eB:bkT (Ps.map PtB.p) (Qs.map PlB.p) ((S.map qW).map ScB.p) L C=[.tup (P.map Part.enc),.tup (Q.map Player.enc),.tup (S.map Scene.enc),.tup (L.map lkD),.tup (C.map prD)]:=by
  unfold bkT
  rw[e1,e2,e3];rfl
 have w:=NI (n+4) g
 have b1:=g.lp
 have b2:=g.lq
 have b3:=g.ls
 have b4:=g.ll
 have b5:=g.lc
 generalize S.map qW=Ss at *
 have e4:=NJ n g (Ps.map Sum.inl++Qs.map Sum.inr) (Ss.map Sum.inl++L.map (λl=>Sum.inr (Sum.inl l))++C.map λc=>Sum.inr (Sum.inr c))
  ⟨by rw[mQ,qX aP Sum.inl (λ_=>rfl),lA aP Sum.inr (λ_=>rfl),fF],by rw[mQ,lA aQ Sum.inl (λ_=>rfl),qX aQ Sum.inr (λ_=>rfl),eF]⟩
  ⟨by rw[mQ,mQ,qX zS Sum.inl (λ_=>rfl),lA zS _ (λ_=>rfl),lA zS _ (λ_=>rfl),fF,fF],
   by rw[mQ,mQ,lA zL Sum.inl (λ_=>rfl),qX zL _ (λ_=>rfl),lA zL _ (λ_=>rfl),fF,eF],
   by rw[mQ,mQ,lA zC Sum.inl (λ_=>rfl),lA zC _ (λ_=>rfl),qX zC _ (λ_=>rfl),eF,eF]⟩
  (by simp;lia) (by simp;lia)
 have hr:(Ps.map Sum.inl++Qs.map Sum.inr).map rowA++(Ss.map Sum.inl++L.map (λl=>Sum.inr (Sum.inl l))++C.map λc=>Sum.inr (Sum.inr c)).map (rowZ (Ps.map PtB.p) (Qs.map PlB.p))=tL Ps Qs Ss L C:=by
  unfold tL
  rw[cS,cS,cS,bB,bB,bB,bB,bB]
  simp only[dG]
  rfl
 rw[hr,eB]at e4
 rw[eB]at w
 exact⟨_,w,e4⟩
noncomputable def partBk(f:Nat->Int)(k:Nat):PtB:=⟨cB (f 0) k,kX (aF (f 2) k) (f 0),(bV (aF (f 2) k/4)).toNat,(bV (aF (f 2) (k+20))).toNat⟩
noncomputable def NX(f:Nat->Int)(k:Nat):PlB:=⟨cB (f 4) k,jZ (aF (f 3) k),(bV (aF (f 3) k/6)).toNat⟩
theorem uN(x:Int):(((bV x).toNat:Nat):Int)=bV x:=rL (iJ x).1
theorem uO(x:Int):(bV x).toNat<10^9:=by have:=iJ x;lia
theorem GV(base:Int)(n:Nat)(h:n<=20):((aI n).map λk:Nat=>cB base k).Nodup:=by
 refine yB (λa ha b hb e=>?_) Ak
 have ha:a<n:=by simpa using ha
 have hb:b<n:=by simpa using hb
 have:=FN (c:=base) (k:=a) (k':=b) (by lia) (by lia) e
 lia
theorem A6 (x:Int):(aH (jZ x)).Nodup/\(aH (jZ x)).all (dN "abcdefghijklmnopqrstuvwxyz")=true/\(aH (jZ x)).length<=100:=by
 have one:∀s∈(["ab", "a", "bca", "", "abcdefghijklmnopqrstuvwxyz", "zb"]:List Str),(aH s).Nodup/\(aH s).all (dN "abcdefghijklmnopqrstuvwxyz")=true/\(aH s).length<=100:=by decide +kernel
 apply one
 unfold jZ
 repeat' split
 all_goals simp
theorem GW(cell share:Int)(one other:Nat):(fR cell share one other).Nodup:=by
 unfold fR
 refine(tK _ _).nodup_iff.mpr ?_
 unfold prs
 refine yB (λa _ b _ e=>?_) (rC.filter _ Ak)
 have e1:a/other=b/other:=congrArg Prod.fst e
 have e2:a%other=b%other:=congrArg Prod.snd e
 rw[<-PL a other,<-PL b other,e1,e2]
theorem GX(f:Nat->Int)(pb:Nat->PtB)(qb:Nat->PlB)(gp:∀k,GP (pb k))(gq:∀k,GQ (qb k))(np:∀k:Nat,(pb k).name=cB (f 0) k)(nq:∀k:Nat,(qb k).name=cB (f 4) k) :
 GB ((aI (bP (f 1))).map pb) ((aI (f 1/56%7).toNat).map qb) [] (kB f) (mF f):=by
 have hm:=AQ (f 1)
 have hq:(f 1/56%7).toNat<=6:=by lia
 have l1:=AU (cell:=f 6) (share:=3) (one:=(f 1/56%7).toNat) (other:=bP (f 1))
 have l2:(f 1/56%7).toNat*bP (f 1)<=6*8:=rK hq hm
 have l3:=AU (cell:=f 7) (share:=2) (one:=bP (f 1)) (other:=(f 1/56%7).toNat)
 have l4:bP (f 1)*(f 1/56%7).toNat<=8*6:=rK hm hq
 constructor
 ·intro x hx
  obtain⟨k,_,rfl⟩:=cN.mp hx
  exact gp k
 ·intro x hx
  obtain⟨k,_,rfl⟩:=cN.mp hx
  exact gq k
 ·intro x hx;cases hx
 ·intro l hl
  rw[aD,aD,eS,eS]
  unfold kB at hl
  obtain⟨p,hp,rfl⟩:=cN.mp hl
  have:=AS hp
  refine⟨this.1,this.2,?_⟩
  show(aF (f 6) ((p.2:Int)+9*(p.1:Int))%1000000000).toNat<10^9
  lia
 ·intro c hc
  rw[aD,aD,eS,eS]
  exact AS hc
 ·rw[bB,show((λx:PtB=>x.name)∘pb)=λk:Nat=>cB (f 0) k from funext np]
  exact GV (f 0) _ (by lia)
 ·rw[bB,show((λx:PlB=>x.name)∘qb)=λk:Nat=>cB (f 4) k from funext nq]
  exact GV (f 4) _ (by lia)
 ·exact kF
 ·unfold kB
  rw[bB]
  have:((λl:Nat×Nat×Nat=>(l.1,l.2.1))∘mD (f 6))=id:=by funext p;rfl
  rw[this,List.map_id]
  exact GW _ _ _ _
 ·exact GW _ _ _ _
 ·simp;lia
 ·simp;lia
 ·exact eT _
 ·unfold kB
  rw[aD];lia
 ·unfold mF
  lia
theorem GY(f:Nat->Int):Rdb ((aI (bP (f 1))).map (AV f)) ((aI (f 1/56%7).toNat).map (AW f)) (kB f) (mF f)/\Rdb (((aI (bP (f 1))).map (AV f)).map fT) (((aI (f 1/56%7).toNat).map (AW f)).map eP) (kB f) (mF f):=by
 have h1:dN "abcdefghijklmnopqrstuvwxyz" 97=true:=by decide +kernel
 have h2:(aH ("ba" : Str)).Nodup/\(aH ("ba" : Str)).all (dN "abcdefghijklmnopqrstuvwxyz")=true/\(aH ("ba" : Str)).length<=100:=by decide +kernel
 have h3:0<10^9:=by decide
 refine⟨⟨_,_,GX f (partBk f) (NX f) (λk=>⟨qQ _ _,FK (MK _ _),uO _,uO _⟩) (λk=>⟨qQ _ _,(A6 _).1,(A6 _).2.1,(A6 _).2.2,uO _⟩) (λ_=>rfl) λ_=>rfl,?_,?_⟩,
  ⟨_,_,GX f (λk=>⟨cB (f 0) k,97,0,0⟩) (λk=>⟨cB (f 4) k, "ba", (bV (aF (f 3) k/6)).toNat⟩) (λk=>⟨qQ _ _,h1,h3,h3⟩) (λk=>⟨qQ _ _,h2.1,h2.2.1,h2.2.2,uO _⟩) (λ_=>rfl) λ_=>rfl,?_,?_⟩⟩
 ·rw[bB,bB,bB]
  refine gH λk _=>?_
  show D.tup [.str _,.str _,.int ((bV (aF (f 2) k/4)).toNat:Int),.int ((bV (aF (f 2) (k+20))).toNat:Int)]=_
  rw[uN,uN];rfl
 ·rw[bB,bB,bB]
  refine gH λk _=>?_
  show D.tup [.str _,.str _,.int ((bV (aF (f 3) k/6)).toNat:Int)]=_
  rw[uN];rfl
 ·rw[bB,bB,bB,bB]
  refine gH λk _=>?_
  show D.tup [.str _,.str (cH 97),.int 0,.int 0]=_
  rw[show cH 97 = "a" by decide +kernel];rfl
 ·rw[bB,bB,bB,bB]
  refine gH λk _=>?_
  show D.tup [.str _,.str "ba", .int ((bV (aF (f 3) k/6)).toNat:Int)]=_
  rw[uN];rfl
theorem NY(n:Nat)(ns:List Int)(at_:Nat)(hn:ns.length<=63)(ha:at_<=20):∃(P:List Part)(Q:List Player)(S:List Scene)(L:List (Nat×Nat×Nat))(C:List (Nat×Nat)),Drawn P Q S/\Nice P.length S/\Rdb P Q L C/\Rdb (P.map fT) (Q.map eP) L C /\
 aA T dfs (n+3) 54 [.lst (ns.map D.int),.int at_]=.ok (.tup [.tup (P.map Part.enc),.tup (Q.map Player.enc),.tup (S.map Scene.enc),.tup (L.map lkD),.tup (C.map prD)]):=by
 have e:=MQ n ns at_ hn ha
 generalize hf:fV ns at_=f at e
 generalize hC:(ns.drop (at_+8)).take 9=cs at e
 have hcl:cs.length<=9:=by rw[<-hC,dF];lia
 have hm:=AQ (f 1)
 have ok:=Fh (f 5) (bP (f 1)) cs 0
 refine⟨(aI (bP (f 1))).map (AV f),(aI (f 1/56%7).toNat).map (AW f),fS (f 5) (bP (f 1)) 0 cs,kB f,mF f,⟨by simpa using hm,by simp;lia,by rw[Fb];exact hcl,?_,?_,?_⟩,⟨?_,λs h=>(ok s h).2.2,(Fj _ _ cs 0 (by lia)).1⟩,(GY f).1,(GY f).2,?_⟩
 ·intro p hp
  obtain⟨k,_,rfl⟩:=cN.mp hp
  rfl
 ·intro s hs
  rw[aD,eS]
  exact Ff _ _ _ _ s hs
 ·intro p hp
  obtain⟨k,_,rfl⟩:=cN.mp hp
  exact⟨(iJ _).1,(iJ _).1⟩
 ·intro s hs
  rw[aD,eS]
  exact(ok s hs).1
 ·rw[e]
  unfold AR oJ kA uG
  rw[F_,bB,bB,bB,bB]
  rfl
noncomputable def bk5(P:List Part)(Q:List Player)(S:List Scene)(L:List (Nat×Nat×Nat))(C:List (Nat×Nat)):D:=.tup [.tup (P.map Part.enc),.tup (Q.map Player.enc),.tup (S.map Scene.enc),.tup (L.map lkD),.tup (C.map prD)]
noncomputable def eE(w:List Chg):D:=.lst (w.map Chg.enc)
theorem GZ{S:List Scene}:D.pl 30 (bk5 P Q S L C)=true:=by
 unfold bk5
 rw[nR]
 simp only[D.pls,nR,eC Part.enc 28 (L1 27),eC Player.enc 28 (xZ 27),eC Scene.enc 28 (Dl 26),eC lkD 28 (λ_=>rfl),eC prD 28 (λ_=>rfl),Bool.and_self]
section
variable{P:List Part}{Q:List Player}{L:List (Nat×Nat×Nat)}{C:List (Nat×Nat)}{x0 x1 x2 x4 x5 x6 x7 x8 x9 x10:Sl}
theorem G0(n:Nat)(hp:P.length<=8)(R:List Scene)(hR:R.length<=50)(x11:Sl):∀(cs:List Chg)(S:List Scene)(x12:Sl),qC P.length R S cs ->
 ∃y12,bH (bJ T (aA T dfs (n+7)) (.one 12) FF) (cs.map Chg.enc) [x0,x1,x2,.v (bk5 P Q S L C),x4,x5,x6,x7,x8,x9,x10,x11,x12]=.ok (.nx [x0,x1,x2,.v (bk5 P Q R L C),x4,x5,x6,x7,x8,x9,x10,x11,y12])
 |[],S,x12,h=>⟨x12,by rw[show S=R from h];rfl⟩
 |c::r,S,x12,h=>by
  obtain⟨hf,hl,ok,h2⟩:=h
  have e1:aA T dfs (n+7) 41 [bk5 P Q S L C,c.enc]=.ok (bk5 P Q (c.on S) L C):=Fv n P _ _ _ S c hp hf (by lia) (Fl hp ok)
  obtain⟨y12,e3⟩:=G0 n hp R hR x11 r (c.on S) (.v c.enc) h2
  refine⟨y12,?_⟩
  rw[aG,<-e3]
  refine dY ?_
  generalize c.enc=z at *
  generalize bk5 P Q S L C=B at *
  generalize bk5 P Q (c.on S) L C=B2 at *
  lk
noncomputable def uP(many:Nat)(R:List Scene):List Scene->List (List Chg)->Prop
 |S,[]=>S=R
 |S,w::r=>∃U:List Scene,U.length<=50/\qC many U S w/\uP many R U r
theorem G1(n:Nat)(hp:P.length<=8)(R:List Scene):∀(ws:List (List Chg))(S:List Scene)(x11 x12:Sl),uP P.length R S ws ->
 ∃y11 y12,bH (bJ T (aA T dfs (n+7)) (.one 11) FG) (ws.map eE) [x0,x1,x2,.v (bk5 P Q S L C),x4,x5,x6,x7,x8,x9,x10,x11,x12]=.ok (.nx [x0,x1,x2,.v (bk5 P Q R L C),x4,x5,x6,x7,x8,x9,x10,y11,y12])
 |[],S,x11,x12,h=>⟨x11,x12,by rw[show S=R from h];rfl⟩
 |w::r,S,x11,x12,h=>by
  obtain⟨U,hU,h1,h2⟩:=h
  obtain⟨z12,e1⟩:=G0 (x0:=x0) (x1:=x1) (x2:=x2) (x4:=x4) (x5:=x5) (x6:=x6) (x7:=x7) (x8:=x8) (x9:=x9) (x10:=x10) (Q:=Q) (L:=L) (C:=C) n hp U hU (.v (eE w)) w S x12 h1
  obtain⟨y11,y12,e2⟩:=G1 n hp R r U (.v (eE w)) z12 h2
  refine⟨y11,y12,?_⟩
  rw[aG,<-e2]
  refine dY ?_
  have it:(eE w).items=.ok (w.map Chg.enc):=rfl
  generalize bk5 P Q S L C=B at *
  generalize bk5 P Q U L C=B2 at *
  generalize w.map Chg.enc=cd at *
  generalize eE w=wd at *
  lk
theorem G2{S:List Scene}(hp:P.length<=8):(aO P S).Nodup:=((GI _ hp).filter _).imp λ{a b} h e=>by subst e;exact Int.lt_irrefl _ h
theorem G3(n:Nat)(rd:Rdb P Q L C)(hp:P.length<=8)(S0:List Scene)(x10 x11 x12:Sl):∀(cells:List Int)(S:List Scene)(W:List (List Chg))(x y:List (Nat×Nat))(x7 x8 x9:Sl),Nice P.length S->S.length+cells.length<=20->W.length+cells.length<=20->uP P.length S0 S W.reverse->LaidI (aO P S0) (aO P S) x y ->
 ∃(S':List Scene)(W':List (List Chg))(x' y':List (Nat×Nat))(y7 y8 y9:Sl),S'.length<=20/\uP P.length S0 S' W'.reverse/\LaidI (aO P S0) (aO P S') x' y' /\
  bH (bJ T (aA T dfs (n+7)) (.one 7) FE) (cells.map D.int) [x0,x1,x2,.v (bk5 P Q S L C),.o (.lst (W.map eE)),.o (.lst (x.map aB)),.o (.lst (y.map aB)),x7,x8,x9,x10,x11,x12] =
   .ok (.nx [x0,x1,x2,.v (bk5 P Q S' L C),.o (.lst (W'.map eE)),.o (.lst (x'.map aB)),.o (.lst (y'.map aB)),y7,y8,y9,x10,x11,x12])
 |[],S,W,x,y,x7,x8,x9,_,hs,_,hb,hl=>⟨S,W,x,y,x7,x8,x9,hs,hb,hl,rfl⟩
 |cell::r,S,W,x,y,x7,x8,x9,g,hs,hw,hb,hl=>by
  have tb:=bI
  rw[aW]at hs hw
  obtain⟨c,hf,e1⟩:=Md (n+4) P (.tup (Q.map Player.enc)) (.tup (L.map lkD)) (.tup (C.map prD)) S cell hp (by lia) g.ok
  have e1:aA T dfs (n+7) 58 [bk5 P Q S L C,.int cell]=.ok c.enc:=e1
  have e2:aA T dfs (n+7) 42 [bk5 P Q S L C,c.enc]=.ok (eE (gG S c)):=Me n P _ _ _ S c hp hf
  have e3:aA T dfs (n+7) 41 [bk5 P Q S L C,c.enc]=.ok (bk5 P Q (c.on S) L C):=Fv n P _ _ _ S c hp hf (by lia) (Fl hp g.ok)
  have g2:=NT g hf
  have l2:=EY hf
  have e4:aA T dfs (n+7) 43 [bk5 P Q S L C,bk5 P Q (c.on S) L C]=.ok (.tup [.lst ((cF (aO P (c.on S)) (aO P S)).map aB),.lst ((cF (aO P S) (aO P (c.on S))).map aB)]):=GN (n+1) P _ _ _ _ _ _ S (c.on S) hp (by lia) (by lia)
  obtain⟨x',y',hl2,e5⟩:=NO (n+6) hl (lW hp) (lW hp) (lW (S:=c.on S) hp) (G2 hp) (G2 hp)
  obtain⟨d,e6,e7⟩:=NW (n+1) rd g2 hp (by lia)
  have e6:aA T dfs (n+7) 20 [bk5 P Q (c.on S) L C]=.ok d:=e6
  have e7:aA T dfs (n+7) 14 [d]=.ok (bk5 P Q (c.on S) L C):=e7
  have q:=Dm (GZ (P:=P) (Q:=Q) (S:=c.on S) (L:=L) (C:=C))
  have wl:(W.map eE).length<big:=by rw[aD];lia
  obtain⟨S',W',x2',y2',y7,y8,y9,h1,h2,h3,e8⟩:=G3 n rd hp S0 x10 x11 x12 r (c.on S) (W++[gG S c]) x' y' (.v (.int cell)) (.v c.enc) (.v (bk5 P Q (c.on S) L C)) g2 (by lia) (by rw[cP,iQ];lia) (by rw[List.reverse_append];exact⟨S,by lia,ME g hf,hb⟩) hl2
  refine⟨S',W',x2',y2',y7,y8,y9,h1,h2,h3,?_⟩
  rw[cS,show [gG S c].map eE=[eE (gG S c)]from rfl]at e8
  rw[aG,<-e8]
  refine dY ?_
  generalize c.enc=z at *
  generalize bk5 P Q S L C=B at *
  generalize bk5 P Q (c.on S) L C=B2 at *
  generalize D.tup [.lst ((cF (aO P (c.on S)) (aO P S)).map aB),.lst ((cF (aO P S) (aO P (c.on S))).map aB)]=sh at *
  generalize eE (gG S c)=bw at *
  generalize W.map eE=wd at *
  generalize x.map aB=xd at *
  generalize y.map aB=yd at *
  generalize x'.map aB=xd' at *
  generalize y'.map aB=yd' at *
  lk
end
theorem NZ{α:Type}(xs:List α)(a b:Nat):cut xs (some (a:Int)) (some (b:Int))=(xs.drop a).take (b-a):=by
 unfold cut sIx
 dsimp only
 rw[if_neg (by lia),if_neg (by lia),kE,kE]
 by_cases h2:a<=xs.length
 ·rw[lE h2]
  by_cases h:b<=xs.length
  ·rw[lE h]
  ·rw[Aj (by lia),kD (by rw[iP];lia),kD (by rw[iP];lia)]
 ·rw[Aj (by lia:xs.length<=a),uU (by lia),uU (by lia),List.take_nil,List.take_nil]
theorem N0{cs:List (Option Nat)}(h:gY P Q X cs=[]):(gY P Q Y cs).isEmpty=!mJ (cF Y X) cs:=by
 unfold gY at h⊢
 rw[List.append_eq_nil_iff,PM,PN]at h
 rw[h.1,eF]
 unfold mJ
 rw[PB,Gi,PM,PN,cL,Gr]
 constructor
 ·exact λk p hp=>k p (less_mem.mp hp).1
 ·intro k p hp
  by_cases c:p∈X
  ·exact h.2 p c
  ·exact k p (less_mem.mpr ⟨hp,c⟩)
structure Bk(P:List Part)(Q:List Player)(S:List Scene)(L:List (Nat×Nat×Nat))(C:List (Nat×Nat))(cs:List (Option Nat)):Prop where
 hp:P.length<=8
 voice:∀p∈P,(aH p.voice).length=1
 nice:Nice P.length S
 rd:Rdb P Q L C
 cl:cs.length=P.length
 cq:∀j,some j∈cs->j<Q.length
theorem G4{S:List Scene}(g:Nice m S)(k:Nat):Nice m (S.take k):=
 ⟨λs h=>g.ok s (oT h),λs h=>g.nm s (oT h),g.nd.sublist ((O7 k S).map _)⟩
theorem N1{S:List Scene}(g:Nice m S)(cs:List Nat):Nice m (S.map (iL cs)):=by
 refine⟨λs h=>?_,λs h=>?_,by rw[bB];exact g.nd⟩
 ·obtain⟨t,ht,rfl⟩:=cN.mp h
  have o:=g.ok t ht
  obtain⟨h1,h2⟩:=A4 cs t.who [] kF
  exact⟨o.len,o.pause,GO _ h1,λi hi=>o.lt i ((h2 i hi).resolve_left λz=>by cases z)⟩
 ·obtain⟨t,ht,rfl⟩:=cN.mp h
  exact g.nm t ht
theorem N2{S:List Scene}(dr:Drawn P Q S)(g:Nice P.length S)(rd:Rdb (P.map fT) (Q.map eP) L C)(hq:0<Q.length)(cell:Int) :
 Bk (P.map fT) (Q.map eP) ((S.take 5).map (iL (fU cell Q.length P.length))) L C ((fU cell Q.length P.length).map some):=by
 refine⟨by rw[aD];exact dr.hp,λp hp=>?_,by rw[aD];exact N1 (G4 g 5) _,rd,?_,λj hj=>?_⟩
 ·obtain⟨p,_,rfl⟩:=cN.mp hp
  show(aH ("a" : Str)).length=1
  decide +kernel
 ·rw[aD,aD];unfold fU;rw[aD,eS]
 ·obtain⟨k,hk,e⟩:=cN.mp hj
  cases e
  rw[aD]
  exact NS hq hk
noncomputable def hd3:S->S
 |.cons _ (.cons _ (.cons s _))=>s
 |s=>s
theorem N3(ns:List Int)(P:List Part)(Q:List Player)(S:List Scene)(L:List (Nat×Nat×Nat))(C:List (Nat×Nat))(dr:Drawn P Q S)(g:Nice P.length S)(rd:Rdb P Q L C)(rd2:Rdb (P.map fT) (Q.map eP) L C)(cs0:List (Option Nat))(h1:cs0.length=P.length)(h2:∀j,some j∈cs0->j<Q.length) :
 ∃(P':List Part)(Q':List Player)(S':List Scene)(cs:List (Option Nat)),Bk P' Q' S' L C cs/\exS T (aA T dfs 29) (hd3 uA) [.v (.lst (ns.map D.int)),.v (bk5 P Q S L C),.v (.lst (cs0.map aT)),.no,.no,.no,.no,.no,.no,.no,.no,.no,.no]=.ok (.nx [.v (.lst (ns.map D.int)),.v (bk5 P' Q' S' L C),.v (.lst (cs.map aT)),.no,.no,.no,.no,.no,.no,.no,.no,.no,.no]):=by
 have q0:aA T dfs 29 46 [.lst (ns.map D.int),.int 0]=.ok (.int (bZ ns 0)):=uB 28 ns 0
 have i1:D.ix (bk5 P Q S L C) (.int 1)=.ok (.tup (Q.map Player.enc)):=rfl
 have n1:D.cmp .NotEq (.tup (Q.map Player.enc)) (.tup [])=.ok (.bl (!Q.isEmpty)):=by
  show aC (D.eqOk (.tup _) (.tup [])) _=_
  rw[bW (by unfold D.eqOk;rw[nR,eC Player.enc 29 (xZ 28)];rfl)]
  cases Q<;>rfl
 have same:Bk P Q S L C cs0:=⟨dr.hp,dr.voice,g,rd,h1,h2⟩
 cases hq:Q.isEmpty with
 |true=>
  rw[hq]at n1
  refine⟨P,Q,S,cs0,same,?_⟩
  show exS _ _ (.ite _ _ _) _=_
  generalize bk5 P Q S L C=B at *
  generalize Q.map Player.enc=qd at *
  generalize ns.map D.int=nd at *
  generalize cs0.map aT=cd at *
  lk
 |false=>
  rw[hq]at n1
  have hq:0<Q.length:=by
   rcases Q with _|⟨a,r⟩
   ·cases hq
   ·rw[aW];lia
  have e:=staged 27 P Q S (.tup (L.map lkD)) (.tup (C.map prD)) dr hq (bZ ns 0/2)
  have b:=N2 dr g rd2 hq (bZ ns 0/2)
  have e:aA T dfs 29 56 [bk5 P Q S L C,.int (bZ ns 0/2)]=.ok (.tup [bk5 (P.map fT) (Q.map eP) ((S.take 5).map (iL (fU (bZ ns 0/2) Q.length P.length))) L C,.lst (((fU (bZ ns 0/2) Q.length P.length).map some).map aT)]):=by
   rw[bB];exact e
  by_cases c:bZ ns 0%2=0
  ·have c:(bZ ns 0%2==0)=true:=beq_iff_eq.mpr c
   refine⟨_,_,_,_,b,?_⟩
   show exS _ _ (.ite _ _ _) _=_
   generalize bk5 P Q S L C=B at *
   generalize bk5 (P.map fT) (Q.map eP) ((S.take 5).map (iL (fU (bZ ns 0/2) Q.length P.length))) L C=B2 at *
   generalize ((fU (bZ ns 0/2) Q.length P.length).map some).map aT=cd2 at *
   generalize Q.map Player.enc=qd at *
   generalize ns.map D.int=nd at *
   generalize cs0.map aT=cd at *
   generalize bZ ns 0=c0 at *
   lk
  ·have c:(bZ ns 0%2==0)=false:=beq_eq_false_iff_ne.mpr c
   refine⟨P,Q,S,cs0,same,?_⟩
   show exS _ _ (.ite _ _ _) _=_
   generalize bk5 P Q S L C=B at *
   generalize Q.map Player.enc=qd at *
   generalize ns.map D.int=nd at *
   generalize cs0.map aT=cd at *
   generalize bZ ns 0=c0 at *
   lk
theorem N4:∀n,n<=8->(pairsOf n).length<64:=by
 have:∀n,n<9->(pairsOf n).length<64:=by decide +kernel
 exact λn h=>this n (by lia)
theorem G5{S U:List Scene}(hp:P.length<=8)(hx:x.Nodup)(hm:∀p,p∈x↔p∈aO P U/\p∉aO P S):oW (.lst (x.map aB))=.ok (.lst ((cF (aO P U) (aO P S)).map aB)):=by
 refine NL hx (NM hp) (λp=>(hm p).trans less_mem.symm) ?_ λp h=>?_
 ·exact O_ (oO hx λp h=>(dW.mp ((hm p).mp h).1).1) (N4 _ hp)
 ·have:=(yE ((hm p).mp h).1).2;lia
theorem N5(ns:List Int)(hn:ns.length<=63):aA T dfs 30 59 [.lst (ns.map D.int)]=.ok (.bl true):=by
 have tb:=bI
 obtain⟨P0,Q0,S0,L,C,dr,g0,r0,r1,e0⟩:=NY 26 ns 2 hn (by lia)
 have e0:aA T dfs 29 54 [.lst (ns.map D.int),.int 2]=.ok (bk5 P0 Q0 S0 L C):=e0
 have q0:aA T dfs 29 46 [.lst (ns.map D.int),.int 0]=.ok (.int (bZ ns 0)):=uB 28 ns 0
 have q1:aA T dfs 29 46 [.lst (ns.map D.int),.int 1]=.ok (.int (bZ ns 1)):=uB 28 ns 1
 obtain⟨cs0,c1,c2,e1⟩:=MT 27 P0 Q0 (.tup (S0.map Scene.enc)) (.tup (L.map lkD)) (.tup (C.map prD)) (bZ ns 0/2) dr.hp dr.hq dr.voice
 have e1:aA T dfs 29 55 [bk5 P0 Q0 S0 L C,.int (bZ ns 0/2)]=.ok (.lst (cs0.map aT)):=e1
 obtain⟨P,Q,S,cs,b,e2⟩:=N3 ns P0 Q0 S0 L C dr g0 r0 r1 cs0 c1 c2
 have hp:=b.hp
 have ct:cut (ns.map D.int) (some 19) (some 24)=((ns.drop 19).take 5).map D.int:=by
  rw[MD]
  exact congrArg _ (NZ ns 19 24)
 have ct:D.sl (.lst (ns.map D.int)) (some 19) (some 24)=.ok (.lst (((ns.drop 19).take 5).map D.int)):=by rw[<-ct];rfl
 have hcl:((ns.drop 19).take 5).length<=5:=by rw[dF];lia
 have a0:=pT (a:=[D.int (bZ ns 1)]) (b:=((ns.drop 19).take 5).map D.int) (by rw[aD,iQ];lia)
 generalize (ns.drop 19).take 5=CL at *
 have s5:D.sl (.tup (S.map Scene.enc)) none (some 5)=.ok (.tup ((S.take 5).map Scene.enc)):=by
  show Res.ok (D.tup (cut (S.map Scene.enc) none (some ((5:Nat):Int))))=_
  rw[GT,mO]
 have l5:(S.take 5).length<=5:=by rw[dF];lia
 obtain⟨S1,W,x,y,y7,y8,y9,h1,h2,h3,e3⟩:=G3 (x0:=.v (.lst (ns.map D.int))) (x1:=.v (bk5 P Q (S.take 5) L C)) (x2:=.v (.lst (cs.map aT))) 22 b.rd hp (S.take 5) .no .no .no (bZ ns 1::CL) (S.take 5) [] [] [] .no .no .no (G4 b.nice 5) (by rw[aW];lia) (by rw[aW,Gw];lia) rfl ⟨kF,kF,λp=>⟨λz=>(by cases z),λz=>absurd z.1 z.2⟩,λp=>⟨λz=>(by cases z),λz=>absurd z.1 z.2⟩⟩
 rw[aG,dQ,dQ]at e3
 have e4:aA T dfs 29 43 [bk5 P Q (S.take 5) L C,bk5 P Q S1 L C]=.ok (.tup [.lst ((cF (aO P S1) (aO P (S.take 5))).map aB),.lst ((cF (aO P (S.take 5)) (aO P S1)).map aB)]):=GN 23 P _ _ _ _ _ _ (S.take 5) S1 hp (by lia) (by lia)
 have s1:=G5 hp h3.nx h3.mx
 have s2:=G5 hp h3.ny h3.my
 have n1:D.cmp .NotEq (.tup [.lst ((cF (aO P S1) (aO P (S.take 5))).map aB),.lst ((cF (aO P (S.take 5)) (aO P S1)).map aB)]) (.tup [.lst ((cF (aO P S1) (aO P (S.take 5))).map aB),.lst ((cF (aO P (S.take 5)) (aO P S1)).map aB)])=.ok (.bl false):=by
  refine Dm ?_
  rw[nR]
  simp only[D.pls,xK,eC aB 28 (jV 27),Bool.and_self]
 have fl:∀(U:List Scene),U.length<=24->aA T dfs 29 29 [bk5 P Q U L C,.lst (cs.map aT)]=.ok (.lst ((gY P Q (aO P U) cs).map Flt.enc))/\D.cmp .Eq (.lst ((gY P Q (aO P U) cs).map Flt.enc)) (.lst [])=.ok (.bl (gY P Q (aO P U) cs).isEmpty):=λU hU=>by
  refine⟨Mg 23 P Q U _ _ hp hU b.voice cs b.cl b.cq (aO P U) (λp h=>yE h) (by have:=lW (S:=U) hp;lia) (AX 23 _ _ _ P U hU hp),?_⟩
  rw[EI (eC Flt.enc 29 (flt_pl 28) _),List.isEmpty_map]
 obtain⟨f1,k1⟩:=fl (S.take 5) (by lia)
 obtain⟨f2,k2⟩:=fl S1 (by lia)
 have hl2:=lF (λp=>!decide (p∈aO P (S.take 5))) (aO P S1)
 have hl3:=lW (S:=S1) hp
 obtain⟨hd,u1,u2⟩:=NQ 26 (cF (aO P S1) (aO P (S.take 5))) (.lst ((cF (aO P (S.take 5)) (aO P S1)).map aB)) cs (λp h=>by rw[b.cl];exact yE (less_mem.mp h).1) (by unfold cF;lia)
 have ph:=N0 (P:=P) (Q:=Q) (X:=aO P (S.take 5)) (Y:=aO P S1) (cs:=cs)
 have dk:rU (.lst (W.map eE))=.ok (W.reverse.map eE):=by rw[List.map_reverse];rfl
 have e5:=λa0 a1 a2 a4 a5 a6 a7 a8 a9 a10=>G1 (x0:=a0) (x1:=a1) (x2:=a2) (x4:=a4) (x5:=a5) (x6:=a6) (x7:=a7) (x8:=a8) (x9:=a9) (x10:=a10) (Q:=Q) (L:=L) (C:=C) 22 hp (S.take 5) W.reverse S1 .no .no h2
 have n2:=L3 (GZ (P:=P) (Q:=Q) (S:=S.take 5) (L:=L) (C:=C))
 refine aJ (k:=false) rfl rfl rfl ?_
 show exS T (aA T dfs 29) uA [.v (.lst (ns.map D.int)),.no,.no,.no,.no,.no,.no,.no,.no,.no,.no,.no,.no]=_
 refine dZ (o1:=.nx [.v (.lst (ns.map D.int)),.v (bk5 P0 Q0 S0 L C),.no,.no,.no,.no,.no,.no,.no,.no,.no,.no,.no]) ?_ (eA (dZ (o1:=.nx [.v (.lst (ns.map D.int)),.v (bk5 P0 Q0 S0 L C),.v (.lst (cs0.map aT)),.no,.no,.no,.no,.no,.no,.no,.no,.no,.no]) ?_ (eA (dZ e2 (eA (dZ (o1:=.nx [.v (.lst (ns.map D.int)),.v (bk5 P Q (S.take 5) L C),.v (.lst (cs.map aT)),.no,.no,.no,.no,.no,.no,.no,.no,.no,.no]) ?_ (eA ?_)))))))
 ·generalize bk5 P0 Q0 S0 L C=B at *
  generalize ns.map D.int=nd at *
  lk
 ·generalize bk5 P0 Q0 S0 L C=B at *
  generalize ns.map D.int=nd at *
  generalize cs0.map aT=cd at *
  generalize bZ ns 0=c0 at *
  lk
 ·unfold bk5
  have t1:=λ(a b c d f:D)=>(rfl:D.sl (.tup [a,b,c,d,f]) none (some 2)=.ok (.tup [a,b]))
  have t2:=λ(a b c d f:D)=>(rfl:D.sl (.tup [a,b,c,d,f]) (some 3) none=.ok (.tup [d,f]))
  have t3:=λ(a b c d f:D)=>(rfl:D.ix (.tup [a,b,c,d,f]) (.int 2)=.ok c)
  have t4:=λ(a b c:D)=>eO (a:=[a,b]) (b:=[c]) (by show 3<=big;lia)
  have t5:=λ(a b c d f:D)=>eO (a:=[a,b,c]) (b:=[d,f]) (by show 5<=big;lia)
  generalize P.map Part.enc=pd at *
  generalize Q.map Player.enc=qd at *
  generalize (S.take 5).map Scene.enc=sd at *
  generalize S.map Scene.enc=sd0 at *
  generalize L.map lkD=ld at *
  generalize C.map prD=cd at *
  generalize ns.map D.int=nd at *
  generalize cs.map aT=cd2 at *
  have t1:=t1 (.tup pd) (.tup qd) (.tup sd0) (.tup ld) (.tup cd)
  have t2:=t2 (.tup pd) (.tup qd) (.tup sd0) (.tup ld) (.tup cd)
  have t3:=t3 (.tup pd) (.tup qd) (.tup sd0) (.tup ld) (.tup cd)
  have t4:D.bin .Add (.tup [.tup pd,.tup qd]) (.tup [.tup sd])=.ok (.tup [.tup pd,.tup qd,.tup sd]):=t4 _ _ _
  have t5:D.bin .Add (.tup [.tup pd,.tup qd,.tup sd]) (.tup [.tup ld,.tup cd])=.ok (.tup [.tup pd,.tup qd,.tup sd,.tup ld,.tup cd]):=t5 _ _ _ _ _
  lk
 ·obtain⟨y11,y12,e5⟩:=e5 (.v (.lst (ns.map D.int))) (.v (bk5 P Q (S.take 5) L C)) (.v (.lst (cs.map aT))) (.v (.lst (W.map eE))) (.o (.lst (x.map aB))) (.o (.lst (y.map aB))) y7 y8 y9 (.v (.tup [.lst ((cF (aO P S1) (aO P (S.take 5))).map aB),.lst ((cF (aO P (S.take 5)) (aO P S1)).map aB)]))
  generalize (gY P Q (aO P S1) cs).map Flt.enc=fd1 at *
  generalize (gY P Q (aO P (S.take 5)) cs).map Flt.enc=fd0 at *
  generalize bk5 P Q (S.take 5) L C=B at *
  generalize bk5 P Q S1 L C=B1 at *
  generalize mJ (cF (aO P S1) (aO P (S.take 5))) cs=hu at *
  generalize (cF (aO P S1) (aO P (S.take 5))).map aB=z1 at *
  generalize (cF (aO P (S.take 5)) (aO P S1)).map aB=z2 at *
  generalize W.reverse.map eE=wr at *
  generalize W.map eE=wd at *
  generalize x.map aB=xd at *
  generalize y.map aB=yd at *
  generalize ns.map D.int=nd at *
  generalize CL.map D.int=cl at *
  generalize bZ ns 1=c1 at *
  generalize cs.map aT=cd at *
  rw[Gh,eF]at a0
  cases hb:(gY P Q (aO P (S.take 5)) cs).isEmpty with
  |false=>
   rw[hb]at k1
   lk
  |true=>
   rw[hb]at k1
   rw[ph (Gi.mp hb)]at k2
   have nb:D.cmp .NotEq (.bl (!hu)) (.bl (!hu))=.ok (.bl false):=by cases hu<;>rfl
   generalize (!hu)=bb at *
   lk
end
end K75
namespace K75
open PySem L2 Tr
noncomputable def top(i:Nat):Stmt:=PySem.Challenge.pw_troupe_k75_whole_changes.main.body.getD i (.Pass ⟨0,0,0,0⟩)
noncomputable abbrev N6:DefT:=⟨"consists_of", top 12,["signs", "word"],["signs", "word"],yL,none⟩
noncomputable abbrev N7:DefT:=⟨"are_unlike", top 13,["things"],["things"],qE,none⟩
noncomputable abbrev N8:DefT:=⟨"is_name", top 14,["word"],["word"],yM,none⟩
noncomputable abbrev N_:DefT:=⟨"is_amount", top 15,["word"],["word"],yN,none⟩
noncomputable abbrev Na:DefT:=⟨"is_voice", top 16,["word"],["word"],yO,none⟩
noncomputable abbrev Nb:DefT:=⟨"are_voices", top 17,["word"],["word"],tO,none⟩
noncomputable abbrev Nd:DefT:=⟨"number_named", top 18,["entries", "name", "number", "entry"],["entries", "name"],qF,none⟩
noncomputable abbrev Nf:DefT:=⟨"is_new_name", top 19,["entries", "word"],["entries", "word"],tP,none⟩
noncomputable abbrev G6:DefT:=⟨"part_read", top 20,["book", "words"],["book", "words"],yP,none⟩
noncomputable abbrev G7:DefT:=⟨"player_read", top 21,["book", "words"],["book", "words"],tQ,none⟩
noncomputable abbrev G8:DefT:=⟨"scene_read", top 22,["book", "words", "numbers"],["book", "words"],yR,none⟩
noncomputable abbrev G9:DefT:=⟨"like_read", top 23,["book", "words", "player", "part"],["book", "words"],yT,none⟩
noncomputable abbrev G_:DefT:=⟨"cover_read", top 24,["book", "words", "part", "player"],["book", "words"],yU,none⟩
noncomputable abbrev Ng:DefT:=⟨"with_row", top 27,["book", "row", "words", "place", "entry"],["book", "row"],lX,none⟩
noncomputable abbrev Nh:DefT:=⟨"read_book", top 28,["rows", "book", "at", "row"],["rows"],yV,none⟩
noncomputable abbrev Ni:DefT:=⟨"part_written", top 29,["part"],["part"],yW,none⟩
noncomputable abbrev Nj:DefT:=⟨"player_written", top 30,["player"],["player"],tV,none⟩
noncomputable abbrev Nk:DefT:=⟨"scene_written", top 31,["book", "scene", "names"],["book", "scene"],yY,none⟩
noncomputable abbrev Nl:DefT:=⟨"like_written", top 32,["book", "like"],["book", "like"],yZ,none⟩
noncomputable abbrev Nm:DefT:=⟨"cover_written", top 33,["book", "cover"],["book", "cover"],zA,none⟩
noncomputable abbrev Nn:DefT:=⟨"written_book", top 34,["book", "rows"],["book"],zH,none⟩
noncomputable abbrev Np:DefT:=⟨"time_between", top 36,["book", "s", "t", "scenes"],["book", "s", "t"],E6,none⟩
noncomputable abbrev Nq:DefT:=⟨"change_time", top 37,["book", "one", "other"],["book", "one", "other"],E7,none⟩
noncomputable abbrev Nr:DefT:=⟨"short_change_from", top 38,["book", "s", "one", "other", "need", "t", "have"],["book", "s", "one", "other"],E9,none⟩
noncomputable abbrev Nt:DefT:=⟨"reason_from", top 39,["book", "s", "i", "j", "numbers"],["book", "s", "i", "j"],E_,none⟩
noncomputable abbrev Nu:DefT:=⟨"reason_of", top 40,["book", "i", "j", "s", "reason"],["book", "i", "j"],Eb,none⟩
noncomputable abbrev Nw:DefT:=⟨"clashes_of", top 41,["book", "pairs", "many", "i"],["book"],Ef,none⟩
noncomputable abbrev Nx:DefT:=⟨"fault_of_part", top 43,["book", "i", "player"],["book", "i", "player"],Eg,none⟩
noncomputable abbrev Ny:DefT:=⟨"have_one_player", top 44,["casting", "i", "j"],["casting", "i", "j"],Eh,none⟩
noncomputable abbrev Nz:DefT:=⟨"faults_of", top 45,["book", "casting", "faults"],["book", "casting"],En,none⟩
noncomputable abbrev OA:DefT:=⟨"are_minutes", top 48,["number"],["number"],zI,none⟩
noncomputable abbrev OB:DefT:=⟨"is_part", top 49,["book", "number"],["book", "number"],zJ,none⟩
noncomputable abbrev OC:DefT:=⟨"is_scene", top 50,["book", "number"],["book", "number"],zK,none⟩
noncomputable abbrev OD:DefT:=⟨"may_be_added", top 51,["book", "scene", "name", "length", "pause", "numbers"],["book", "scene"],zN,none⟩
noncomputable abbrev OE:DefT:=⟨"fits_scene", top 52,["book", "kind", "scene", "number"],["book", "kind", "scene", "number"],Eo,none⟩
noncomputable abbrev d_fits:DefT:=⟨"fits", top 53,["book", "change", "kind", "at"],["book", "change"],qG,none⟩
noncomputable abbrev OF:DefT:=⟨"ask_that_it_fits", top 54,["book", "change"],["book", "change"],zO,none⟩
noncomputable abbrev OG:DefT:=⟨"taken_out", top 55,["scenes", "at"],["scenes", "at"],zP,none⟩
noncomputable abbrev OH:DefT:=⟨"put_in", top 56,["scenes", "at", "scene"],["scenes", "at", "scene"],zQ,none⟩
noncomputable abbrev OI:DefT:=⟨"changed_scene", top 57,["kind", "scene", "number", "name", "length", "pause", "numbers"],["kind", "scene", "number"],oF,none⟩
noncomputable abbrev OJ:DefT:=⟨"changed_scenes", top 58,["scenes", "change", "kind", "at", "others"],["scenes", "change"],jG,none⟩
noncomputable abbrev OK:DefT:=⟨"changed", top 59,["book", "change"],["book", "change"],zR,none⟩
noncomputable abbrev OL:DefT:=⟨"way_back", top 60,["book", "change", "kind", "at", "again"],["book", "change"],Ep,none⟩
noncomputable abbrev OM:DefT:=⟨"shift_of", top 61,["book", "other", "first", "second"],["book", "other"],Ew,none⟩
noncomputable abbrev ON:DefT:=⟨"is_hurt", top 62,["come", "casting"],["come", "casting"],Ey,none⟩
noncomputable abbrev OO:DefT:=⟨"hurt_by", top 63,["shift", "castings"],["shift", "castings"],Ez,none⟩
noncomputable abbrev OP:DefT:=⟨"_law_cell_at", top 65,["_law_script", "_law_k"],["_law_script", "_law_k"],tY,none⟩
noncomputable abbrev OQ:DefT:=⟨"_law_mix", top 66,["_law_cell", "_law_k"],["_law_cell", "_law_k"],zT,none⟩
noncomputable abbrev OR:DefT:=⟨"_law_name", top 67,["_law_cell", "_law_k", "_law_letter", "_law_tail", "_law_at"],["_law_cell", "_law_k"],zU,none⟩
noncomputable abbrev OS:DefT:=⟨"_law_minutes", top 68,["_law_number"],["_law_number"],zV,none⟩
noncomputable abbrev OT:DefT:=⟨"_law_part", top 69,["_law_cell", "_law_k", "_law_base", "_law_number", "_law_voice"],["_law_cell", "_law_k", "_law_base"],zW,none⟩
noncomputable abbrev OU:DefT:=⟨"_law_player", top 70,["_law_cell", "_law_k", "_law_base", "_law_number", "_law_voices"],["_law_cell", "_law_k", "_law_base"],zX,none⟩
noncomputable abbrev OV:DefT:=⟨"_law_scene", top 71,["_law_cell", "_law_k", "_law_base", "_law_many", "_law_number", "_law_some", "_law_middle", "_law_pause"],["_law_cell", "_law_k", "_law_base", "_law_many"],zY,none⟩
noncomputable abbrev OW:DefT:=⟨"_law_pairs", top 72,["_law_cell", "_law_one", "_law_other", "_law_share", "_law_found", "_law_k", "_law_number", "_law_pair", "_law_middle"],["_law_cell", "_law_one", "_law_other", "_law_share"],zZ,none⟩
noncomputable abbrev OX:DefT:=⟨"_law_drawn", top 73,["_law_script", "_law_at", "_law_cells", "_law_many", "_law_parts", "_law_players", "_law_scenes", "_law_k", "_law_cell", "_law_likes", "_law_player_here", "_law_part_here", "_law_covers"],["_law_script", "_law_at"],AC,none⟩
noncomputable abbrev OY:DefT:=⟨"_law_given", top 74,["_law_book", "_law_cell", "_law_found", "_law_k", "_law_number", "_law_able"],["_law_book", "_law_cell"],AD,none⟩
noncomputable abbrev OZ:DefT:=⟨"_law_staged", top 75,["_law_book", "_law_cell", "_law_parts", "_law_players", "_law_casting", "_law_scenes", "_law_name_here", "_law_length", "_law_pause", "_law_numbers", "_law_kept", "_law_part_here"],["_law_book", "_law_cell"],AJ,none⟩
noncomputable abbrev O0:DefT:=⟨"_law_new_scene", top 77,["_law_book", "_law_cell", "_law_number", "_law_some", "_law_middle", "_law_minutes_here"],["_law_book", "_law_cell"],AK,none⟩
noncomputable abbrev O1:DefT:=⟨"_law_good_change", top 78,["_law_book", "_law_cell", "_law_scenes", "_law_way", "_law_number", "_law_scene_here", "_law_at", "_law_more", "_law_inside", "_law_outside"],["_law_book", "_law_cell"],lY,none⟩
noncomputable abbrev d_law:DefT:=⟨"law", top 80,["_law_script", "_law_book", "_law_casting", "_law_here", "_law_ways", "_law_come", "_law_gone", "_law_cell", "_law_change", "_law_behind", "_law_whole", "_law_way", "_law_step"],["_law_script"],uA,none⟩
noncomputable abbrev O3:DefT:=⟨"_law_laid", top 79,["_law_come", "_law_gone", "_law_shift", "_law_pair"],["_law_come", "_law_gone", "_law_shift"],AM,none⟩
noncomputable def defs:List DefT:=[N6,N7,N8,N_,Na,Nb,Nd,Nf,G6,G7,G8,G9,G_,Ng,Nh,Ni,Nj,Nk,Nl,Nm,Nn,Np,Nq,Nr,Nt,Nu,Nw,Nx,Ny,Nz,OA,OB,OC,OD,OE,d_fits,OF,OG,OH,OI,OJ,OK,OL,OM,ON,OO,OP,OQ,OR,OS,OT,OU,OV,OW,OX,OY,OZ,O0,O1,d_law,O3]
noncomputable def Tx:Txt:=⟨["LETTERS", "FIGURES", "PARTS", "PLAYERS", "SCENES", "LIKES", "COVERS", "KINDS", "MOST_MINUTES"],[("consists_of":Str),("are_unlike":Str),("is_name":Str),("is_amount":Str),("is_voice":Str),("are_voices":Str),("number_named":Str),("is_new_name":Str),("part_read":Str),("player_read":Str),("scene_read":Str),("like_read":Str),("cover_read":Str),("with_row":Str),("read_book":Str),("part_written":Str),("player_written":Str),("scene_written":Str),("like_written":Str),("cover_written":Str),("written_book":Str),("time_between":Str),("change_time":Str),("short_change_from":Str),("reason_from":Str),("reason_of":Str),("clashes_of":Str),("fault_of_part":Str),("have_one_player":Str),("faults_of":Str),("are_minutes":Str),("is_part":Str),("is_scene":Str),("may_be_added":Str),("fits_scene":Str),("fits":Str),("ask_that_it_fits":Str),("taken_out":Str),("put_in":Str),("changed_scene":Str),("changed_scenes":Str),("changed":Str),("way_back":Str),("shift_of":Str),("is_hurt":Str),("hurt_by":Str),("_law_cell_at":Str),("_law_mix":Str),("_law_name":Str),("_law_minutes":Str),("_law_part":Str),("_law_player":Str),("_law_scene":Str),("_law_pairs":Str),("_law_drawn":Str),("_law_given":Str),("_law_staged":Str),("_law_new_scene":Str),("_law_good_change":Str),("law":Str)],[("READERS", [8,9,10,11,12])],[("KINDS", ["part", "player", "scene", "like", "cover"])],[],[],[(60, "_law_laid")],none⟩
theorem okB:defs.all (·.okB Tx)=true:=by decide +kernel
end K75
open PySem PySem.W PyProof.Rows
set_option maxRecDepth 100000 in
set_option maxHeartbeats 0 in
theorem PySem.Challenge.cw_troupe_k75_whole_changes_holds : PySem.Challenge.rw_troupe_k75_whole_changes.Holds := by
 refine K75.hd ?_
 k_fill
 refine Tr.walkT (l:=PySem.Challenge.rw_troupe_k75_whole_changes) (T:=K75.T) (Tx:=K75.Tx) (defs:=K75.defs) (i:=59) (n:=30) rfl rfl rfl rfl rfl ⟨rfl,by decide,by decide⟩ K75.N5 (λw h Y=>PySem.W.kIn_of Y) ?X (λp=>by kernel_rfl) (λ_ _ _ _ _ _ _=>rfl)
 case X=>
  intro w mg h KX G
  refine' Tr.K7 ⟨Tr.dn_of rfl rfl,K75.okB,(Tr.all_cons (Tr.aV KX G ?a0 ?l0 ?c0 ?k0 ?b0) (Tr.all_cons (Tr.aV KX G ?a1 ?l1 ?c1 ?k1 ?b1) (Tr.all_cons (Tr.aV KX G ?a2 ?l2 ?c2 ?k2 ?b2) (Tr.all_cons (Tr.aV KX G ?a3 ?l3 ?c3 ?k3 ?b3) (Tr.all_cons (Tr.aV KX G ?a4 ?l4 ?c4 ?k4 ?b4) (Tr.all_cons (Tr.aV KX G ?a5 ?l5 ?c5 ?k5 ?b5) (Tr.all_cons (Tr.aV KX G ?a6 ?l6 ?c6 ?k6 ?b6) (Tr.all_cons (Tr.aV KX G ?a7 ?l7 ?c7 ?k7 ?b7) (Tr.all_cons (Tr.aV KX G ?a8 ?l8 ?c8 ?k8 ?b8) (Tr.all_cons (Tr.aV KX G ?a9 ?l9 ?c9 ?k9 ?b9) (Tr.all_cons (Tr.aV KX G ?a10 ?l10 ?c10 ?k10 ?b10) (Tr.all_cons (Tr.aV KX G ?a11 ?l11 ?c11 ?k11 ?b11) (Tr.all_cons (Tr.aV KX G ?a12 ?l12 ?c12 ?k12 ?b12) (Tr.all_cons (Tr.aV KX G ?a13 ?l13 ?c13 ?k13 ?b13) (Tr.all_cons (Tr.aV KX G ?a14 ?l14 ?c14 ?k14 ?b14) (Tr.all_cons (Tr.aV KX G ?a15 ?l15 ?c15 ?k15 ?b15) (Tr.all_cons (Tr.aV KX G ?a16 ?l16 ?c16 ?k16 ?b16) (Tr.all_cons (Tr.aV KX G ?a17 ?l17 ?c17 ?k17 ?b17) (Tr.all_cons (Tr.aV KX G ?a18 ?l18 ?c18 ?k18 ?b18) (Tr.all_cons (Tr.aV KX G ?a19 ?l19 ?c19 ?k19 ?b19) (Tr.all_cons (Tr.aV KX G ?a20 ?l20 ?c20 ?k20 ?b20) (Tr.all_cons (Tr.aV KX G ?a21 ?l21 ?c21 ?k21 ?b21) (Tr.all_cons (Tr.aV KX G ?a22 ?l22 ?c22 ?k22 ?b22) (Tr.all_cons (Tr.aV KX G ?a23 ?l23 ?c23 ?k23 ?b23) (Tr.all_cons (Tr.aV KX G ?a24 ?l24 ?c24 ?k24 ?b24) (Tr.all_cons (Tr.aV KX G ?a25 ?l25 ?c25 ?k25 ?b25) (Tr.all_cons (Tr.aV KX G ?a26 ?l26 ?c26 ?k26 ?b26) (Tr.all_cons (Tr.aV KX G ?a27 ?l27 ?c27 ?k27 ?b27) (Tr.all_cons (Tr.aV KX G ?a28 ?l28 ?c28 ?k28 ?b28) (Tr.all_cons (Tr.aV KX G ?a29 ?l29 ?c29 ?k29 ?b29) (Tr.all_cons (Tr.aV KX G ?a30 ?l30 ?c30 ?k30 ?b30) (Tr.all_cons (Tr.aV KX G ?a31 ?l31 ?c31 ?k31 ?b31) (Tr.all_cons (Tr.aV KX G ?a32 ?l32 ?c32 ?k32 ?b32) (Tr.all_cons (Tr.aV KX G ?a33 ?l33 ?c33 ?k33 ?b33) (Tr.all_cons (Tr.aV KX G ?a34 ?l34 ?c34 ?k34 ?b34) (Tr.all_cons (Tr.aV KX G ?a35 ?l35 ?c35 ?k35 ?b35) (Tr.all_cons (Tr.aV KX G ?a36 ?l36 ?c36 ?k36 ?b36) (Tr.all_cons (Tr.aV KX G ?a37 ?l37 ?c37 ?k37 ?b37) (Tr.all_cons (Tr.aV KX G ?a38 ?l38 ?c38 ?k38 ?b38) (Tr.all_cons (Tr.aV KX G ?a39 ?l39 ?c39 ?k39 ?b39) (Tr.all_cons (Tr.aV KX G ?a40 ?l40 ?c40 ?k40 ?b40) (Tr.all_cons (Tr.aV KX G ?a41 ?l41 ?c41 ?k41 ?b41) (Tr.all_cons (Tr.aV KX G ?a42 ?l42 ?c42 ?k42 ?b42) (Tr.all_cons (Tr.aV KX G ?a43 ?l43 ?c43 ?k43 ?b43) (Tr.all_cons (Tr.aV KX G ?a44 ?l44 ?c44 ?k44 ?b44) (Tr.all_cons (Tr.aV KX G ?a45 ?l45 ?c45 ?k45 ?b45) (Tr.all_cons (Tr.aV KX G ?a46 ?l46 ?c46 ?k46 ?b46) (Tr.all_cons (Tr.aV KX G ?a47 ?l47 ?c47 ?k47 ?b47) (Tr.all_cons (Tr.aV KX G ?a48 ?l48 ?c48 ?k48 ?b48) (Tr.all_cons (Tr.aV KX G ?a49 ?l49 ?c49 ?k49 ?b49) (Tr.all_cons (Tr.aV KX G ?a50 ?l50 ?c50 ?k50 ?b50) (Tr.all_cons (Tr.aV KX G ?a51 ?l51 ?c51 ?k51 ?b51) (Tr.all_cons (Tr.aV KX G ?a52 ?l52 ?c52 ?k52 ?b52) (Tr.all_cons (Tr.aV KX G ?a53 ?l53 ?c53 ?k53 ?b53) (Tr.all_cons (Tr.aV KX G ?a54 ?l54 ?c54 ?k54 ?b54) (Tr.all_cons (Tr.aV KX G ?a55 ?l55 ?c55 ?k55 ?b55) (Tr.all_cons (Tr.aV KX G ?a56 ?l56 ?c56 ?k56 ?b56) (Tr.all_cons (Tr.aV KX G ?a57 ?l57 ?c57 ?k57 ?b57) (Tr.all_cons (Tr.aV KX G ?a58 ?l58 ?c58 ?k58 ?b58) (Tr.all_cons (Tr.aV KX G ?a59 ?l59 ?c59 ?k59 ?b59) (Tr.all_cons (Tr.aV KX G ?a60 ?l60 ?c60 ?k60 ?b60) Tr.lQ))))))))))))))))))))))))))))))))))))))))))))))))))))))))))))),(Tr.jS (Tr.D3 KX G ?gg0) (Tr.jS (Tr.D3 KX G ?gg1) (Tr.jS (Tr.nJ KX G ?gg2) (Tr.jS (Tr.nJ KX G ?gg3) (Tr.jS (Tr.nJ KX G ?gg4) (Tr.jS (Tr.nJ KX G ?gg5) (Tr.jS (Tr.nJ KX G ?gg6) (Tr.jS (Tr.K8 (ss:=["part", "player", "scene", "like", "cover"]) KX G ?gg7 ?gl7 ?gz7 ?gv7 rfl) (Tr.jS (Tr.nJ KX G ?gg8) Tr.gl_nil))))))))),(Tr.all_cons (Tr.dI KX G ?z0) (Tr.all_cons (Tr.dI KX G ?z1) (Tr.all_cons (Tr.dI KX G ?z2) (Tr.all_cons (Tr.dI KX G ?z3) (Tr.all_cons (Tr.dI KX G ?z4) (Tr.all_cons (Tr.dI KX G ?z5) (Tr.all_cons (Tr.dI KX G ?z6) (Tr.all_cons (Tr.dI KX G ?z7) (Tr.all_cons (Tr.dI KX G ?z8) (Tr.all_cons (Tr.dI KX G ?z9) (Tr.all_cons (Tr.dI KX G ?z10) (Tr.all_cons (Tr.dI KX G ?z11) (Tr.all_cons (Tr.dI KX G ?z12) (Tr.all_cons (Tr.dI KX G ?z13) (Tr.all_cons (Tr.dI KX G ?z14) (Tr.all_cons (Tr.dI KX G ?z15) (Tr.all_cons (Tr.dI KX G ?z16) (Tr.all_cons (Tr.dI KX G ?z17) (Tr.all_cons (Tr.dI KX G ?z18) (Tr.all_cons (Tr.dI KX G ?z19) Tr.lQ)))))))))))))))))))),(Tr.all_cons (Tr.tab_in KX G ?ta0 ?tl0 ?tz0 ?tr0) Tr.lQ),(Tr.all_cons (Tr.K9 KX G ?sa0 ?sl0 ?sv0) Tr.lQ),Tr.lQ,Tr.lQ,(Tr.all_cons ⟨_,rfl,rfl⟩ Tr.lQ),(by decide +kernel),?lam,rfl⟩ rfl
  (case lam=>kernel_rfl)
  (case ta0=>k_is);(case tl0=>k_is);(case tz0=>decide);(case tr0=>exact⟨⟨_,K75.G6, "part_read", rfl,rfl,rfl,by k_is⟩,⟨⟨_,K75.G7, "player_read", rfl,rfl,rfl,by k_is⟩,⟨⟨_,K75.G8, "scene_read", rfl,rfl,rfl,by k_is⟩,⟨⟨_,K75.G9, "like_read", rfl,rfl,rfl,by k_is⟩,⟨⟨_,K75.G_, "cover_read", rfl,rfl,rfl,by k_is⟩,trivial⟩⟩⟩⟩⟩)
  (case sa0=>k_is);(case sl0=>k_is);(case sv0=>rfl)
  (case a0=>k_is);(case l0=>k_is);(case c0=>k_is);(case k0=>k_is)
  (case b0=>exact λ_ _ _ _ _ _=>Tr.bY (λ_ _=>rfl))
  (case a1=>k_is);(case l1=>k_is);(case c1=>k_is);(case k1=>k_is)
  (case b1=>exact λ_ _ _ _ _ _=>Tr.gM (λ_=>rfl))
  (case a2=>k_is);(case l2=>k_is);(case c2=>k_is);(case k2=>k_is)
  (case b2=>exact λ_ _ _ _ _ _=>Tr.gM (λ_=>rfl))
  (case a3=>k_is);(case l3=>k_is);(case c3=>k_is);(case k3=>k_is)
  (case b3=>exact λ_ _ _ _ _ _=>Tr.gM (λ_=>rfl))
  (case a4=>k_is);(case l4=>k_is);(case c4=>k_is);(case k4=>k_is)
  (case b4=>exact λ_ _ _ _ _ _=>Tr.gM (λ_=>rfl))
  (case a5=>k_is);(case l5=>k_is);(case c5=>k_is);(case k5=>k_is)
  (case b5=>exact λ_ _ _ _ _ _=>Tr.gM (λ_=>rfl))
  (case a6=>k_is);(case l6=>k_is);(case c6=>k_is);(case k6=>k_is)
  (case b6=>exact λ_ _ _ _ _ _=>Tr.bY (λ_ _=>rfl))
  (case a7=>k_is);(case l7=>k_is);(case c7=>k_is);(case k7=>k_is)
  (case b7=>exact λ_ _ _ _ _ _=>Tr.bY (λ_ _=>rfl))
  (case a8=>k_is);(case l8=>k_is);(case c8=>k_is);(case k8=>k_is)
  (case b8=>exact λ_ _ _ _ _ _=>Tr.bY (λ_ _=>rfl))
  (case a9=>k_is);(case l9=>k_is);(case c9=>k_is);(case k9=>k_is)
  (case b9=>exact λ_ _ _ _ _ _=>Tr.bY (λ_ _=>rfl))
  (case a10=>k_is);(case l10=>k_is);(case c10=>k_is);(case k10=>k_is)
  (case b10=>exact λ_ _ _ _ _ _=>Tr.bY (λ_ _=>rfl))
  (case a11=>k_is);(case l11=>k_is);(case c11=>k_is);(case k11=>k_is)
  (case b11=>exact λ_ _ _ _ _ _=>Tr.bY (λ_ _=>rfl))
  (case a12=>k_is);(case l12=>k_is);(case c12=>k_is);(case k12=>k_is)
  (case b12=>exact λ_ _ _ _ _ _=>Tr.bY (λ_ _=>rfl))
  (case a13=>k_is);(case l13=>k_is);(case c13=>k_is);(case k13=>k_is)
  (case b13=>exact λ_ _ _ _ _ _=>Tr.bY (λ_ _=>rfl))
  (case a14=>k_is);(case l14=>k_is);(case c14=>k_is);(case k14=>k_is)
  (case b14=>exact λ_ _ _ _ _ _=>Tr.gM (λ_=>rfl))
  (case a15=>k_is);(case l15=>k_is);(case c15=>k_is);(case k15=>k_is)
  (case b15=>exact λ_ _ _ _ _ _=>Tr.gM (λ_=>rfl))
  (case a16=>k_is);(case l16=>k_is);(case c16=>k_is);(case k16=>k_is)
  (case b16=>exact λ_ _ _ _ _ _=>Tr.gM (λ_=>rfl))
  (case a17=>k_is);(case l17=>k_is);(case c17=>k_is);(case k17=>k_is)
  (case b17=>exact λ_ _ _ _ _ _=>Tr.bY (λ_ _=>rfl))
  (case a18=>k_is);(case l18=>k_is);(case c18=>k_is);(case k18=>k_is)
  (case b18=>exact λ_ _ _ _ _ _=>Tr.bY (λ_ _=>rfl))
  (case a19=>k_is);(case l19=>k_is);(case c19=>k_is);(case k19=>k_is)
  (case b19=>exact λ_ _ _ _ _ _=>Tr.bY (λ_ _=>rfl))
  (case a20=>k_is);(case l20=>k_is);(case c20=>k_is);(case k20=>k_is)
  (case b20=>exact λ_ _ _ _ _ _=>Tr.gM (λ_=>rfl))
  (case a21=>k_is);(case l21=>k_is);(case c21=>k_is);(case k21=>k_is)
  (case b21=>exact λ_ _ _ _ _ _=>Tr.jA (λ_ _ _=>rfl))
  (case a22=>k_is);(case l22=>k_is);(case c22=>k_is);(case k22=>k_is)
  (case b22=>exact λ_ _ _ _ _ _=>Tr.jA (λ_ _ _=>rfl))
  (case a23=>k_is);(case l23=>k_is);(case c23=>k_is);(case k23=>k_is)
  (case b23=>exact λ_ _ _ _ _ _=>Tr.len4 (λ_ _ _ _=>rfl))
  (case a24=>k_is);(case l24=>k_is);(case c24=>k_is);(case k24=>k_is)
  (case b24=>exact λ_ _ _ _ _ _=>Tr.len4 (λ_ _ _ _=>rfl))
  (case a25=>k_is);(case l25=>k_is);(case c25=>k_is);(case k25=>k_is)
  (case b25=>exact λ_ _ _ _ _ _=>Tr.jA (λ_ _ _=>rfl))
  (case a26=>k_is);(case l26=>k_is);(case c26=>k_is);(case k26=>k_is)
  (case b26=>exact λ_ _ _ _ _ _=>Tr.gM (λ_=>rfl))
  (case a27=>k_is);(case l27=>k_is);(case c27=>k_is);(case k27=>k_is)
  (case b27=>exact λ_ _ _ _ _ _=>Tr.jA (λ_ _ _=>rfl))
  (case a28=>k_is);(case l28=>k_is);(case c28=>k_is);(case k28=>k_is)
  (case b28=>exact λ_ _ _ _ _ _=>Tr.jA (λ_ _ _=>rfl))
  (case a29=>k_is);(case l29=>k_is);(case c29=>k_is);(case k29=>k_is)
  (case b29=>exact λ_ _ _ _ _ _=>Tr.bY (λ_ _=>rfl))
  (case a30=>k_is);(case l30=>k_is);(case c30=>k_is);(case k30=>k_is)
  (case b30=>exact λ_ _ _ _ _ _=>Tr.gM (λ_=>rfl))
  (case a31=>k_is);(case l31=>k_is);(case c31=>k_is);(case k31=>k_is)
  (case b31=>exact λ_ _ _ _ _ _=>Tr.bY (λ_ _=>rfl))
  (case a32=>k_is);(case l32=>k_is);(case c32=>k_is);(case k32=>k_is)
  (case b32=>exact λ_ _ _ _ _ _=>Tr.bY (λ_ _=>rfl))
  (case a33=>k_is);(case l33=>k_is);(case c33=>k_is);(case k33=>k_is)
  (case b33=>exact λ_ _ _ _ _ _=>Tr.bY (λ_ _=>rfl))
  (case a34=>k_is);(case l34=>k_is);(case c34=>k_is);(case k34=>k_is)
  (case b34=>exact λ_ _ _ _ _ _=>Tr.len4 (λ_ _ _ _=>rfl))
  (case a35=>k_is);(case l35=>k_is);(case c35=>k_is);(case k35=>k_is)
  (case b35=>exact λ_ _ _ _ _ _=>Tr.bY (λ_ _=>rfl))
  (case a36=>k_is);(case l36=>k_is);(case c36=>k_is);(case k36=>k_is)
  (case b36=>exact λ_ _ _ _ _ _=>Tr.bY (λ_ _=>rfl))
  (case a37=>k_is);(case l37=>k_is);(case c37=>k_is);(case k37=>k_is)
  (case b37=>exact λ_ _ _ _ _ _=>Tr.bY (λ_ _=>rfl))
  (case a38=>k_is);(case l38=>k_is);(case c38=>k_is);(case k38=>k_is)
  (case b38=>exact λ_ _ _ _ _ _=>Tr.jA (λ_ _ _=>rfl))
  (case a39=>k_is);(case l39=>k_is);(case c39=>k_is);(case k39=>k_is)
  (case b39=>exact λ_ _ _ _ _ _=>Tr.jA (λ_ _ _=>rfl))
  (case a40=>k_is);(case l40=>k_is);(case c40=>k_is);(case k40=>k_is)
  (case b40=>exact λ_ _ _ _ _ _=>Tr.bY (λ_ _=>rfl))
  (case a41=>k_is);(case l41=>k_is);(case c41=>k_is);(case k41=>k_is)
  (case b41=>exact λ_ _ _ _ _ _=>Tr.bY (λ_ _=>rfl))
  (case a42=>k_is);(case l42=>k_is);(case c42=>k_is);(case k42=>k_is)
  (case b42=>exact λ_ _ _ _ _ _=>Tr.bY (λ_ _=>rfl))
  (case a43=>k_is);(case l43=>k_is);(case c43=>k_is);(case k43=>k_is)
  (case b43=>exact λ_ _ _ _ _ _=>Tr.bY (λ_ _=>rfl))
  (case a44=>k_is);(case l44=>k_is);(case c44=>k_is);(case k44=>k_is)
  (case b44=>exact λ_ _ _ _ _ _=>Tr.bY (λ_ _=>rfl))
  (case a45=>k_is);(case l45=>k_is);(case c45=>k_is);(case k45=>k_is)
  (case b45=>exact λ_ _ _ _ _ _=>Tr.bY (λ_ _=>rfl))
  (case a46=>k_is);(case l46=>k_is);(case c46=>k_is);(case k46=>k_is)
  (case b46=>exact λ_ _ _ _ _ _=>Tr.bY (λ_ _=>rfl))
  (case a47=>k_is);(case l47=>k_is);(case c47=>k_is);(case k47=>k_is)
  (case b47=>exact λ_ _ _ _ _ _=>Tr.bY (λ_ _=>rfl))
  (case a48=>k_is);(case l48=>k_is);(case c48=>k_is);(case k48=>k_is)
  (case b48=>exact λ_ _ _ _ _ _=>Tr.bY (λ_ _=>rfl))
  (case a49=>k_is);(case l49=>k_is);(case c49=>k_is);(case k49=>k_is)
  (case b49=>exact λ_ _ _ _ _ _=>Tr.gM (λ_=>rfl))
  (case a50=>k_is);(case l50=>k_is);(case c50=>k_is);(case k50=>k_is)
  (case b50=>exact λ_ _ _ _ _ _=>Tr.jA (λ_ _ _=>rfl))
  (case a51=>k_is);(case l51=>k_is);(case c51=>k_is);(case k51=>k_is)
  (case b51=>exact λ_ _ _ _ _ _=>Tr.jA (λ_ _ _=>rfl))
  (case a52=>k_is);(case l52=>k_is);(case c52=>k_is);(case k52=>k_is)
  (case b52=>exact λ_ _ _ _ _ _=>Tr.len4 (λ_ _ _ _=>rfl))
  (case a53=>k_is);(case l53=>k_is);(case c53=>k_is);(case k53=>k_is)
  (case b53=>exact λ_ _ _ _ _ _=>Tr.len4 (λ_ _ _ _=>rfl))
  (case a54=>k_is);(case l54=>k_is);(case c54=>k_is);(case k54=>k_is)
  (case b54=>exact λ_ _ _ _ _ _=>Tr.bY (λ_ _=>rfl))
  (case a55=>k_is);(case l55=>k_is);(case c55=>k_is);(case k55=>k_is)
  (case b55=>exact λ_ _ _ _ _ _=>Tr.bY (λ_ _=>rfl))
  (case a56=>k_is);(case l56=>k_is);(case c56=>k_is);(case k56=>k_is)
  (case b56=>exact λ_ _ _ _ _ _=>Tr.bY (λ_ _=>rfl))
  (case a57=>k_is);(case l57=>k_is);(case c57=>k_is);(case k57=>k_is)
  (case b57=>exact λ_ _ _ _ _ _=>Tr.bY (λ_ _=>rfl))
  (case a58=>k_is);(case l58=>k_is);(case c58=>k_is);(case k58=>k_is)
  (case b58=>exact λ_ _ _ _ _ _=>Tr.bY (λ_ _=>rfl))
  (case a59=>k_is);(case l59=>k_is);(case c59=>k_is);(case k59=>k_is)
  (case b59=>exact λ_ _ _ _ _ _=>Tr.gM (λ_=>rfl))
  (case a60=>k_is);(case l60=>k_is);(case c60=>k_is);(case k60=>k_is)
  (case b60=>exact λ_ _ _ _ _ _=>Tr.jA (λ_ _ _=>rfl))
  (case gg0=>k_is)
  (case gg1=>k_is)
  (case gg2=>k_is)
  (case gg3=>k_is)
  (case gg4=>k_is)
  (case gg5=>k_is)
  (case gg6=>k_is)
  (case gg7=>k_is)
  (case gl7=>k_is);(case gz7=>decide);(case gv7=>rfl)
  (case gg8=>k_is)
  (case z0=>k_is)
  (case z1=>k_is)
  (case z2=>k_is)
  (case z3=>k_is)
  (case z4=>k_is)
  (case z5=>k_is)
  (case z6=>k_is)
  (case z7=>k_is)
  (case z8=>k_is)
  (case z9=>k_is)
  (case z10=>k_is)
  (case z11=>k_is)
  (case z12=>k_is)
  (case z13=>k_is)
  (case z14=>k_is)
  (case z15=>k_is)
  (case z16=>k_is)
  (case z17=>k_is)
  (case z18=>k_is)
  (case z19=>k_is)
