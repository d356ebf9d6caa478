import PyProof.Rows.All
import Wide.All
import OpenK.AllK
import Wide.FinOn
import Lean
import PyProof.EqAt
import PyProof.EqKinds
import PyProof.TupleCall
import PySem.Challenge.RW_troupe_k63_whole_nights
set_option Elab.async false
set_option genSizeOf false
set_option bootstrap.genMatcherCode false
set_option compiler.extract_closed false
set_option genSizeOfSpec false
set_option linter.all false
set_option maxRecDepth 100000
namespace K63
theorem both1 {a b:Bool} (h:(a&&b)=true):a=true:=(Bool.and_eq_true_iff.mp h).1
theorem both2 {a b:Bool} (h:(a&&b)=true):b=true:=(Bool.and_eq_true_iff.mp h).2
noncomputable def vw:PySem.Program:=PySem.W.view PySem.Challenge.pw_troupe_k63_whole_nights [1,2,3,4,5,6,8,9,10,11,12,13,15,16,17,18,20,21,22,23,24,25,26,27,28,29,31,32,33,34,35,36,37,38,39,40,41,42,43,44]
end K63
section
open PySem PySem.W PyProof.Rows
set_option maxHeartbeats 0
local macro_rules
  | `(tactic| o_head $H)=>`(tactic| (
    apply holds_open (N:=4100) (q:=K63.vw) (loose:=[])
      (Yf:=($H).obs) (Ya:=($H).val) (YP:=($H).says)
      (XP:=XL K63.vw []) (Xt:=fun s=>xlAt K63.vw [] s&&recOk (PySem.Challenge.rw_troupe_k63_whole_nights.row.toRowW).records s)
      (by intro w;kernel_rfl) ($H).of ($H).keeps
      (fun s e=>xl_of s (K63.both1 e)) XL.keeps
      rfl rfl rfl
      (fun s e=>recFacts_of (K63.both2 e))
      rfl (by assumption) (by decide +kernel)
      (by refine⟨rfl,rfl,rfl,rfl,rfl,?_⟩;decide +kernel)))
open_top K63.hd for PySem.Challenge.rw_troupe_k63_whole_nights
end
set_option Elab.async false
set_option linter.all false
set_option maxRecDepth 100000
namespace L2
open PySem PySem.Spec PyProof.Rows
noncomputable abbrev Key:=Sum Int Str
noncomputable def keyIs:Key→Value→Bool
 | .inl k,v=>Value.isInt k v
 | .inr x,v=>Value.isStrOf x v
noncomputable def keyH (w:World):Key→Int
 | .inl k=>hashInt k
 | .inr x=>hashStr w x
theorem keyIs_shape:∀ {k:Key} {v:Value},keyIs k v=true→(∃i t,k=Sum.inl i∧v=Value.int i t)∨(∃x t,k=Sum.inr x∧v=Value.str x t)
 | .inl i,v,h=>by
  obtain⟨t,e⟩:=Value.isInt_shape (k:=i) (v:=v) h
  exact .inl ⟨i,t,rfl,e⟩
 | .inr x,v,h=>by
  obtain⟨t,e⟩:=Value.isStrOf_shape (x:=x) (v:=v) h
  exact .inr ⟨x,t,rfl,e⟩
theorem keyIs_int (i:Int) (t:Tok):keyIs (.inl i) (.int i t)=true:=by simp[keyIs,Value.isInt]
theorem keyIs_str (x:Str) (t:Tok):keyIs (.inr x) (.str x t)=true:=by simp[keyIs,Value.isStrOf]
theorem key_ll (a b:Int):decide ((Sum.inl a:Key)=Sum.inl b)=(a==b):=by
 by_cases e:a=b
 ·subst e;simp
 ·have h:¬(Sum.inl a:Key)=Sum.inl b:=λq=>e (Sum.inl.inj q)
  rw[decide_eq_false h]
  exact (beq_eq_false_iff_ne.mpr e).symm
theorem key_rr (a b:Str):decide ((Sum.inr a:Key)=Sum.inr b)=decide (a=b):=by
 by_cases e:a=b
 ·subst e;simp
 ·have h:¬(Sum.inr a:Key)=Sum.inr b:=λq=>e (Sum.inr.inj q)
  rw[decide_eq_false h,decide_eq_false e]
theorem key_lr (a:Int) (b:Str):decide ((Sum.inl a:Key)=Sum.inr b)=false:=decide_eq_false (λq=>nomatch q)
theorem key_rl (a:Str) (b:Int):decide ((Sum.inr a:Key)=Sum.inl b)=false:=decide_eq_false (λq=>nomatch q)
noncomputable def mixKind (prog:Program) (w:World):PySem.KeyKind prog w Key where
 is:=keyIs
 hash:=keyH w
 inj:=λv a b ha hb=>by
  rcases keyIs_shape ha with ⟨i,t,rfl,rfl⟩ | ⟨x,t,rfl,rfl⟩
  ·rcases keyIs_shape hb with ⟨j,u,rfl,e⟩ | ⟨y,u,rfl,e⟩
   ·injection e with e1 _;rw[e1]
   ·exact nomatch e
  ·rcases keyIs_shape hb with ⟨j,u,rfl,e⟩ | ⟨y,u,rfl,e⟩
   ·exact nomatch e
   ·injection e with e1 _;rw[e1]
 byValue:=λk v h=>by
  rcases keyIs_shape h with ⟨i,t,rfl,rfl⟩ | ⟨x,t,rfl,rfl⟩<;>rfl
 pyHash:=λhv h=>by
  rcases keyIs_shape hv with ⟨i,t,rfl,rfl⟩ | ⟨x,t,rfl,rfl⟩
  ·exact wpAny_pyHash_int h
  ·exact wpAny_pyHash_str h
 eqBool:=λhu hv h=>by
  rcases keyIs_shape hu with ⟨i,t,rfl,rfl⟩ | ⟨x,t,rfl,rfl⟩
  ·rcases keyIs_shape hv with ⟨j,u,rfl,rfl⟩ | ⟨y,u,rfl,rfl⟩
   ·rw[key_ll] at h;exact wpAny_eqBool_int h
   ·rw[key_lr] at h;exact SeqAt.EqAt.int_str i t y u _ _ _ _ h
  ·rcases keyIs_shape hv with ⟨j,u,rfl,rfl⟩ | ⟨y,u,rfl,rfl⟩
   ·rw[key_rl] at h;exact SeqAt.EqAt.str_int x t j u _ _ _ _ h
   ·rw[key_rr] at h;exact wpAny_eqBool_str h
 «strs»:=λk x t v h=>by
  rcases keyIs_shape h with ⟨i,u,rfl,e⟩ | ⟨y,u,rfl,e⟩
  ·exact nomatch e
  ·injection e with e1 _
   subst e1
   cases v<;>rfl
theorem mixKind_int (prog:Program) (w:World) (i:Int) (t:Tok):(mixKind prog w).is (.inl i) (.int i t)=true:=keyIs_int i t
theorem mixKind_str (prog:Program) (w:World) (x:Str) (t:Tok):(mixKind prog w).is (.inr x) (.str x t)=true:=keyIs_str x t
inductive V where
 | non | bl (b:Bool) | int (i:Int) | str (x:Str) | byt (b:Array UInt8) | flt (b:UInt64) | ref (a:Addr) | ty (n:String)
 deriving DecidableEq
noncomputable def RelV:V→Value→Prop
 | .non,u=>u=Value.none
 | .bl b,u=>u=Value.bool b
 | .int i,u=>∃t,u=Value.int i t
 | .str x,u=>∃t,u=Value.str x t
 | .byt b,u=>∃t,u=Value.bytes b t
 | .flt b,u=>∃t,u=Value.float b t
 | .ref a,u=>u=Value.ref a
 | .ty n,u=>u=Value.type n
noncomputable abbrev Vals:List V→List Value→Prop:=Paired RelV
theorem Vals.length {xs:List V} {us:List Value} (r:Vals xs us):xs.length=us.length:=Paired.length r
theorem Vals.get:∀ {xs:List V} {us:List Value} {i:Nat} {x:V},Vals xs us→xs[i]?=some x→∃u,us[i]?=some u∧RelV x u
 | _,_,_,_,.nil,e=>by simp at e
 | _,_,0,_,.cons r _,e=>by simp at e;subst e;exact⟨_,rfl,r⟩
 | _,_,i+1,x,.cons _ t,e=>by
  obtain⟨u,h1,h2⟩:=Vals.get (i:=i) (x:=x) t (by simpa using e)
  exact⟨u,by simpa using h1,h2⟩
theorem Vals.append:∀ {xs ys:List V} {us ws:List Value},Vals xs us→Vals ys ws→Vals (xs++ys) (us++ws)
 | _,_,_,_,.nil,s=>s
 | _,_,_,_,.cons r t,s=>.cons r (Vals.append t s)
theorem Vals.take:∀ {xs:List V} {us:List Value} (n:Nat),Vals xs us→Vals (xs.take n) (us.take n)
 | _,_,0,_=>.nil
 | _,_,_+1,.nil=>.nil
 | _,_,n+1,.cons r t=>.cons r (Vals.take n t)
theorem Vals.drop:∀ {xs:List V} {us:List Value} (n:Nat),Vals xs us→Vals (xs.drop n) (us.drop n)
 | _,_,0,r=>r
 | _,_,_+1,.nil=>.nil
 | _,_,n+1,.cons _ t=>Vals.drop n t
noncomputable def RelO:Option V→Option Value→Prop
 | some v,some u=>RelV v u
 | none,none=>True
 | _,_=>False
noncomputable def KV {κ:Type}:List (κ×V)→List (κ×Value)→Prop:=Paired λ(p:κ×V) (q:κ×Value)=>p.1=q.1∧RelV p.2 q.2
noncomputable def kV:Key→V
 | .inl i=>.int i
 | .inr x=>.str x
inductive HO where
 | lst (xs:List V)
 | tup (xs:List V)
 | dK (kvs:List (Key×V)) | dT (kvs:List (List Key×V))
 | set (S:Int→Bool) (n:Nat)
 | ins (C dx:Addr) (fs:List (Str×V))
 | own (x:Addr)
 | xd (fs:List (Str×V))
 | met (f x:Addr)
 | rng (lo hi:Int)
 | frz (o:Obj) (u:HO)
 | tbl (ps:Array Value)
 | ext (φ:Heap→Prop)
noncomputable abbrev Hp:=Addr→Option HO
noncomputable def upd (H:Hp) (a:Addr) (o:HO):Hp:=λb=>if b=a then some o else H b
theorem upd_same {H:Hp} {a:Addr} {o:HO}:upd H a o a=some o:=by unfold upd;rw[if_pos rfl]
theorem upd_ne {H:Hp} {a b:Addr} {o:HO} (h:b≠a):upd H a o b=H b:=by unfold upd;rw[if_neg h]
theorem upd_upd {H:Hp} {a:Addr} {o u:HO}:upd (upd H a o) a u=upd H a u:=by
 funext b;unfold upd;split<;>rfl
theorem ne_of {H:Hp} {a b:Addr} {o u:HO} (h:H a=some o) (h':H b=some u) (d:o≠u):a≠b:=by
 intro e;subst e;rw[h] at h';exact d (Option.some.inj h')
theorem ne_of_none {H:Hp} {a b:Addr} {o:HO} (h:H a=some o) (h':H b=none):a≠b:=by
 intro e;subst e;rw[h] at h';cases h'
section
variable (P:Program) (w:World)
noncomputable def ObjOk (H:Hp) (h:Heap) (a:Addr):HO→Prop
 | .lst xs=>xs.length≤sizeLine∧∃(its:List Value) (n:Nat),Vals xs its∧h.get? a=some { cls:=.type "list", data:=.seq its.toArray n }
 | .tup xs=>xs.length≤sizeLine∧∃its:List Value,Vals xs its∧IsTup h a its.toArray
 | .dK kvs=>kvs.length≤sizeLine∧(a==sysModules)=false∧∃vs,KV kvs vs∧h.DictOf (mixKind P w) a vs
 | .dT kvs=>kvs.length≤sizeLine∧(a==sysModules)=false∧∃xs:List (List Key×Addr×Value),
  Paired (λ(p:List Key×V) (q:List Key×Addr×Value)=>p.1=q.1∧H q.2.1=some (.tup (p.1.map kV))∧RelV p.2 q.2.2) kvs xs ∧
  ∃o es ep,h.get? a=some o∧o.ExactDict∧o.data=.dict es ep∧es.toList=xs.map (entryOfKey (tupleKind (mixKind P w)))∧(xs.map (·.1)).Nodup
 | .set S n=>h.SetOf (intKind P w) a S n
 | .ins C dx fs=>H dx=some (.own a)∧fs.length≤1000∧dx≠a∧h.get? a=some (PySem.W.instObj C dx) ∧
  ∃mA,h.Ns1 dx mA∧(∀f,RelO (fs.lookup f) (mA f))∧PySem.Within mA (fs.map (·.1))
 | .own _=>∃o,h.get? a=some o
 | .xd fs=>∃mA,h.Ns1 a mA∧∀f,RelO (fs.lookup f) (mA f)
 | .rng lo hi=>∃t u v,h.get? a=some { cls:=.type "range", data:=.fields #[.int lo t,.int hi u,.int 1 v] }
 | .frz o u=>h.get? a=some o∧ObjOk H h a u
 | .tbl ps=>h.get? a=some { cls:=.none,data:=.fields ps }
 | .met f x=>h.get? a=some (PySem.W.methodObj (.ref f) (.ref x))
 | .ext φ=>φ h∧(∃o,h.get? a=some o)∧∀h1 h2:Heap,φ h1→(∀o,h1.get? a=some o→h2.get? a=some o)→φ h2
noncomputable def HOk (H:Hp) (h:Heap):Prop:=∀a o,H a=some o→ObjOk P w H h a o
end
section
variable {P:Program} {w:World} {H H':Hp} {h h':Heap} {a:Addr} {o:HO}
theorem ObjOk.lt (x:ObjOk P w H h a o):a < h.objs.size:=by
 cases o with
 | lst xs=>obtain⟨_,_,_,_,e⟩:=x;exact Heap.lt_size e
 | tup xs=>obtain⟨_,_,_,p⟩:=x;exact p.lt
 | dK kvs=>obtain⟨_,_,_,_,o,_,_,e,_⟩:=x;exact Heap.lt_size e
 | dT kvs=>obtain⟨_,_,_,_,o,_,_,e,_⟩:=x;exact Heap.lt_size e
 | set S n=>obtain⟨o,_,_,_,e,_⟩:=x;exact Heap.lt_size e
 | ins C dx fs=>obtain⟨_,_,_,e,_⟩:=x;exact Heap.lt_size e
 | own y=>obtain⟨_,e⟩:=x;exact Heap.lt_size e
 | xd fs=>obtain⟨_,⟨_,_,_,e,_⟩,_⟩:=x;exact Heap.lt_size e
 | rng lo hi=>obtain⟨_,_,_,e⟩:=x;exact Heap.lt_size e
 | frz ob u=>obtain⟨e,_⟩:=x;exact Heap.lt_size e
 | tbl ps=>exact Heap.lt_size (show h.get? a=some _ from x)
 | met f y=>exact Heap.lt_size (show h.get? a=some _ from x)
 | ext φ=>obtain⟨_,⟨_,e⟩,_⟩:=x;exact Heap.lt_size e
theorem Paired.mapP {α β:Type} {F G:α→β→Prop}:∀ {l₁:List α} {l₂:List β},Paired F l₁ l₂→(∀a b,F a b→G a b)→Paired G l₁ l₂
 | _,_,.nil,_=>.nil
 | _,_,.cons r t,f=>.cons (f _ _ r) (Paired.mapP t f)
theorem ObjOk.stay (x:ObjOk P w H h a o) (k:∀b u,(b=a∨H b=some (.own a))→h.get? b=some u→h'.get? b=some u)
 (ho:∀b,H b=some (.own a)→H' b=some (.own a)) (ht:∀b xs,H b=some (.tup xs)→H' b=some (.tup xs)):ObjOk P w H' h' a o:=by
 induction o with
 | lst xs=>obtain⟨z,its,n,r,e⟩:=x;exact⟨z,its,n,r,k _ _ (.inl rfl) e⟩
 | tup xs=>obtain⟨z,its,r,ob,e,c⟩:=x;exact⟨z,its,r,ob,k _ _ (.inl rfl) e,c⟩
 | dK kvs=>obtain⟨z,y,vs,r,ob,es,ep,e,c⟩:=x;exact⟨z,y,vs,r,ob,es,ep,k _ _ (.inl rfl) e,c⟩
 | dT kvs =>
  obtain⟨z,y,xs,r,ob,es,ep,e,c⟩:=x
  exact⟨z,y,xs,Paired.mapP r λp q z=>⟨z.1,ht _ _ z.2.1,z.2.2⟩,ob,es,ep,k _ _ (.inl rfl) e,c⟩
 | set S n=>obtain⟨ob,es,ep,t,e,c⟩:=x;exact⟨ob,es,ep,t,k _ _ (.inl rfl) e,c⟩
 | ins C dx fs =>
  obtain⟨d,z,ne,e,mA,⟨od,es,ep,e2,c⟩,r⟩:=x
  exact⟨ho _ d,z,ne,k _ _ (.inl rfl) e,mA,⟨od,es,ep,k _ _ (.inr d) e2,c⟩,r⟩
 | own y=>obtain⟨ob,e⟩:=x;exact⟨ob,k _ _ (.inl rfl) e⟩
 | xd fs=>obtain⟨mA,⟨od,es,ep,e,c⟩,r⟩:=x;exact⟨mA,⟨od,es,ep,k _ _ (.inl rfl) e,c⟩,r⟩
 | rng lo hi=>obtain⟨t,u,v,e⟩:=x;exact⟨t,u,v,k _ _ (.inl rfl) e⟩
 | frz ob u ih=>obtain⟨e,q⟩:=x;exact⟨k _ _ (.inl rfl) e,ih q⟩
 | tbl ps =>
  have e:h.get? a=some { cls:=.none,data:=.fields ps }:=x
  show h'.get? a=some { cls:=.none,data:=.fields ps }
  exact k a _ (.inl rfl) e
 | met f y =>
  have e:h.get? a=some (PySem.W.methodObj (.ref f) (.ref y)):=x
  show h'.get? a=some (PySem.W.methodObj (.ref f) (.ref y))
  exact k a _ (.inl rfl) e
 | ext φ=>obtain⟨p,⟨o,e⟩,st⟩:=x;exact⟨st _ _ p λo q=>k _ _ (.inl rfl) q,⟨o,k _ _ (.inl rfl) e⟩,st⟩
theorem HOk.lt (x:HOk P w H h) (e:H a=some o):a < h.objs.size:=(x a o e).lt
theorem HOk.fresh (x:HOk P w H h) (e:h.objs.size≤a):H a=none:=by
 cases q:H a with
 | none=>rfl
 | some u=>exact absurd (Nat.lt_of_lt_of_le (x.lt q) e) (Nat.lt_irrefl _)
theorem HOk.kept (x:HOk P w H h) (k:∀b u,h.get? b=some u→h'.get? b=some u):HOk P w H h':=λa o e =>
 (x a o e).stay (λb u _ q=>k b u q) (λ_ q=>q) λ_ _ q=>q
theorem HOk.laid (x:HOk P w H h) (k:∀b u,h.get? b=some u→h'.get? b=some u) (hp:h.objs.size≤a) (new:ObjOk P w (upd H a o) h' a o):HOk P w (upd H a o) h':=λb u e=>by
 have hn:=x.fresh hp
 by_cases hb:b=a
 ·subst hb;rw[upd_same] at e;cases e;exact new
 ·rw[upd_ne hb] at e
  exact (x b u e).stay (λc v _ q=>k c v q) (λc q=>by rw[upd_ne (ne_of_none q hn)];exact q) λc xs q=>by rw[upd_ne (ne_of_none q hn)];exact q
end
noncomputable def Rd (H:Hp) (a:Addr) (u:HO):Prop:=H a=some u∨∃o,H a=some (.frz o u)
theorem Rd.ok {P:Program} {w:World} {H:Hp} {h:Heap} {a:Addr} {u:HO} (r:Rd H a u) (x:HOk P w H h):ObjOk P w H h a u:=by
 rcases r with r | ⟨o,r⟩
 ·exact x a u r
 ·obtain⟨_,q⟩:=x a _ r
  exact q
noncomputable def Mut:Option HO→Prop
 | some (.lst _)=>True
 | some (.dK _)=>True
 | some (.dT _)=>True
 | some (.set _ _)=>True
 | some (.ins _ _ _)=>True
 | some (.ext _)=>True
 | _=>False
section
variable {P:Program} {w:World} {H:Hp} {h h':Heap} {x e:Addr} {o':HO}
theorem HOk.write (ok:HOk P w H h) (mu:Mut (H x)) (he:e=x∨H e=some (.own x)) (k:∀b u,b≠e→h.get? b=some u→h'.get? b=some u) (heo:∃u,h'.get? e=some u)
 (new:ObjOk P w (upd H x o') h' x o'):HOk P w (upd H x o') h':=λb u q=>by
 have nown:∀c y,H c=some (.own y)→c≠x:=λc y r z=>by subst z;rw[r] at mu;exact mu
 have ntup:∀c xs,H c=some (.tup xs)→c≠x:=λc xs r z=>by subst z;rw[r] at mu;exact mu
 by_cases hb:b=x
 ·subst hb;rw[upd_same] at q;cases q;exact new
 ·rw[upd_ne hb] at q
  by_cases hbe:b=e
  ·have q':H b=some (.own x):=by
    rcases he with z | z
    ·exact absurd (hbe.trans z) hb
    ·rw[hbe];exact z
   rw[q] at q';cases q'
   obtain⟨v,hv⟩:=heo
   exact⟨v,by rw[hbe];exact hv⟩
  ·refine (ok b u q).stay (λc v hc r=>k c v ?_ r) (λc r=>by rw[upd_ne (nown c b r)];exact r) λc xs r=>by rw[upd_ne (ntup c xs r)];exact r
   rcases hc with rfl | hc
   ·exact hbe
   ·rintro rfl
    rcases he with z | z
    ·exact nown c b hc z
    ·rw[hc] at z;cases z;exact hb rfl
end
set_option genInjectivity false in
structure Un (fs ex:List Addr) (H H':Hp) (h h':Heap):Prop where
 keep:∀b o,h.get? b=some o→H b=none→b∉fs→b∉ex→h'.get? b=some o
 slot:∀b o,h.get? b=some o→H b=none→b∈fs→b∉ex→∃sl,h'.get? b=some { o with slots:=sl }
 free:∀b o,h.get? b=some o→H b=none→b∉ex→H' b=none
 there:∀b o,h.get? b=some o→b∉ex→∃o',h'.get? b=some o'
 tups:∀b xs,H b=some (.tup xs)→H' b=some (.tup xs)
 frzs:∀b o u,H b=some (.frz o u)→H' b=some (.frz o u)
 tbls:∀b ps,H b=some (.tbl ps)→∃more,H' b=some (.tbl (ps++more))
section
variable {fs fs' ex ex':List Addr} {H H1 H2:Hp} {h h1 h2 h':Heap} {a x e:Addr} {o:HO}
theorem Un.any (u:Un fs ex H H1 h h1) {b:Addr} {ob:Obj} (q:h.get? b=some ob) (n:H b=none) (hx:b∉ex):∃sl,h1.get? b=some { ob with slots:=sl }:=by
 by_cases hb:b∈fs
 ·exact u.slot b ob q n hb hx
 ·exact⟨ob.slots,u.keep b ob q n hb hx⟩
theorem Un.kept (k:∀b u,h.get? b=some u→h'.get? b=some u):Un fs ex H H h h' :=
 ⟨λb ob q _ _ _=>k b ob q,λb ob q _ _ _=>⟨ob.slots,k b ob q⟩,λ_ _ _ n _=>n,λb ob q _=>⟨ob,k b ob q⟩,λ_ _ q=>q,λ_ _ _ q=>q,λ_ ps q=>⟨#[],by rw[q];simp⟩⟩
theorem Un.refl:Un fs ex H H h h:=Un.kept λ_ _ q=>q
theorem Un.laid (k:∀b u,h.get? b=some u→h'.get? b=some u) (hp:h.objs.size≤a) (hn:H a=none):Un fs ex H (upd H a o) h h' where
 keep:=λb u q _ _ _=>k b u q
 slot:=λb u q _ _ _=>⟨u.slots,k b u q⟩
 free:=λb u q n _=>by rw[upd_ne (Nat.ne_of_lt (Nat.lt_of_lt_of_le (Heap.lt_size q) hp))];exact n
 there:=λb u q _=>⟨u,k b u q⟩
 tups:=λb xs q=>by rw[upd_ne (ne_of_none q hn)];exact q
 frzs:=λb u xs q=>by rw[upd_ne (ne_of_none q hn)];exact q
 tbls:=λb ps q=>⟨#[],by rw[upd_ne (ne_of_none q hn),q];simp⟩
theorem Un.write (mu:Mut (H x)) (he:e=x∨H e=some (.own x)) (k:∀b u,b≠e→h.get? b=some u→h'.get? b=some u) (heo:∃u,h'.get? e=some u):Un fs ex H (upd H x o) h h':=by
 have hx:∀b,H b=none→b≠x:=λb n z=>by subst z;rw[n] at mu;exact mu
 have hb:∀b,H b=none→b≠e:=λb n z=>by
  subst z
  rcases he with r | r
  ·exact hx b n r
  ·rw[n] at r;cases r
 have hm:∀b u,H b=some u→¬Mut (some u)→b≠x:=λb u q nm z=>by subst z;rw[q] at mu;exact nm mu
 refine⟨λb u q n _ _=>k b u (hb b n) q,λb u q n _ _=>⟨u.slots,k b u (hb b n) q⟩,λb u q n _=>by rw[upd_ne (hx b n)];exact n,λb u q _=>?_,
  λb xs q=>by rw[upd_ne (hm b _ q λz=>z)];exact q,λb u xs q=>by rw[upd_ne (hm b _ q λz=>z)];exact q,λb ps q=>⟨#[],by rw[upd_ne (hm b _ q λz=>z),q];simp⟩⟩
 by_cases hbe:b=e
 ·subst hbe;exact heo
 ·exact⟨u,k b u hbe q⟩
end
noncomputable def trk (h:Heap) (H:Hp):List Addr:=(List.range h.objs.size).filter λa=>(H a).isSome
noncomputable def hidT (h:Heap) (H:Hp):Heap:=PySem.W.hideAll h (trk h H)
theorem hidT_size (h:Heap) (H:Hp):(hidT h H).objs.size=h.objs.size:=PySem.W.hideAll_size _ _
theorem hidT_get {h:Heap} {H:Hp} {b:Addr} {o:Obj} (e:h.get? b=some o) (n:H b=none):(hidT h H).get? b=some o :=
 PySem.W.hideAll_get _ e λhm=>by
  have q:(H b).isSome=true:=(List.mem_filter.mp hm).2
  rw[n] at q;simp at q
theorem of_hidT {h:Heap} {H:Hp} {b:Addr} {o:Obj} (e:(hidT h H).get? b=some o):h.get? b=some o∧H b=none:=by
 have e':h.get? b=some o:=PySem.W.of_hideAll (trk h H) e
 refine⟨e',?_⟩
 cases q:H b with
 | none=>rfl
 | some x =>
  have hm:b∈trk h H:=List.mem_filter.mpr ⟨List.mem_range.mpr (Heap.lt_size e'),by simp[q]⟩
  have z:(hidT h H).get? b=none:=PySem.W.hideAll_none (trk h H) hm
  rw[z] at e;cases e
set_option genInjectivity false in
structure Mod (K:PySem.W.Frag) (mg:Str→Option Value) (base:Heap):Prop where
 kin:K.In base
 glob:base.Ns mainGlobals mg
 blt:∃mb,base.Ns builtinsNs mb∧∀x:Str,x ≠ "__name__" → mb x=bootBuiltins x
 nolimit:base.NoLimit
set_option genInjectivity false in
structure Cx where
 prog:Program
 w:World
 K:PySem.W.Frag
 mg:Str→Option Value
 base:Heap
 A:Around
 N:List Str
 s₀:Shared
 H₀:Hp
 env:Env
 outer:List Env
 stack:List Env
 ex:List Addr
 fn:Str→Bool
 calm:Bool
 pn:List (Addr×Obj)
 xe:Value→Shared→Prop
noncomputable def frs (l:List Env):List Addr:=l.filterMap (·.frame)
noncomputable abbrev Cx.fs (X:Cx):List Addr:=frs X.outer
noncomputable def Vis (sc:Scope) (x:Str):Prop:=sc.names.lookup x=some .local∨sc.names.lookup x=some .cell∨sc.names.lookup x=some .free
noncomputable def Loc (sc:Scope) (x:Str):Prop:=sc.names.lookup x=some .local∨sc.names.lookup x=some .cell
noncomputable def Look (env:Env) (h:Heap) (m:Str→Option Value) (x:Str) (u:Value):Prop :=
 (env.kindOf x=some .local∧m x=some u)∨((env.kindOf x=some .cell∨env.kindOf x=some .free)∧∃c,env.cells.lookup x=some c∧h.IsCell c (some u))
set_option genInjectivity false in
structure Cx.Ok (X:Cx):Prop where
 mod:Mod X.K X.mg X.base
 kind:X.env.scope.kind=.function
 glob:X.env.globals=mainGlobals
 blt:X.env.builtins=builtinsNs
 above:X.s₀.heap.objs.size≤X.env.locals
 inj:∀x y c,X.env.cells.lookup x=some c→X.env.cells.lookup y=some c→x=y
 has:∀x,(X.env.kindOf x=some .cell∨X.env.kindOf x=some .free)→∃c,X.env.cells.lookup x=some c
 cab:∀x c,X.fn x=true→X.env.cells.lookup x=some c→X.s₀.heap.objs.size≤c
 hd:X.calm=true→X.A.handled=none
 frames:X.A.frames=some X.stack
 stk:X.stack=X.outer∨(X.stack=X.env::X.outer∧X.env.frame=some X.env.locals)
 exf:∀b∈X.ex,b≠X.env.locals∧∀x c,X.env.cells.lookup x=some c→c≠b
 bs:∀b o,X.base.get? b=some o→X.s₀.heap.get? b=some o∧X.H₀ b=none
 bsz:X.base.objs.size≤X.s₀.heap.objs.size
 noex:∀b o,X.base.get? b=some o→b∉X.ex
 exfs:∀b∈X.ex,b∉X.fs
 funs:X.s₀.heap.FunFrames X.base X.outer
 frf:∀b∈X.fs,X.H₀ b=none
set_option genInjectivity false in
structure Inv (X:Cx) (pins:List (Addr×Obj)) (σ:List (Option V)) (H:Hp) (s:Shared):Prop where
 ok:X.Ok
 os:s.os=X.s₀.os
 bare:AllBare s.gens
 base:Un X.fs X.ex X.H₀ H X.s₀.heap s.heap
 loc:∃m,s.heap.Ns X.env.locals m∧∀(i:Nat) (x:Str) (v:V),X.N[i]?=some x→σ[i]?=some (some v)→Vis X.env.scope x→∃u,RelV v u∧Look X.env s.heap m x u
 cell:∀x c,X.env.cells.lookup x=some c→∃v,s.heap.IsCell c v
 free:H X.env.locals=none
 freeC:∀x c,X.env.cells.lookup x=some c→H c=none
 pin:∀p∈X.pn++pins,s.heap.get? p.1=some p.2∧H p.1=none∧p.1≠X.env.locals∧p.1∉X.fs∧∀v,p.2.data≠.cell v
 hok:HOk X.prog X.w H s.heap
 len:σ.length=X.N.length
section
variable {X:Cx} {pins:List (Addr×Obj)} {σ:List (Option V)} {H H':Hp} {s:Shared} {h':Heap}
theorem Cx.Ok.nofr (ok:X.Ok) {b:Addr} {o:Obj} (e:X.base.get? b=some o):b∉X.fs:=λhb=>by
 have:=(ok.funs.mem hb).1
 rw[e] at this;cases this
theorem Inv.bs (I:Inv X pins σ H s):∀b o,X.base.get? b=some o→s.heap.get? b=some o∧H b=none:=λb o e =>
 ⟨I.base.keep b o (I.ok.bs b o e).1 (I.ok.bs b o e).2 (I.ok.nofr e) (I.ok.noex b o e),I.base.free b o (I.ok.bs b o e).1 (I.ok.bs b o e).2 (I.ok.noex b o e)⟩
theorem Inv.bk (I:Inv X pins σ H s):∀b o,X.base.get? b=some o→s.heap.get? b=some o:=λb o e=>(I.bs b o e).1
theorem Inv.mod (I:Inv X pins σ H s):Mod X.K X.mg X.base:=I.ok.mod
theorem Inv.kIn (I:Inv X pins σ H s):X.K.In s.heap:=I.ok.mod.kin.keeps I.bk
theorem Inv.lt (I:Inv X pins σ H s):X.env.locals < s.heap.objs.size:=let ⟨_,hn,_⟩:=I.loc;hn.lt
theorem Inv.sz (I:Inv X pins σ H s):X.s₀.heap.objs.size≤s.heap.objs.size:=Nat.le_trans I.ok.above (Nat.le_of_lt I.lt)
theorem Inv.nofs (I:Inv X pins σ H s) {a:Addr} (h:s.heap.objs.size≤a):a∉X.fs:=λhb=>by
 obtain⟨_,o,ho,_⟩:=I.ok.funs.mem hb
 exact absurd (Nat.lt_of_lt_of_le (Heap.lt_size ho) (Nat.le_trans I.sz h)) (Nat.lt_irrefl _)
theorem Inv.cne (I:Inv X pins σ H s):∀x c,X.env.cells.lookup x=some c→c≠X.env.locals:=λx c e z=>by
 obtain⟨v,o,ho,hd⟩:=I.cell x c e
 obtain⟨m,⟨o',es,ep,ho',hd',_⟩,_⟩:=I.loc
 rw[z,ho'] at ho;cases ho;rw[hd'] at hd;cases hd
theorem Inv.funs (I:Inv X pins σ H s):s.heap.FunFrames X.base X.outer:=by
 have all:∀(l:List Env),(∀b∈frs l,b∈X.fs)→X.s₀.heap.FunFrames X.base l→s.heap.FunFrames X.base l:=by
  intro l
  induction l with
  | nil=>intro _ _;trivial
  | cons env r ih =>
   intro hs hl
   obtain⟨hk,⟨L,o,hf,hn,ho,hd⟩,hr⟩:=hl
   have hL:L∈X.fs:=hs L (by unfold frs;rw[List.filterMap_cons,hf];exact List.mem_cons_self)
   obtain⟨sl,e⟩:=I.base.slot L o ho (I.ok.frf L hL) hL λz=>I.ok.exfs L z hL
   exact⟨hk,⟨L,_,hf,hn,e,hd⟩,ih (λb hb=>hs b (by unfold frs;rw[List.filterMap_cons,hf];exact List.mem_cons_of_mem _ hb)) hr⟩
 exact all X.outer (λ_ hb=>hb) I.ok.funs
theorem Inv.stack (I:Inv X pins σ H s):s.heap.FunFrames X.base X.stack:=by
 rcases I.ok.stk with e | ⟨e,hf⟩
 ·rw[e];exact I.funs
 ·rw[e]
  obtain⟨m,hn,_⟩:=I.loc
  refine .cons (by rw[I.ok.kind];decide) hf hn ?_ I.funs
  exact Heap.get?_none_of_le (Nat.le_trans I.ok.bsz I.ok.above)
theorem Inv.stkSub (I:Inv X pins σ H s):∀b∈frs X.stack,b∈X.env.locals::X.fs:=λb hb=>by
 rcases I.ok.stk with e | ⟨e,hf⟩
 ·rw[e] at hb;exact List.mem_cons_of_mem _ hb
 ·rw[e] at hb
  unfold frs at hb
  rw[List.filterMap_cons,hf] at hb
  exact hb
theorem Inv.stkFree (I:Inv X pins σ H s):∀b∈frs X.stack,H b=none:=λb hb=>by
 rcases List.mem_cons.mp (I.stkSub b hb) with e | hb
 ·rw[e];exact I.free
 ·obtain⟨_,o,ho,_⟩:=I.ok.funs.mem hb
  exact I.base.free b o ho (I.ok.frf b hb) λz=>I.ok.exfs b z hb
theorem Inv.step {g':Array GenState} {t':Nat} {d':Drawn} {ch:List Addr} (I:Inv X pins σ H s)
 (hch:∀b∈ch,(b∈X.ex∨X.s₀.heap.objs.size≤b)∧b≠X.env.locals∧(∀x c,X.env.cells.lookup x=some c→c≠b)∧∀p∈X.pn++pins,p.1≠b)
 (keep:∀b o,b≠X.env.locals→b∉X.fs→b∉ch→s.heap.get? b=some o→H b=none→h'.get? b=some o)
 (slot:∀b o,b≠X.env.locals→b∈X.fs→b∉ch→s.heap.get? b=some o→H b=none→∃sl,h'.get? b=some { o with slots:=sl }) (free:∀b o,b∉ch→s.heap.get? b=some o→H b=none→H' b=none)
 (there:∀b o,b∉ch→s.heap.get? b=some o→∃o',h'.get? b=some o')
 (tups:∀b xs,H b=some (.tup xs)→H' b=some (.tup xs)) (frzs:∀b o u,H b=some (.frz o u)→H' b=some (.frz o u)) (tbls:∀b ps,H b=some (.tbl ps)→∃more,H' b=some (.tbl (ps++more)))
 (ns:∀m,s.heap.Ns X.env.locals m→h'.Ns X.env.locals m) (hok:HOk X.prog X.w H' h') (hg:AllBare g') :
 Inv X pins σ H' { s with heap:=h',gens:=g',drawn:=d',toks:=t' }:=by
 have neL:∀b o,X.s₀.heap.get? b=some o→b≠X.env.locals:=λb o e=>Nat.ne_of_lt (Nat.lt_of_lt_of_le (Heap.lt_size e) I.ok.above)
 have neC:∀b o,X.s₀.heap.get? b=some o→b∉X.ex→b∉ch:=λb o e hx hb=>by
  rcases (hch b hb).1 with z | z
  ·exact hx z
  ·exact absurd (Nat.lt_of_lt_of_le (Heap.lt_size e) z) (Nat.lt_irrefl _)
 have cellK:∀x c,X.env.cells.lookup x=some c→∀v,s.heap.IsCell c v→h'.IsCell c v:=λx c e v ⟨o,ho,hd⟩=>by
  have nch:c∉ch:=λz=>(hch c z).2.2.1 x c e rfl
  by_cases hc:c∈X.fs
  ·obtain⟨sl,q⟩:=slot c o (I.cne x c e) hc nch ho (I.freeC x c e)
   exact⟨_,q,hd⟩
  ·exact⟨o,keep c o (I.cne x c e) hc nch ho (I.freeC x c e),hd⟩
 refine⟨I.ok,I.os,hg,⟨λb o e n hb hx=>?_,λb o e n hb hx=>?_,λb o e n hx=>?_,λb o e hx=>?_,λb xs e=>tups b xs (I.base.tups b xs e),λb o xs e=>frzs b o xs (I.base.frzs b o xs e),λb ps e=>?_⟩,?_,λx c e=>?_,?_,λx c e=>?_,λp hp=>?_,hok,I.len⟩
 ·exact keep b o (neL b o e) hb (neC b o e hx) (I.base.keep b o e n hb hx) (I.base.free b o e n hx)
 ·obtain⟨sl,e1⟩:=I.base.slot b o e n hb hx
  obtain⟨sl',e2⟩:=slot b _ (neL b o e) hb (neC b o e hx) e1 (I.base.free b o e n hx)
  exact⟨sl',e2⟩
 ·obtain⟨o',e1⟩:=I.base.there b o e hx
  exact free b o' (neC b o e hx) e1 (I.base.free b o e n hx)
 ·obtain⟨o',e1⟩:=I.base.there b o e hx
  exact there b o' (neC b o e hx) e1
 ·obtain⟨m1,e1⟩:=I.base.tbls b ps e
  obtain⟨m2,e2⟩:=tbls b _ e1
  exact⟨m1++m2,by rw[e2,Array.append_assoc]⟩
 ·obtain⟨m,hn,hl⟩:=I.loc
  refine⟨m,ns m hn,λi x v e1 e2 e3=>?_⟩
  obtain⟨u,r,l⟩:=hl i x v e1 e2 e3
  refine⟨u,r,?_⟩
  rcases l with l | ⟨k,c,e,z⟩
  ·exact .inl l
  ·exact .inr ⟨k,c,e,cellK x c e _ z⟩
 ·obtain⟨v,z⟩:=I.cell x c e
  exact⟨v,cellK x c e v z⟩
 ·obtain⟨m,⟨o,_,_,ho,_⟩,_⟩:=I.loc
  exact free _ o (λz=>(hch _ z).2.1 rfl) ho I.free
 ·obtain⟨v,o,ho,hd⟩:=I.cell x c e
  exact free c o (λz=>(hch c z).2.2.1 x c e rfl) ho (I.freeC x c e)
 ·obtain⟨e,n,ne,nf,d⟩:=I.pin p hp
  have nch:p.1∉ch:=λz=>(hch p.1 z).2.2.2 p hp rfl
  exact⟨keep p.1 p.2 ne nf nch e n,free p.1 p.2 nch e n,ne,nf,d⟩
theorem Inv.un {t':Nat} (I:Inv X pins σ H s) (u:Un X.fs [] H H' s.heap h') (hok:HOk X.prog X.w H' h'):Inv X pins σ H' { s with heap:=h',toks:=t' }:=by
 obtain⟨m,⟨o,es,ep,ho,r⟩,_⟩:=id I.loc
 obtain⟨sl,hL⟩:=u.any ho I.free (by simp)
 exact I.step (g':=s.gens) (d':=s.drawn) (ch:=[]) (λ_ z=>nomatch z) (λb o _ hb _ e n=>u.keep b o e n hb (by simp)) (λb o _ hb _ e n=>u.slot b o e n hb (by simp)) (λb o _ e n=>u.free b o e n (by simp)) (λb o _ e=>u.there b o e (by simp)) u.tups u.frzs u.tbls (λm' hm=>by
  obtain⟨o',es',ep',ho',r'⟩:=hm
  rw[ho] at ho';cases ho'
  exact⟨_,es',ep',hL,r'⟩) hok I.bare
theorem Inv.call {g':Array GenState} {t':Nat} {d':Drawn} {ch:List Addr} (I:Inv X pins σ H s) (u:Un (frs X.stack) ch H H' s.heap h') (hok:HOk X.prog X.w H' h') (hg:AllBare g')
 (hch:∀b∈ch,(b∈X.ex∨X.s₀.heap.objs.size≤b)∧b≠X.env.locals∧(∀x c,X.env.cells.lookup x=some c→c≠b)∧∀p∈X.pn++pins,p.1≠b) :
 Inv X pins σ H' { s with heap:=h',gens:=g',drawn:=d',toks:=t' }:=by
 obtain⟨m,⟨o,es,ep,ho,r⟩,_⟩:=id I.loc
 obtain⟨sl,hL⟩:=u.any ho I.free λz=>(hch _ z).2.1 rfl
 exact I.step (ch:=ch) hch (λb o hL hb hc e n=>u.keep b o e n (λz=>(List.mem_cons.mp (I.stkSub b z)).elim hL hb) hc) (λb o _ _ hc e n=>u.any e n hc) (λb o hc e n=>u.free b o e n hc) (λb o hc e=>u.there b o e hc) u.tups u.frzs u.tbls (λm' hm=>by
  obtain⟨o',es',ep',ho',r'⟩:=hm
  rw[ho] at ho';cases ho'
  exact⟨_,es',ep',hL,r'⟩) hok hg
theorem Inv.turned {t':Nat} {it:Addr} (I:Inv X pins σ H s) (k:∀b o,b≠it→s.heap.get? b=some o→h'.get? b=some o) (hn:H it=none) (hL:it≠X.env.locals)
 (h1:it∈X.ex∨X.s₀.heap.objs.size≤it) (h2:∀x c,X.env.cells.lookup x=some c→c≠it) (h3:∀p∈X.pn++pins,p.1≠it):Inv X pins σ H { s with heap:=h',toks:=t' }:=by
 have nit:∀b u,H b=some u→b≠it:=λb u e z=>by rw[z,hn] at e;cases e
 refine I.step (g':=s.gens) (d':=s.drawn) (ch:=[it]) (λb hb=>?_) (λb o _ _ hc e _=>k b o (λz=>hc (by simp[z])) e) (λb o _ _ hc e _=>⟨o.slots,k b o (λz=>hc (by simp[z])) e⟩) (λ_ _ _ _ n=>n)
  (λb o hc e=>⟨o,k b o (λz=>hc (by simp[z])) e⟩) (λ_ _ e=>e) (λ_ _ _ e=>e) (λb ps e=>⟨#[],by rw[e];simp⟩) (λm hm=>?_) (λb u e=>?_) I.bare
 ·have e:b=it:=by simpa using hb
  subst e
  exact⟨h1,hL,h2,h3⟩
 ·obtain⟨o,es,ep,ho,r⟩:=hm
  exact⟨o,es,ep,k _ o (Ne.symm hL) ho,r⟩
 ·refine (I.hok b u e).stay (λc v hc q=>k c v ?_ q) (λ_ q=>q) λ_ _ q=>q
  rcases hc with z | z
  ·rw[z];exact nit b u e
  ·exact nit c _ z
theorem Inv.tok (I:Inv X pins σ H s) (t:Nat):Inv X pins σ H { s with toks:=t }:=I.un (h':=s.heap) (t':=t) Un.refl I.hok
theorem Inv.kept {t':Nat} (I:Inv X pins σ H s) (k:∀b u,s.heap.get? b=some u→h'.get? b=some u):Inv X pins σ H { s with heap:=h',toks:=t' }:=I.un (Un.kept k) (I.hok.kept k)
theorem Inv.laid {a:Addr} {o:HO} {t':Nat} (I:Inv X pins σ H s) (k:∀b u,s.heap.get? b=some u→h'.get? b=some u) (hp:s.heap.objs.size≤a) (new:ObjOk X.prog X.w (upd H a o) h' a o) :
 Inv X pins σ (upd H a o) { s with heap:=h',toks:=t' }:=I.un (Un.laid k hp (I.hok.fresh hp)) (I.hok.laid k hp new)
theorem Inv.write {x e:Addr} {o:HO} {t':Nat} (I:Inv X pins σ H s) (mu:Mut (H x)) (he:e=x∨H e=some (.own x)) (k:∀b u,b≠e→s.heap.get? b=some u→h'.get? b=some u) (heo:∃u,h'.get? e=some u)
 (new:ObjOk X.prog X.w (upd H x o) h' x o):Inv X pins σ (upd H x o) { s with heap:=h',toks:=t' }:=I.un (Un.write mu he k heo) (I.hok.write mu he k heo new)
theorem Inv.pins_of {pins':List (Addr×Obj)} (I:Inv X pins σ H s) (h:∀p∈pins',s.heap.get? p.1=some p.2∧H p.1=none∧p.1≠X.env.locals∧p.1∉X.fs∧∀v,p.2.data≠.cell v):Inv X pins' σ H s :=
 ⟨I.ok,I.os,I.bare,I.base,I.loc,I.cell,I.free,I.freeC,λp hp=>(List.mem_append.mp hp).elim (λz=>I.pin p (List.mem_append_left _ z)) (h p),I.hok,I.len⟩
theorem nodup_ix {N:List Str} (hN:N.Nodup) {i j:Nat} {x:Str} (a:N[i]?=some x) (b:N[j]?=some x):i=j:=by
 obtain⟨h1,e1⟩:=List.getElem?_eq_some_iff.mp a
 obtain⟨h2,e2⟩:=List.getElem?_eq_some_iff.mp b
 exact (List.getElem_inj hN).mp (e1.trans e2.symm)
theorem store_ok2 {M:Model} {A:Around} {E:Value→Shared→Prop} {i:Nat} {x:Str} {v:V} {u:Value} {Q:Unit→Shared→Prop} (I:Inv X pins σ H s) (hN:X.N.Nodup) (hi:X.N[i]?=some x) (hx:Loc X.env.scope x) (r:RelV v u)
 (h:∀s',Inv X pins (σ.set i (some v)) H s'→(∃a,Heap.SameBut a s.heap s'.heap∧(a=X.env.locals∨X.env.cells.lookup x=some a))→Q () s') (hf:X.fn x=true∨X.env.scope.names.lookup x=some .local:=by first | exact .inl rfl | exact .inr rfl | assumption):wpAny M A (storeName X.env x u) Q E s:=by
 obtain⟨m,hn,hl⟩:=id I.loc
 have hcls:(X.env.scope.kind==.class||(X.env.scope.kind==.module&&X.env.locals != X.env.globals))=false:=by rw[I.ok.kind];rfl
 have hiσ:i < σ.length:=by rw[I.len];exact (List.getElem?_eq_some_iff.mp hi).1
 have cne:=I.cne
 have tracked:∀ {a:Addr} {h':Heap},(∃o,s.heap.get? a=some o∧H a=none)→Heap.SameBut a s.heap h'→HOk X.prog X.w H h':=λ{a h'} ha hs b ob e=>by
  obtain⟨_,_,hfree⟩:=ha
  refine (I.hok b ob e).stay (λc w' hc q=>(hs.2 c ?_).trans q) (λ_ q=>q) λ_ _ q=>q
  rintro rfl
  rcases hc with rfl | hc
  ·rw[hfree] at e;cases e
  ·rw[hfree] at hc;cases hc
 rcases hx with hk | hk
 ·refine wpAny_storeName_local hk hn (λh' hn' hs=>?_) hcls
  obtain⟨oL,_,_,hoL,_⟩:=id hn
  refine h _ ⟨I.ok,I.os,I.bare,⟨λb o e n hb hx=>?_,λb o e n hb hx=>?_,I.base.free,λb o e hx=>?_,I.base.tups,I.base.frzs,I.base.tbls⟩,⟨_,hn',λj y v' e1 e2 e3=>?_⟩,λy c e=>?_,I.free,I.freeC,λp hp=>?_,tracked ⟨oL,hoL,I.free⟩ hs,by simpa using I.len⟩ ⟨_,hs,.inl rfl⟩
  ·exact (hs.2 b (Nat.ne_of_lt (Nat.lt_of_lt_of_le (Heap.lt_size e) I.ok.above))).trans (I.base.keep b o e n hb hx)
  ·obtain⟨sl,e1⟩:=I.base.slot b o e n hb hx
   exact⟨sl,(hs.2 b (Nat.ne_of_lt (Nat.lt_of_lt_of_le (Heap.lt_size e) I.ok.above))).trans e1⟩
  ·obtain⟨o',e1⟩:=I.base.there b o e hx
   exact⟨o',(hs.2 b (Nat.ne_of_lt (Nat.lt_of_lt_of_le (Heap.lt_size e) I.ok.above))).trans e1⟩
  ·by_cases hj:j=i
   ·subst hj
    rw[hi] at e1;cases e1
    rw[List.getElem?_set_self hiσ] at e2
    cases e2
    exact⟨u,r,.inl ⟨hk,by simp⟩⟩
   ·rw[List.getElem?_set_ne (Ne.symm hj)] at e2
    obtain⟨u',r',q⟩:=hl j y v' e1 e2 e3
    refine⟨u',r',?_⟩
    rcases q with ⟨k,e⟩ | ⟨k,c,e,z⟩
    ·refine .inl ⟨k,?_⟩
     have:y≠x:=λe=>hj (nodup_ix hN e1 (e▸hi))
     simp[this,e]
    ·exact .inr ⟨k,c,e,z.sameBut hs (cne y c e)⟩
  ·obtain⟨w',z⟩:=I.cell y c e
   exact⟨w',z.sameBut hs (cne y c e)⟩
  ·obtain⟨e,n,ne,nf,d⟩:=I.pin p hp
   exact⟨(hs.2 p.1 ne).trans e,n,ne,nf,d⟩
 ·have hfn:X.fn x=true:=by
   rcases hf with z | z
   ·exact z
   ·rw[z] at hk;cases hk
  obtain⟨c,hc⟩:=I.ok.has x (.inl hk)
  obtain⟨w',z⟩:=I.cell x c hc
  refine wpAny_storeName_cell I.ok.kind hk hc z (λh' hc' hs=>?_)
  obtain⟨oc,hoc,hocd⟩:=id z
  refine h { s with heap:=h' } ⟨I.ok,I.os,I.bare,⟨λb o e n hb hx=>?_,λb o e n hb hx=>?_,I.base.free,λb o e hx=>?_,I.base.tups,I.base.frzs,I.base.tbls⟩,⟨m,hn.sameBut hs (Ne.symm (cne x c hc)),λj y v' e1 e2 e3=>?_⟩,λy c' e=>?_,I.free,I.freeC,λp hp=>?_,tracked ⟨oc,hoc,I.freeC x c hc⟩ hs,by simpa using I.len⟩ ⟨c,hs,.inr hc⟩
  ·exact (hs.2 b (Nat.ne_of_lt (Nat.lt_of_lt_of_le (Heap.lt_size e) (I.ok.cab x c hfn hc)))).trans (I.base.keep b o e n hb hx)
  ·obtain⟨sl,e1⟩:=I.base.slot b o e n hb hx
   exact⟨sl,(hs.2 b (Nat.ne_of_lt (Nat.lt_of_lt_of_le (Heap.lt_size e) (I.ok.cab x c hfn hc)))).trans e1⟩
  ·obtain⟨o',e1⟩:=I.base.there b o e hx
   exact⟨o',(hs.2 b (Nat.ne_of_lt (Nat.lt_of_lt_of_le (Heap.lt_size e) (I.ok.cab x c hfn hc)))).trans e1⟩
  ·by_cases hj:j=i
   ·subst hj
    rw[hi] at e1;cases e1
    rw[List.getElem?_set_self hiσ] at e2
    cases e2
    exact⟨u,r,.inr ⟨.inl hk,c,hc,hc'⟩⟩
   ·rw[List.getElem?_set_ne (Ne.symm hj)] at e2
    obtain⟨u',r',q⟩:=hl j y v' e1 e2 e3
    refine⟨u',r',?_⟩
    rcases q with q | ⟨k,c',e,z'⟩
    ·exact .inl q
    ·refine .inr ⟨k,c',e,z'.sameBut hs ?_⟩
     rintro rfl
     exact hj (nodup_ix hN e1 (I.ok.inj _ _ _ e hc▸hi))
  ·by_cases hcc:c'=c
   ·subst hcc;exact⟨_,hc'⟩
   ·obtain⟨w2,z2⟩:=I.cell y c' e
    exact⟨w2,z2.sameBut hs hcc⟩
  ·obtain⟨e,n,ne,nf,d⟩:=I.pin p hp
   refine⟨(hs.2 p.1 ?_).trans e,n,ne,nf,d⟩
   intro q
   rw[q,hoc] at e
   have q':oc=p.2:=Option.some.inj e
   exact d w' (by rw[←q'];exact hocd)
theorem store_ok {M:Model} {A:Around} {E:Value→Shared→Prop} {i:Nat} {x:Str} {v:V} {u:Value} {Q:Unit→Shared→Prop} (I:Inv X pins σ H s) (hN:X.N.Nodup) (hi:X.N[i]?=some x) (hx:Loc X.env.scope x) (r:RelV v u)
 (h:∀s',Inv X pins (σ.set i (some v)) H s'→Q () s') (hf:X.fn x=true∨X.env.scope.names.lookup x=some .local:=by first | exact .inl rfl | exact .inr rfl | assumption):wpAny M A (storeName X.env x u) Q E s :=
 store_ok2 I hN hi hx r (λs' I' _=>h s' I') hf
theorem Inv.call' {s':Shared} {ch:List Addr} (I:Inv X pins σ H s) (ho:s'.os=s.os) (u:Un (frs X.stack) ch H H' s.heap s'.heap) (hok:HOk X.prog X.w H' s'.heap) (hg:AllBare s'.gens)
 (hch:∀b∈ch,(b∈X.ex∨X.s₀.heap.objs.size≤b)∧b≠X.env.locals∧(∀x c,X.env.cells.lookup x=some c→c≠b)∧∀p∈X.pn++pins,p.1≠b):Inv X pins σ H' s':=by
 obtain⟨h',g',d',t',o'⟩:=s'
 have e:o'=s.os:=ho
 subst e
 exact I.call (g':=g') (t':=t') (d':=d') u hok hg hch
end
noncomputable abbrev XK:=Value→Option Addr→Hp→Prop
noncomputable abbrev St:=List (Option V)
noncomputable abbrev VK:=V→Hp→Prop
noncomputable abbrev TE:=St→Hp→VK→Prop
noncomputable abbrev TT:=St→Hp→(Bool→Hp→Prop)→Prop
noncomputable abbrev TA:=St→Hp→(List V→Hp→Prop)→Prop
set_option genInjectivity false in
structure Ends where
 nx:St→Hp→Prop
 rt:VK
 bk:St→Hp→Prop:=λ_ _=>False
 ct:St→Hp→Prop:=λ_ _=>False
noncomputable abbrev TS:=Ends→St→Hp→Prop
noncomputable def EP (X:Cx) (pins:List (Addr×Obj)) (σ:St) (Q:VK) (u:Value) (s':Shared):Prop:=∃v H',Inv X pins σ H' s'∧RelV v u∧Q v H'
noncomputable def TP (X:Cx) (pins:List (Addr×Obj)) (σ:St) (Q:Bool→Hp→Prop) (b:Bool) (s':Shared):Prop:=∃H',Inv X pins σ H' s'∧Q b H'
noncomputable def AP (X:Cx) (pins:List (Addr×Obj)) (σ:St) (Q:List V→Hp→Prop) (us:List Value) (s':Shared):Prop:=∃vs H',Inv X pins σ H' s'∧Vals vs us∧Q vs H'
noncomputable def SP (X:Cx) (pins:List (Addr×Obj)) (D:Ends) (f:Flow) (s':Shared):Prop :=
 match f with
 | .next=>∃σ' H',Inv X pins σ' H' s'∧D.nx σ' H'
 | .brk=>∃σ' H',Inv X pins σ' H' s'∧D.bk σ' H'
 | .cont=>∃σ' H',Inv X pins σ' H' s'∧D.ct σ' H'
 | .ret u=>∃v σ' H',Inv X pins σ' H' s'∧RelV v u∧D.rt v H'
noncomputable def PE (X:Cx) (e:Expr) (t:TE):Prop :=
 ∀(pins:List (Addr×Obj)) (s:Shared) (σ:St) (H:Hp) (Q:VK),Inv X pins σ H s→t σ H Q→wpAny (model X.prog X.w) X.A (eval e X.env) (EP X pins σ Q) X.xe s
noncomputable def PT (X:Cx) (e:Expr) (t:TT):Prop :=
 ∀(pins:List (Addr×Obj)) (s:Shared) (σ:St) (H:Hp) (Q:Bool→Hp→Prop),Inv X pins σ H s→t σ H Q→wpAny (model X.prog X.w) X.A (isTrue e X.env (eval e X.env)) (TP X pins σ Q) X.xe s
noncomputable def PW (X:Cx) (e:Expr) (t:TT):Prop :=
 ∀(whole:Sem Value) (pins:List (Addr×Obj)) (s:Shared) (σ:St) (H:Hp) (Q:Bool→Hp→Prop),Inv X pins σ H s→t σ H Q→wpAny (model X.prog X.w) X.A (isTrue e X.env whole) (TP X pins σ Q) X.xe s
theorem PW.pt {X:Cx} {e:Expr} {t:TT} (h:PW X e t):PT X e t:=h _
noncomputable def PA (X:Cx) (es:List Expr) (t:TA):Prop :=
 ∀(pos:Pos) (pins:List (Addr×Obj)) (s:Shared) (σ:St) (H:Hp) (Q:List V→Hp→Prop),Inv X pins σ H s→t σ H Q→wpAny (model X.prog X.w) X.A (spliced (backTo pos (starEach es X.env))) (AP X pins σ Q) X.xe s
noncomputable def PS (X:Cx) (st:Stmt) (t:TS):Prop :=
 ∀(pins:List (Addr×Obj)) (s:Shared) (σ:St) (H:Hp) (D:Ends),Inv X pins σ H s→t D σ H→wpAny (model X.prog X.w) X.A (exec st X.env) (SP X pins D) X.xe s
noncomputable def PSs (X:Cx) (st:List Stmt) (t:TS):Prop :=
 ∀(pins:List (Addr×Obj)) (s:Shared) (σ:St) (H:Hp) (D:Ends),Inv X pins σ H s→t D σ H→wpAny (model X.prog X.w) X.A (execs st X.env) (SP X pins D) X.xe s
theorem thn {α:Type} {t:Sem α} {Q Q':α→Shared→Prop} {M:Model} {A:Around} {E:Value→Shared→Prop} {s:Shared} (h:wpAny M A t Q E s) (hQ:∀a s,Q a s→Q' a s):wpAny M A t Q' E s:=wpAny_mono h hQ λ_ _ x=>x
section
variable {X:Cx}
theorem bin {a b:Expr} {ta tb:TE} (ha:PE X a ta) (hb:PE X b tb) {pins:List (Addr×Obj)} {s:Shared} {σ:St} {H:Hp} {R:V→V→Hp→Prop} (I:Inv X pins σ H s) (h:ta σ H λx H1=>tb σ H1 λy H2=>R x y H2)
 {α:Type} {Q:α→Shared→Prop} {f:Value→Value→Sem α}
 (hf:∀v u s2 x y H2,Inv X pins σ H2 s2→RelV x v→RelV y u→R x y H2→wpAny (model X.prog X.w) X.A (f v u) Q X.xe s2) :
 wpAny (model X.prog X.w) X.A (eval a X.env) (λv s₁=>wpAny (model X.prog X.w) X.A (eval b X.env) (λu s₂=>wpAny (model X.prog X.w) X.A (f v u) Q X.xe s₂) X.xe s₁) X.xe s:=by
 refine thn (ha pins s σ H _ I h) λv s1 ⟨x,H1,I1,r1,q1⟩=>?_
 refine thn (hb pins s1 σ H1 _ I1 q1) λu s2 ⟨y,H2,I2,r2,q2⟩=>?_
 exact hf v u s2 x y H2 I2 r1 r2 q2
noncomputable def tVar (i:Nat):TE:=λσ H Q=>∃v,σ[i]?=some (some v)∧Q v H
noncomputable def tC (v:V):TE:=λ_ H Q=>Q v H
theorem pe_var {i:Nat} {x:Str} {pos:Pos} (hN:X.N[i]?=some x) (hv:Vis X.env.scope x) (hd:(x==("__debug__" : Str))=false:=by decide) (hcd:(x==("__classdict__" : Str))=false:=by decide):PE X (.Name x pos) (tVar i):=by
 intro pins s σ H Q I h
 obtain⟨v,e,h⟩:=h
 obtain⟨m,hn,hl⟩:=I.loc
 obtain⟨u,r,l⟩:=hl i x v hN e hv
 have fin:EP X pins σ Q u s:=⟨v,H,I,r,h⟩
 rcases l with ⟨hk,hm⟩ | ⟨hk,c,hc,hcell⟩
 ·exact wpAny_Name (wpAny_loadName_local I.ok.kind hk hn hm fin) hd
 ·rcases hk with hk | hk
  ·exact wpAny_Name (wpAny_loadName_cell I.ok.kind hk hc hcell fin) hd
  ·exact wpAny_Name (wpAny_loadName_free I.ok.kind hk hc hcell fin hcd) hd
theorem pe_int {i j pos}:PE X (.Constant (.int i) j pos) (tC (.int i)):=λ_ _ _ H _ I h=>wpAny_Constant_int ⟨.int i,H,I.tok _,⟨_,rfl⟩,h⟩
theorem pe_bl {b j pos}:PE X (.Constant (.bool b) j pos) (tC (.bl b)):=λ_ _ _ H _ I h=>Constant_bool ⟨.bl b,H,I,rfl,h⟩
theorem pe_non {j pos}:PE X (.Constant .none j pos) (tC .non):=λ_ _ _ H _ I h=>Constant_none ⟨.non,H,I,rfl,h⟩
theorem pe_str {x j pos}:PE X (.Constant (.str x) j pos) (tC (.str x)):=λ_ _ _ H _ I h=>Calls.Constant_str ⟨.str x,H,I.tok _,⟨_,rfl⟩,h⟩
noncomputable def Gl (X:Cx) (x:Str):Prop:=X.env.kindOf x=some .globalImplicit
theorem ld_glob {E:Value→Shared→Prop} {pins:List (Addr×Obj)} {s:Shared} {σ:St} {H:Hp} {x:Str} {u:Value} {pos:Pos} {Q:Value→Shared→Prop} (I:Inv X pins σ H s) (hg:Gl X x) (hm:X.mg x=some u) (h:Q u s)
 (hd:(x==("__debug__" : Str))=false:=by decide):wpAny (model X.prog X.w) X.A (eval (.Name x pos) X.env) Q E s :=
 Calls.Name_function_global I.ok.kind hg (Calls.loadGlobal_global (by rw[I.ok.glob];exact I.mod.glob.keeps I.bk) hm h) hd
theorem ld_blt {E:Value→Shared→Prop} {pins:List (Addr×Obj)} {s:Shared} {σ:St} {H:Hp} {x:Str} {u:Value} {pos:Pos} {Q:Value→Shared→Prop} (I:Inv X pins σ H s) (hg:Gl X x) (hm:X.mg x=none) (hv:bootBuiltins x=some u) (h:Q u s)
 (hn:x ≠ "__name__" := by decide) (hd:(x==("__debug__" : Str))=false:=by decide):wpAny (model X.prog X.w) X.A (eval (.Name x pos) X.env) Q E s:=by
 obtain⟨mb,h1,h2⟩:=I.mod.blt
 exact Calls.Name_function_global I.ok.kind hg (Calls.loadGlobal_builtin (by rw[I.ok.glob];exact I.mod.glob.keeps I.bk) hm (by rw[I.ok.blt];exact h1.keeps I.bk) ((h2 x hn).trans hv) h) hd
theorem pe_glob {x:Str} {v:V} {u:Value} {pos:Pos} (hg:Gl X x) (hm:X.mg x=some u) (r:RelV v u) (hd:(x==("__debug__" : Str))=false:=by decide):PE X (.Name x pos) (tC v) :=
 λ_ _ _ H _ I h=>ld_glob I hg hm ⟨v,H,I,r,h⟩ hd
variable {a b:Expr} {ta tb:TE} {pos:Pos}
variable {tA tB':TT} {rest:List Expr}
noncomputable def tAnd (t u:TT):TT:=λσ H Q=>t σ H λc H1=>if c=true then u σ H1 Q else Q false H1
noncomputable def tOr (t u:TT):TT:=λσ H Q=>t σ H λc H1=>if c=true then Q true H1 else u σ H1 Q
noncomputable def tNot (t:TT):TT:=λσ H Q=>t σ H λc H1=>Q (!c) H1
theorem pw_and1 (ha:PT X a tA):PW X (.BoolOp .And [a] pos) tA:=by
 intro wh pins s σ H Q I h
 refine isTrue_and (thn (ha pins s σ H Q I h) λc s1 e=>?_)
 cases c with
 | true=>exact isTrue_and_nil e
 | false=>exact e
theorem pw_or1 (ha:PT X a tA):PW X (.BoolOp .Or [a] pos) tA:=by
 intro wh pins s σ H Q I h
 refine isTrue_or (thn (ha pins s σ H Q I h) λc s1 e=>?_)
 cases c with
 | false=>exact isTrue_or_nil e
 | true=>exact e
theorem pw_and (ha:PT X a tA) (hb:PW X (.BoolOp .And (b::rest) pos) tB'):PW X (.BoolOp .And (a::b::rest) pos) (tAnd tA tB'):=by
 intro wh pins s σ H Q I h
 refine isTrue_and (thn (ha pins s σ H _ I h) λc s1 ⟨H1,I1,q1⟩=>?_)
 cases c with
 | true=>exact hb wh pins s1 σ H1 Q I1 q1
 | false=>exact⟨H1,I1,q1⟩
theorem pw_or (ha:PT X a tA) (hb:PW X (.BoolOp .Or (b::rest) pos) tB'):PW X (.BoolOp .Or (a::b::rest) pos) (tOr tA tB'):=by
 intro wh pins s σ H Q I h
 refine isTrue_or (thn (ha pins s σ H _ I h) λc s1 ⟨H1,I1,q1⟩=>?_)
 cases c with
 | true=>exact⟨H1,I1,q1⟩
 | false=>exact hb wh pins s1 σ H1 Q I1 q1
theorem pt_not (ha:PT X a tA):PT X (.UnaryOp .Not a pos) (tNot tA):=by
 intro pins s σ H Q I h
 exact isTrue_not (ha pins s σ H (λc H1=>Q (!c) H1) I h)
theorem pe_one {op} {t:TE} (h:PE X a t):PE X (.BoolOp op [a] pos) t:=λpins s σ H Q I hw=>BoolOp_one (h pins s σ H Q I hw)
noncomputable def tIf (t:TT) (ta tb:TE):TE:=λσ H Q=>t σ H λc H1=>if c=true then ta σ H1 Q else tb σ H1 Q
theorem pe_ifExp {c:Expr} (hc:PT X c tA) (ha:PE X a ta) (hb:PE X b tb):PE X (.IfExp c a b pos) (tIf tA ta tb):=by
 intro pins s σ H Q I h
 refine wpAny_IfExp (thn (hc pins s σ H _ I h) λd s1 ⟨H1,I1,q1⟩=>?_)
 cases d with
 | true=>exact ha pins s1 σ H1 Q I1 q1
 | false=>exact hb pins s1 σ H1 Q I1 q1
end
noncomputable def SqL (K:PySem.W.Frag) (H:Hp) (a:Addr) (xs:List V):Prop :=
 Rd H a (.lst xs) ∨
  ∃(o:Obj) (its:Array Value) (n:Nat),K.lookup a=some o∧o.cls=.type "list" ∧ o.dict=none∧o.data=.seq its n∧its.size≤sizeLine∧Vals xs its.toList
noncomputable def SqT (K:PySem.W.Frag) (H:Hp) (a:Addr) (xs:List V):Prop :=
 Rd H a (.tup xs) ∨
  ∃(o:Obj) (its:Array Value) (n:Nat),K.lookup a=some o∧o.cls=.type "tuple" ∧ o.data=.seq its n∧its.size≤sizeLine∧Vals xs its.toList
noncomputable def absV:Value→Option V
 | .none=>some .non
 | .bool b=>some (.bl b)
 | .int i _=>some (.int i)
 | .str x _=>some (.str x)
 | .bytes b _=>some (.byt b)
 | .float b _=>some (.flt b)
 | .ref a=>some (.ref a)
 | .type n=>some (.ty n)
 | _=>none
theorem RelV.abs {x:V} {u:Value} (r:RelV x u):absV u=some x:=by
 cases x with
 | non=>cases r;rfl
 | bl _=>cases r;rfl
 | int _=>obtain⟨t,rfl⟩:=r;rfl
 | str _=>obtain⟨t,rfl⟩:=r;rfl
 | byt _=>obtain⟨t,rfl⟩:=r;rfl
 | flt _=>obtain⟨t,rfl⟩:=r;rfl
 | ref _=>cases r;rfl
 | ty _=>cases r;rfl
theorem RelV.inj {x y:V} {u:Value} (r:RelV x u) (q:RelV y u):x=y:=Option.some.inj (r.abs.symm.trans q.abs)
theorem Vals.inj:∀ {xs ys:List V} {us:List Value},Vals xs us→Vals ys us→xs=ys
 | _,_,_,.nil,.nil=>rfl
 | _,_,_,.cons r t,.cons r' t'=>by rw[r.inj r',Vals.inj t t']
section
variable {X:Cx} {pins:List (Addr×Obj)} {σ:St} {H:Hp} {s:Shared} {a:Addr} {xs ys:List V}
theorem SqL.of {K:PySem.W.Frag} (h:H a=some (.lst xs)):SqL K H a xs:=.inl (.inl h)
theorem Inv.list (I:Inv X pins σ H s) (h:SqL X.K H a xs):∃its:List Value,Vals xs its∧PlainL s.heap a its.toArray∧xs.length≤sizeLine:=by
 rcases h with h | ⟨o,its,n,hk,hc,hd,hs,hz,r⟩
 ·obtain⟨z,its,n,r,e⟩:=h.ok I.hok
  exact⟨its,r,⟨_,n,e,rfl,rfl,rfl⟩,z⟩
 ·refine⟨its.toList,r,⟨o,n,I.kIn a o hk,hc,hd,by simpa using hs⟩,?_⟩
  have e:=r.length
  simp only[Array.length_toList] at e
  lia
theorem Inv.tuple (I:Inv X pins σ H s) (h:SqT X.K H a xs):∃its:List Value,Vals xs its∧IsTup s.heap a its.toArray∧xs.length≤sizeLine:=by
 rcases h with h | ⟨o,its,n,hk,hc,hs,hz,r⟩
 ·obtain⟨z,its,r,p⟩:=h.ok I.hok
  exact⟨its,r,p,z⟩
 ·refine⟨its.toList,r,⟨o,I.kIn a o hk,hc,n,by simpa using hs⟩,?_⟩
  have e:=r.length
  simp only[Array.length_toList] at e
  lia
theorem Inv.list_inj (I:Inv X pins σ H s) (h:SqL X.K H a xs) (h':SqL X.K H a ys):xs=ys:=by
 obtain⟨its,r,⟨o,n,e,_,_,d⟩,_⟩:=I.list h
 obtain⟨its',r',⟨o',n',e',_,_,d'⟩,_⟩:=I.list h'
 rw[e] at e';cases e'
 rw[d] at d'
 injection d' with d1 _
 have:its=its':=by simpa using congrArg Array.toList d1
 subst this
 exact r.inj r'
theorem Inv.tuple_inj (I:Inv X pins σ H s) (h:SqT X.K H a xs) (h':SqT X.K H a ys):xs=ys:=by
 obtain⟨its,r,⟨o,e,_,n,d⟩,_⟩:=I.tuple h
 obtain⟨its',r',⟨o',e',_,n',d'⟩,_⟩:=I.tuple h'
 rw[e] at e';cases e'
 rw[d] at d'
 injection d' with d1 _
 have:its=its':=by simpa using congrArg Array.toList d1
 subst this
 exact r.inj r'
end
noncomputable abbrev Cx.wish (X:Cx) (E:Value→Shared→Prop):Cx:={ X with xe:=E }
noncomputable abbrev Cx.nox (X:Cx):Cx:=X.wish λ_ _=>False
theorem Cx.Ok.wish {X:Cx} (ok:X.Ok) (E:Value→Shared→Prop):(X.wish E).Ok :=
 ⟨ok.mod,ok.kind,ok.glob,ok.blt,ok.above,ok.inj,ok.has,ok.cab,ok.hd,ok.frames,ok.stk,ok.exf,ok.bs,ok.bsz,ok.noex,ok.exfs,ok.funs,ok.frf⟩
theorem Cx.Ok.unwish {X:Cx} {E:Value→Shared→Prop} (ok:(X.wish E).Ok):X.Ok :=
 ⟨ok.mod,ok.kind,ok.glob,ok.blt,ok.above,ok.inj,ok.has,ok.cab,ok.hd,ok.frames,ok.stk,ok.exf,ok.bs,ok.bsz,ok.noex,ok.exfs,ok.funs,ok.frf⟩
section
variable {X:Cx} {pins:List (Addr×Obj)} {σ:St} {H:Hp} {s:Shared} {E:Value→Shared→Prop}
theorem Inv.wish (I:Inv X pins σ H s) (E:Value→Shared→Prop):Inv (X.wish E) pins σ H s:=⟨I.ok.wish E,I.os,I.bare,I.base,I.loc,I.cell,I.free,I.freeC,I.pin,I.hok,I.len⟩
theorem Inv.unwish (I:Inv (X.wish E) pins σ H s):Inv X pins σ H s:=⟨I.ok.unwish,I.os,I.bare,I.base,I.loc,I.cell,I.free,I.freeC,I.pin,I.hok,I.len⟩
theorem SP.unwish {D:Ends} {f:Flow} {s':Shared} (h:SP (X.wish E) pins D f s'):SP X pins D f s':=by
 cases f with
 | next=>obtain⟨σ',H',I,q⟩:=h;exact⟨σ',H',I.unwish,q⟩
 | brk=>obtain⟨σ',H',I,q⟩:=h;exact⟨σ',H',I.unwish,q⟩
 | cont=>obtain⟨σ',H',I,q⟩:=h;exact⟨σ',H',I.unwish,q⟩
 | ret u=>obtain⟨v,σ',H',I,r,q⟩:=h;exact⟨v,σ',H',I.unwish,r,q⟩
theorem PSs.nox {st:List Stmt} {t:TS} (h:PSs X.nox st t):PSs X st t:=λpins s σ H D I hw =>
 wpAny_mono (h pins s σ H D (I.wish _) hw) (λ_ _ q=>q.unwish) λ_ _ z=>False.elim z
end
section
variable {X:Cx} {st:Stmt} {rest:List Stmt} {t u:TS} {e:Expr} {te:TE} {pos:Pos}
noncomputable def tNext:TS:=λD σ H=>D.nx σ H
noncomputable def tSeq (t u:TS):TS:=λD σ H=>t { D with nx:=u D } σ H
theorem pss_nil:PSs X [] tNext:=λ_ _ σ H _ I h=>wpAny_execs_nil ⟨σ,H,I,h⟩
theorem pss_cons (h1:PS X st t) (h2:PSs X rest u):PSs X (st::rest) (tSeq t u):=by
 intro pins s σ H D I h
 refine wpAny_execs_cons (thn (h1 pins s σ H { D with nx:=u D } I h) λf s1 q=>?_)
 cases f with
 | next =>
  obtain⟨σ',H',I',q⟩:=q
  exact h2 pins s1 σ' H' D I' q
 | ret v=>exact q
 | brk=>exact q
 | cont=>exact q
theorem Inv.quiet {pins:List (Addr×Obj)} {σ:St} {H:Hp} {s:Shared} (I:Inv X pins σ H s):interactive X.env=false:=by simp[interactive,I.ok.kind]
noncomputable def tDrop (te:TE):TS:=λD σ H=>te σ H λ_ H1=>D.nx σ H1
theorem ps_expr (he:PE X e te) (hs:swapsWith e none pos.line X.env=pure false:=by rfl):PS X (.Expr e pos) (tDrop te):=by
 intro pins s σ H D I h
 exact wpAny_Expr_any (thn (he pins s σ H _ I h) λv s1 ⟨x,H1,I1,r1,q1⟩=>⟨σ,H1,I1,q1⟩) I.quiet hs
noncomputable def tRet (te:TE):TS:=λD σ H=>te σ H D.rt
theorem ps_ret (he:PE X e te):PS X (.Return (some e) pos) (tRet te):=by
 intro pins s σ H D I h
 exact wpAny_Return_some (thn (he pins s σ H _ I h) λv s1 ⟨x,H1,I1,r1,q1⟩=>⟨x,σ,H1,I1,r1,q1⟩)
noncomputable def tIfS (c:TT) (t u:TS):TS:=λD σ H=>c σ H λb H1=>if b=true then t D σ H1 else u D σ H1
theorem ps_if {c:Expr} {a b:List Stmt} {tc:TT} (hc:PT X c tc) (ha:PSs X a t) (hb:PSs X b u):PS X (.If c a b pos) (tIfS tc t u):=by
 intro pins s σ H D I h
 refine wpAny_If (thn (hc pins s σ H _ I h) λd s1 ⟨H1,I1,q1⟩=>?_)
 cases d with
 | true=>exact ha pins s1 σ H1 D I1 q1
 | false=>exact hb pins s1 σ H1 D I1 q1
noncomputable def tNever:TS:=λ_ _ _=>False
theorem ps_never:PS X st tNever:=λ_ _ _ _ _ _ h=>h.elim
end
noncomputable abbrev TG:=V→St→Hp→(St→Hp→Prop)→Prop
noncomputable abbrev TGs:=List V→St→Hp→(St→Hp→Prop)→Prop
noncomputable def PG (X:Cx) (target:Expr) (t:TG):Prop :=
 ∀(pins:List (Addr×Obj)) (s:Shared) (σ:St) (H:Hp) (v:V) (u:Value) (Q:St→Hp→Prop),Inv X pins σ H s→RelV v u→t v σ H Q →
  wpAny (model X.prog X.w) X.A (assign target X.env u) (λ_ s'=>∃σ' H',Inv X pins σ' H' s'∧Q σ' H') X.xe s
noncomputable def PGs (X:Cx) (ts:List Expr) (t:TGs):Prop :=
 ∀(pins:List (Addr×Obj)) (s:Shared) (σ:St) (H:Hp) (vs:List V) (us:List Value) (Q:St→Hp→Prop),Inv X pins σ H s→Vals vs us→t vs σ H Q →
  wpAny (model X.prog X.w) X.A (assignInOrder ((assignEach ts X.env).map (·.2)) us) (λ_ s'=>∃σ' H',Inv X pins σ' H' s'∧Q σ' H') X.xe s
section
variable {X:Cx} {pos:Pos}
noncomputable def gName (i:Nat):TG:=λv σ H Q=>Q (σ.set i (some v)) H
theorem pg_name {i:Nat} {x:Str} (hN:X.N.Nodup) (hi:X.N[i]?=some x) (hx:Loc X.env.scope x) (hf:X.fn x=true∨X.env.scope.names.lookup x=some .local:=by first | exact .inl rfl | exact .inr rfl | assumption):PG X (.Name x pos) (gName i):=by
 intro pins s σ H v u Q I r h
 exact wpAny_assign_Name (store_ok I hN hi hx r (λs' I'=>⟨_,H,I',h⟩) hf)
noncomputable def gNil:TGs:=λvs σ H Q=>vs=[]∧Q σ H
noncomputable def gCons (t:TG) (u:TGs):TGs:=λvs σ H Q=>∃v r,vs=v::r∧t v σ H λσ' H'=>u r σ' H' Q
theorem pgs_nil:PGs X [] gNil:=by
 intro pins s σ H vs us Q I r h
 obtain⟨e,h⟩:=h
 subst e
 cases r
 exact assignInOrder_nil ⟨σ,H,I,h⟩
theorem pgs_cons {e:Expr} {es:List Expr} {t:TG} {u:TGs} (h1:PG X e t) (h2:PGs X es u)
 (hs:(assignEach (e::es) X.env).map (·.2)=assign e X.env::(assignEach es X.env).map (·.2):=by rfl):PGs X (e::es) (gCons t u):=by
 intro pins s σ H vs us Q I r h
 obtain⟨v,vr,e1,h⟩:=h
 subst e1
 cases r with
 | cons r rr =>
  rw[hs]
  refine assignInOrder_cons (thn (h1 pins s σ H _ _ _ I r h) λ_ s1 ⟨σ1,H1,I1,q1⟩=>?_)
  exact h2 pins s1 σ1 H1 _ _ Q I1 rr q1
noncomputable def gTup (K:PySem.W.Frag) (n:Nat) (t:TGs):TG:=λv σ H Q=>∃a xs,v=.ref a∧SqT K H a xs∧xs.length=n∧t xs σ H Q
theorem pg_tup {es:List Expr} {k:Nat} {t:TGs} {n:Nat} (hc:X.calm=true) (h:PGs X es t)
 (hn:(assignEach es X.env).length=n:=by rfl) (hst:(assignEach es X.env).findIdx? (·.1)=none:=by rfl):PG X (.Tuple es k pos) (gTup X.K n t):=by
 intro pins s σ H v u Q I r hw
 obtain⟨a,xs,e1,hq,hl,hw⟩:=hw
 subst e1
 cases r
 obtain⟨its,rv,ht,hz⟩:=I.tuple hq
 refine assign_Tuple_tuple (I.ok.hd hc) ht (by simp[hn,←hl,rv.length]) hst λh' hx=>?_
 have I1:Inv X pins σ H { s with heap:=h' }:=I.kept (t':=s.toks) λb o e=>hx b o (Nat.ne_of_lt (Heap.lt_size e)) e
 exact h pins _ σ H xs _ Q I1 (by simpa using rv) hw
noncomputable def tAsg (te:TE) (g:TG):TS:=λD σ H=>te σ H λx H1=>g x σ H1 D.nx
theorem ps_asg {tg e:Expr} {te:TE} {g:TG} (he:PE X e te) (hg:PG X tg g) (hs:swapsWithSole [tg] e pos.line X.env=pure false:=by rfl) (hw:swappedStores [tg] e X.env=pure none:=by rfl)
 (h1:(assignEach [tg] X.env).map (·.2)=[assign tg X.env]:=by rfl):PS X (.Assign [tg] e pos) (tAsg te g):=by
 intro pins s σ H D I h
 refine wpAny_Assign_stores (thn (he pins s σ H _ I h) λv s1 ⟨x,H1,I1,r1,q1⟩=>?_) hs hw
 rw[h1]
 exact thn (hg pins s1 σ H1 x v _ I1 r1 q1) λ_ s2 q=>q
theorem ps_set {i:Nat} {x:Str} {e:Expr} {te:TE} {pos':Pos} (hN:X.N.Nodup) (hi:X.N[i]?=some x) (hx:Loc X.env.scope x) (he:PE X e te) (hs:swapsWith e (some (.Name x pos')) pos.line X.env=pure false:=by rfl) (hf:X.fn x=true∨X.env.scope.names.lookup x=some .local:=by first | exact .inl rfl | exact .inr rfl | assumption) :
 PS X (.Assign [.Name x pos'] e pos) (tAsg te (gName i)):=by
 intro pins s σ H D I h
 refine wpAny_Assign_Name (thn (he pins s σ H _ I h) λv s1 ⟨y,H1,I1,r1,q1⟩=>?_) hs
 exact store_ok I1 hN hi hx r1 (λs2 I2=>⟨_,H1,I2,q1⟩) hf
end
section
variable {X:Cx} {pos:Pos}
end
set_option genInjectivity false in
structure It where
 go:Nat→Hp→Prop
 yld:Nat→Hp→V→Hp→Prop
 stop:Nat→Hp→Prop
noncomputable def FpOk (X:Cx) (pins:List (Addr×Obj)) (H:Hp) (b:Addr):Prop :=
 H b=none∧b≠X.env.locals∧b∉X.fs∧(b∈X.ex∨X.s₀.heap.objs.size≤b)∧(∀x c,X.env.cells.lookup x=some c→c≠b)∧∀p∈X.pn++pins,p.1≠b
theorem Inv.fpOk {X:Cx} {pins:List (Addr×Obj)} {σ:St} {H H':Hp} {s:Shared} {b:Addr} (I:Inv X pins σ H s) (hb:s.heap.objs.size≤b) (hn:H' b=none):FpOk X pins H' b:=by
 refine⟨hn,Nat.ne_of_gt (Nat.lt_of_lt_of_le I.lt hb),I.nofs hb,.inr (Nat.le_trans I.sz hb),λx c e z=>?_,λp hp z=>?_⟩
 ·obtain⟨v,q⟩:=I.cell x c e
  exact absurd (Nat.lt_of_lt_of_le q.lt (by rw[z];exact hb)) (Nat.lt_irrefl _)
 ·exact absurd (Nat.lt_of_lt_of_le (Heap.lt_size (I.pin p hp).1) (by rw[z];exact hb)) (Nat.lt_irrefl _)
set_option genInjectivity false in
structure Turn (P:Program) (w:World) (K:PySem.W.Frag) (tg:Expr) (J:It) (fp:List Addr) (it:Addr) (tn:Nat→Heap→Prop):Prop where
 mem:it∈fp
 obj:∀i h,tn i h→∀b∈fp,∃o,h.get? b=some o∧∀v,o.data≠.cell v
 keep:∀i h h',tn i h→(∀b∈fp,∀o,h.get? b=some o→h'.get? b=some o)→tn i h'
 item:∀(X:Cx),X.prog=P→X.w=w→X.K=K→X.calm=true→∀(i:Nat) (pins:List (Addr×Obj)) (s:Shared) (σ:St) (H:Hp) (E:Value→Shared→Prop),Inv X pins σ H s→(∀b∈fp,FpOk X pins H b)→tn i s.heap→J.go i H →
  wpAny (model P w) X.A (pyNext (.ref it)) (λr s1=>∃u,r=some u ∧
   wpAny (model P w) X.A (letOwnedTupleGo tg (.ref it) u) (λ_ s2=>∃x H',Inv X pins σ H' s2∧RelV x u∧J.yld i H x H'∧tn (i+1) s2.heap∧∀b∈fp,H' b=none) E s1) E s
 done:∀(X:Cx),X.prog=P→X.w=w→X.K=K→X.calm=true→∀(i:Nat) (pins:List (Addr×Obj)) (s:Shared) (σ:St) (H:Hp) (E:Value→Shared→Prop),Inv X pins σ H s→(∀b∈fp,FpOk X pins H b)→tn i s.heap→J.stop i H →
  wpAny (model P w) X.A (pyNext (.ref it)) (λr s1=>r=none∧Inv X pins σ H s1) E s
 self:∀(A:Around) (i:Nat) (s:Shared) (Q:Value→Shared→Prop) (E:Value→Shared→Prop),tn i s.heap→Q (.ref it) s→wpAny (model P w) A (pyIter (.ref it)) Q E s
noncomputable abbrev TI:=St→Hp→(It→Hp→Prop)→Prop
noncomputable def PIE (X:Cx) (pins:List (Addr×Obj)) (σ:St) (tg:Expr) (R:It→Hp→Prop) (itv:Value) (s2:Shared):Prop :=
 ∃(it:Addr) (fp:List Addr) (tn:Nat→Heap→Prop) (J:It) (H':Hp),itv=.ref it∧Inv X pins σ H' s2∧Turn X.prog X.w X.K tg J fp it tn∧tn 0 s2.heap∧(∀b∈fp,FpOk X pins H' b)∧R J H'
noncomputable def PI (X:Cx) (tg iter:Expr) (wi:TI):Prop :=
 ∀(pins:List (Addr×Obj)) (s:Shared) (σ:St) (H:Hp) (R:It→Hp→Prop),Inv X pins σ H s→wi σ H R →
  wpAny (model X.prog X.w) X.A (eval iter X.env) (λv s1=>wpAny (model X.prog X.w) X.A (pyIter v) (PIE X pins σ tg R) X.xe s1) X.xe s
theorem go_of {M:Model} {A:Around} {E:Value→Shared→Prop} {s:Shared} {tg:Expr} {it:Addr} {u:Value} {o:Obj} {n:String} {vs:Array Value} {Q:Unit→Shared→Prop} (ho:s.heap.get? it=some o) (hc:o.cls=.type n) (hd:o.data=.fields vs)
 (hn:["enumerate", "zip", "dict_itemiterator", "dict_reverseitemiterator", "odict_iterator", "itertools.zip_longest", "itertools.pairwise"].contains n=false) (hQ:Q () s):wpAny M A (letOwnedTupleGo tg (.ref it) u) Q E s:=by
 unfold letOwnedTupleGo
 cases tg<;>first
  | exact wpAny_pure hQ
  | (cases u<;>first
   | exact wpAny_pure hQ
   | (refine wpAny_bind (wpAny_load ho ?_)
      rw[hc,hd]
      show wpAny M A (if (["enumerate", "zip", "dict_itemiterator", "dict_reverseitemiterator", "odict_iterator", "itertools.zip_longest", "itertools.pairwise"].contains n&&vs[0]?==some (rawInt _))=true then _ else _) Q E s
      rw[if_neg (by intro h;rw[hn,Bool.false_and] at h;cases h)]
      exact wpAny_pure hQ))
noncomputable def Itl (K:PySem.W.Frag) (a:Addr):It :=
 ⟨λi H=>∃xs x,SqL K H a xs∧xs[i]?=some x,λi H x H'=>H'=H∧∀xs,SqL K H a xs→xs[i]?=some x,λi H=>∃xs,SqL K H a xs∧xs.length≤i⟩
noncomputable def Itt (K:PySem.W.Frag) (a:Addr):It :=
 ⟨λi H=>∃xs x,SqT K H a xs∧xs[i]?=some x,λi H x H'=>H'=H∧∀xs,SqT K H a xs→xs[i]?=some x,λi H=>∃xs,SqT K H a xs∧xs.length≤i⟩
noncomputable def Itr (lo:Int) (n:Nat):It:=⟨λi _=>i < n,λi H x H'=>H'=H∧x=.int (lo+i),λi _=>n≤i⟩
theorem turn_list {P:Program} {w:World} {K:PySem.W.Frag} {tg:Expr} (a it:Addr):Turn P w K tg (Itl K a) [it] it (λi h=>h.IsListIter it a i) where
 mem:=by simp
 obj:=λi h st b hb=>by
  have e:b=it:=by simpa using hb
  subst e
  obtain⟨o,e,c,d⟩:=st
  exact⟨o,e,λv z=>by rw[d] at z;cases z⟩
 keep:=λi h h' st k=>st.at λo e=>k it (by simp) o e
 item:=by
  intro X hP hw hK hc i pins s σ H E I hf st hg
  subst hP hw hK
  obtain⟨xs,x,hq,hx⟩:=hg
  obtain⟨its,rv,p,hz⟩:=I.list hq
  obtain⟨u,hu,ru⟩:=rv.get hx
  obtain⟨f0,f1,f2,f3,f4,f5⟩:=hf it (by simp)
  refine wpAny_pyNext_list_item st p.isList (x:=u) (by simpa using hu) λh' st' sb=>?_
  have I1:Inv X pins σ H { s with heap:=h' }:=I.turned (t':=s.toks) (λb o hb e=>(sb.2 b hb).trans e) f0 f1 f3 f4 f5
  obtain⟨o,e,c,d⟩:=id st'
  exact⟨u,rfl,go_of (s:={ s with heap:=h' }) e c d (by decide) ⟨x,H,I1,ru,⟨rfl,λys hy=>by rw[I.list_inj hy hq];exact hx⟩,st',λb hb=>(hf b hb).1⟩⟩
 done:=by
  intro X hP hw hK hc i pins s σ H E I hf st hg
  subst hP hw hK
  obtain⟨xs,hq,hx⟩:=hg
  obtain⟨its,rv,p,hz⟩:=I.list hq
  obtain⟨f0,f1,f2,f3,f4,f5⟩:=hf it (by simp)
  have hl:=rv.length
  exact wpAny_pyNext_list_end (I.ok.hd hc) st p.isList (by simp;lia) λh' eb=>⟨rfl,I.turned (t':=s.toks) (λb o hb e=>eb b o hb e) f0 f1 f3 f4 f5⟩
 self:=λ_ _ _ _ _ st h=>wpAny_pyIter_listiter st h
theorem turn_tuple {P:Program} {w:World} {K:PySem.W.Frag} {tg:Expr} (a it:Addr):Turn P w K tg (Itt K a) [it] it (λi h=>h.IsTupleIter it a i) where
 mem:=by simp
 obj:=λi h st b hb=>by
  have e:b=it:=by simpa using hb
  subst e
  obtain⟨o,e,c,d⟩:=st
  exact⟨o,e,λv z=>by rw[d] at z;cases z⟩
 keep:=λi h h' st k=>st.at λo e=>k it (by simp) o e
 item:=by
  intro X hP hw hK hc i pins s σ H E I hf st hg
  subst hP hw hK
  obtain⟨xs,x,hq,hx⟩:=hg
  obtain⟨its,rv,p,hz⟩:=I.tuple hq
  obtain⟨u,hu,ru⟩:=rv.get hx
  obtain⟨f0,f1,f2,f3,f4,f5⟩:=hf it (by simp)
  refine wpAny_pyNext_tuple_item st (show s.heap.IsTuple a its.toArray from p) (x:=u) (by simpa using hu) λh' st' sb=>?_
  have I1:Inv X pins σ H { s with heap:=h' }:=I.turned (t':=s.toks) (λb o hb e=>(sb.2 b hb).trans e) f0 f1 f3 f4 f5
  obtain⟨o,e,c,d⟩:=id st'
  exact⟨u,rfl,go_of (s:={ s with heap:=h' }) e c d (by decide) ⟨x,H,I1,ru,⟨rfl,λys hy=>by rw[I.tuple_inj hy hq];exact hx⟩,st',λb hb=>(hf b hb).1⟩⟩
 done:=by
  intro X hP hw hK hc i pins s σ H E I hf st hg
  subst hP hw hK
  obtain⟨xs,hq,hx⟩:=hg
  obtain⟨its,rv,p,hz⟩:=I.tuple hq
  obtain⟨f0,f1,f2,f3,f4,f5⟩:=hf it (by simp)
  have hl:=rv.length
  exact wpAny_pyNext_tuple_end (I.ok.hd hc) st (show s.heap.IsTuple a its.toArray from p) (by simp;lia) λh' eb=>⟨rfl,I.turned (t':=s.toks) (λb o hb e=>eb b o hb e) f0 f1 f3 f4 f5⟩
 self:=λ_ _ _ _ _ st h=>wpAny_pyIter_tupleiter st h
theorem turn_range {P:Program} {w:World} {K:PySem.W.Frag} {tg:Expr} (it:Addr) (lo:Int) (n:Nat):Turn P w K tg (Itr lo n) [it] it (λi h=>IsRangeIter h it (lo+(i:Nat)*1) ((n:Int) - (i:Nat)) 1) where
 mem:=by simp
 obj:=λi h st b hb=>by
  have e:b=it:=by simpa using hb
  subst e
  exact⟨_,st,λv z=>by
   have z':Data.fields _=Data.cell v:=z
   cases z'⟩
 keep:=λi h h' st k=>k it (by simp) _ st
 item:=by
  intro X hP hw hK hc i pins s σ H E I hf st hg
  subst hP hw hK
  obtain⟨f0,f1,f2,f3,f4,f5⟩:=hf it (by simp)
  have W:=Walks.range (prog:=X.prog) (w:=X.w) (I.ok.hd hc) it lo 1 n
  refine W.item i s _ _ hg st λv h' tk hv st' kk=>?_
  obtain⟨t,rfl⟩:=hv
  have I1:Inv X pins σ H { s with heap:=h',toks:=tk }:=I.turned (λb o hb e=>kk b o (by simpa using hb) e) f0 f1 f3 f4 f5
  refine⟨_,rfl,go_of (s:={ s with heap:=h',toks:=tk }) (n := "range_iterator") st' rfl rfl (by decide) ⟨.int (lo+i),H,I1,⟨t,?_⟩,⟨rfl,rfl⟩,st',λb hb=>(hf b hb).1⟩⟩
  rw[Int.mul_one]
 done:=by
  intro X hP hw hK hc i pins s σ H E I hf st hg
  subst hP hw hK
  obtain⟨f0,f1,f2,f3,f4,f5⟩:=hf it (by simp)
  exact wpAny_pyNext_range_end (I.ok.hd hc) st (by have:n≤i:=hg;lia) λh' eb=>⟨rfl,I.turned (t':=s.toks) (λb o hb e=>eb b o hb e) f0 f1 f3 f4 f5⟩
 self:=λ_ _ _ _ _ st h=>wpAny_pyIter_rangeiter st h
section
variable {X:Cx} {tg:Expr}
theorem range_it {pins:List (Addr×Obj)} {σ:St} {H:Hp} {s:Shared} {R:It→Hp→Prop} {E:Value→Shared→Prop} {lo hi:Int} {t u v:Tok} {tk:Nat} (I:Inv X pins σ H s) (h1:-(2^62)≤lo) (h2:lo < 2^62) (h3:-(2^62)≤hi) (h4:hi < 2^62)
 (q:R (Itr lo (hi - lo).toNat) H):wpAny (model X.prog X.w) X.A (pyIter (.ref s.heap.objs.size)) (PIE X pins σ tg R) E { s with heap:=s.heap.push { cls:=.type "range", data:=.fields #[.int lo t,.int hi u,.int 1 v] },toks:=tk }:=by
 refine wpAny_pyIter_range (IsRange.new ..) (small_one h1 h2 h3 h4) ?_
 have I1:Inv X pins σ H { s with heap:=s.heap.push { cls:=.type "range", data:=.fields #[.int lo t,.int hi u,.int 1 v] },toks:=tk }:=I.kept λb o e=>Heap.get?_push_of_some _ e
 refine⟨(s.heap.push { cls:=.type "range", data:=.fields #[.int lo t,.int hi u,.int 1 v] }).objs.size,[(s.heap.push { cls:=.type "range", data:=.fields #[.int lo t,.int hi u,.int 1 v] }).objs.size],_,_,H,rfl,
  I1.kept (t':=tk) λb o e=>Heap.get?_push_of_some _ e,turn_range _ lo (hi - lo).toNat,?_,λb hb=>?_,q⟩
 ·have e1:lo+((0:Nat):Int)*1=lo:=by simp
  have e2:(((hi - lo).toNat:Nat):Int) - ((0:Nat):Int)=Builtin.Range.rangeSize lo hi 1:=by rw[rangeSize_one];split<;>lia
  show IsRangeIter _ _ (lo+((0:Nat):Int)*1) ((((hi - lo).toNat:Nat):Int) - ((0:Nat):Int)) 1
  rw[e1,e2]
  exact Heap.get?_push_size _ rfl
 ·have e:b=(s.heap.push { cls:=.type "range", data:=.fields #[.int lo t,.int hi u,.int 1 v] }).objs.size:=by simpa using hb
  subst e
  exact I1.fpOk (Nat.le_refl _) (I1.hok.fresh (Nat.le_refl _))
noncomputable def iRng1 (ta:TA):TI:=λσ H R=>ta σ H λvs H1=>∃j:Int,vs=[.int j] ∧ -(2^62)≤j∧j < 2^62∧R (Itr 0 j.toNat) H1
noncomputable def iRng2 (ta:TA):TI:=λσ H R=>ta σ H λvs H1=>∃i j:Int,vs=[.int i,.int j]∧(-(2^62)≤i∧i < 2^62 ∧ -(2^62)≤j∧j < 2^62)∧R (Itr i (j - i).toNat) H1
theorem pi_range1 {a:Expr} {ta:TA} {p pos:Pos} (hg:Gl X "range") (hm:X.mg "range" = none) (ha:PA X [a] ta) (hs:starEach [a] X.env=[(false,eval a X.env)]:=by rfl):PI X tg (.Call (.Name "range" p) [a] [] pos) (iRng1 ta):=by
 intro pins s σ H R I h
 refine Call_ (ld_blt I hg hm boot_range (PyProof.Rows.callWith_type1 (thn (ha pos pins s σ H _ I h) λus s1 ⟨vs,H1,I1,r1,q1⟩=>?_) hs rfl))
 obtain⟨j,e,q1,q2,q⟩:=q1
 subst e
 cases r1 with
 | cons r rr =>
  cases rr
  obtain⟨t,rfl⟩:=r
  exact call_range_1 (range_it I1 (by lia) (by lia) q1 q2 (by simpa using q))
theorem pi_range2 {a b:Expr} {ta:TA} {p pos:Pos} (hg:Gl X "range") (hm:X.mg "range" = none) (ha:PA X [a,b] ta) (hs:starEach [a,b] X.env=[(false,eval a X.env),(false,eval b X.env)]:=by rfl) (hs2:starEach [b] X.env=[(false,eval b X.env)]:=by rfl) :
 PI X tg (.Call (.Name "range" p) [a,b] [] pos) (iRng2 ta):=by
 intro pins s σ H R I h
 refine Call_ (ld_blt I hg hm boot_range (PyProof.Rows.callWith_type1 (thn (ha pos pins s σ H _ I h) λus s1 ⟨vs,H1,I1,r1,q1⟩=>?_) (by rw[hs,hs2]) (by rw[hs2];rfl)))
 obtain⟨i,j,e,⟨q1,q2,q3,q4⟩,q⟩:=q1
 subst e
 cases r1 with
 | cons r rr =>
  cases rr with
  | cons r' rr =>
   cases rr
   obtain⟨t,rfl⟩:=r
   obtain⟨t',rfl⟩:=r'
   exact call_range_2 (range_it I1 q1 q2 q3 q4 q)
noncomputable def tFor (wi:TI) (g:TG) (tb:TS):TS:=λD σ H=>wi σ H λJ H1=>∃W:Nat→Nat→St→Hp→Prop,(∃m,W 0 m σ H1)∧∀i m σ H,W i m σ H →
 (J.stop i H∧D.nx σ H)∨(J.go i H∧∃N:St→Hp→Prop,(∀σ' H',N σ' H'→∃m',m' < m∧W (i+1) m' σ' H')∧∀x H',J.yld i H x H'→g x σ H' λσ2 H2=>tb { D with nx:=N,ct:=N,bk:=D.nx } σ2 H2)
noncomputable def pinsAt (fp:List Addr) (h:Heap):List (Addr×Obj):=fp.filterMap λb=>(h.get? b).map λo=>(b,o)
theorem mem_pinsAt {fp:List Addr} {h:Heap} {b:Addr} {o:Obj} (hb:b∈fp) (e:h.get? b=some o):(b,o)∈pinsAt fp h:=List.mem_filterMap.mpr ⟨b,hb,by rw[e];rfl⟩
theorem of_pinsAt {fp:List Addr} {h:Heap} {p:Addr×Obj} (hp:p∈pinsAt fp h):p.1∈fp∧h.get? p.1=some p.2:=by
 obtain⟨b,hb,e⟩:=List.mem_filterMap.mp hp
 cases q:h.get? b with
 | none=>rw[q] at e;cases e
 | some o =>
  rw[q] at e
  have e':(b,o)=p:=Option.some.inj e
  subst e'
  exact⟨hb,q⟩
theorem Inv.pinned {pins:List (Addr×Obj)} {σ:St} {H:Hp} {s:Shared} {fp:List Addr} (I:Inv X pins σ H s) (hf:∀b∈fp,FpOk X pins H b) (ho:∀b∈fp,∃o,s.heap.get? b=some o∧∀v,o.data≠.cell v):Inv X (pins++pinsAt fp s.heap) σ H s :=
 I.pins_of λp hp=>(List.mem_append.mp hp).elim (λz=>I.pin p (List.mem_append_right _ z)) λz=>by
  obtain⟨hb,e⟩:=of_pinsAt z
  obtain⟨f0,f1,f2,_⟩:=hf p.1 hb
  obtain⟨o,e',d⟩:=ho p.1 hb
  rw[e] at e';cases e'
  exact⟨e,f0,f1,f2,d⟩
theorem Inv.unpinned {pins pl:List (Addr×Obj)} {σ:St} {H:Hp} {s:Shared} (I:Inv X (pins++pl) σ H s):Inv X pins σ H s:=I.pins_of λp hp=>I.pin p (List.mem_append_right _ (List.mem_append_left _ hp))
theorem ps_for {iter:Expr} {body:List Stmt} {wi:TI} {g:TG} {tb:TS} {pos:Pos} (hp:PassesOwn (model X.prog X.w) X.A X.env X.xe) (hc:X.calm=true) (hi:PI X tg iter wi) (hg:PG X tg g) (hb:PSs X body tb)
 (hs:∀x,foldedSetIterable iter X.env x=pure x:=by intro _;rfl):PS X (.For tg iter body [] pos) (tFor wi g tb):=by
 intro pins s σ H D I h
 refine wpAny_For (thn (hi pins s σ H _ I h) λv s1 h1=>thn h1 λitv s2 h2=>?_) hs
 obtain⟨it,fp,tn,J,H2,e,I2,T,st2,f2,W,⟨m0,w0⟩,turn⟩:=h2
 subst e
 have stat:∀ {H':Hp},(∀b∈fp,H' b=none)→∀b∈fp,FpOk X pins H' b:=λhn b hb=>⟨hn b hb,(f2 b hb).2⟩
 refine codeAny_forLoop_any (λn s'=>∃i σ' H',Inv X pins σ' H' s'∧tn i s'.heap∧(∀b∈fp,H' b=none)∧W i n σ' H') ?_ m0 ⟨0,σ,H2,I2,st2,λb hb=>(f2 b hb).1,w0⟩
 rintro n s3 ⟨i,σ3,H3,I3,st3,fr3,w3⟩
 rcases turn i n σ3 H3 w3 with ⟨stop,qn⟩ | ⟨go,N,hN,step⟩
 ·refine wpAny_passesOwn hp (thn (T.done X rfl rfl rfl hc i pins s3 σ3 H3 X.xe I3 (stat fr3) st3 stop) λr s4 ⟨hr,I4⟩=>?_)
  subst hr
  exact wpAny_execs_nil ⟨σ3,H3,I4,qn⟩
 ·refine wpAny_passesOwn hp (thn (T.item X rfl rfl rfl hc i pins s3 σ3 H3 X.xe I3 (stat fr3) st3 go) λr s4 ⟨u,hr,h4⟩=>?_)
  subst hr
  refine wpAny_passesOwn hp (thn h4 λ_ s5 ⟨x,H5,I5,r5,y5,st5,fr5⟩=>?_)
  have I5':=I5.pinned (stat fr5) (T.obj _ _ st5)
  refine wpAny_passesOwn hp (thn (hg _ s5 σ3 H5 x u _ I5' r5 (step x H5 y5)) λ_ s6 ⟨σ6,H6,I6,q6⟩=>?_)
  refine wpAny_passesOwn hp (thn (hb _ s6 σ6 H6 _ I6 q6) λf s7 q7=>?_)
  have again:∀ {σ7:St} {H7:Hp},Inv X (pins++pinsAt fp s5.heap) σ7 H7 s7→N σ7 H7→∃m,m < n∧∃i σ' H',Inv X pins σ' H' s7∧tn i s7.heap∧(∀b∈fp,H' b=none)∧W i m σ' H':=λ{σ7 H7} I7 n7=>by
   obtain⟨m',hm,w7⟩:=hN σ7 H7 n7
   refine⟨m',hm,i+1,σ7,H7,I7.unpinned,T.keep _ _ _ st5 λb hb o e=>(I7.pin (b,o) (List.mem_append_right _ (List.mem_append_right _ (mem_pinsAt hb e)))).1,λb hb=>?_,w7⟩
   obtain⟨o,e,d⟩:=T.obj _ _ st5 b hb
   exact (I7.pin (b,o) (List.mem_append_right _ (List.mem_append_right _ (mem_pinsAt hb e)))).2.1
  cases f with
  | next=>obtain⟨σ7,H7,I7,n7⟩:=q7;exact again I7 n7
  | cont=>obtain⟨σ7,H7,I7,n7⟩:=q7;exact again I7 n7
  | brk=>obtain⟨σ7,H7,I7,q7⟩:=q7;exact⟨σ7,H7,I7.unpinned,q7⟩
  | ret v=>obtain⟨x7,σ7,H7,I7,r7,q7⟩:=q7;exact⟨x7,σ7,H7,I7.unpinned,r7,q7⟩
end
noncomputable abbrev R2:=V→V→Hp→VK→Prop
noncomputable def OpR (X:Cx) (f:Value→Value→Sem Value) (r:R2):Prop :=
 ∀(pins:List (Addr×Obj)) (s:Shared) (σ:St) (H:Hp) (x y:V) (v u:Value) (Q:VK),Inv X pins σ H s→RelV x v→RelV y u→r x y H Q →
  wpAny (model X.prog X.w) X.A (f v u) (EP X pins σ Q) X.xe s
noncomputable def UnR (X:Cx) (f:Value→Sem Value) (r:V→Hp→VK→Prop):Prop :=
 ∀(pins:List (Addr×Obj)) (s:Shared) (σ:St) (H:Hp) (x:V) (v:Value) (Q:VK),Inv X pins σ H s→RelV x v→r x H Q →
  wpAny (model X.prog X.w) X.A (f v) (EP X pins σ Q) X.xe s
noncomputable def CallR (X:Cx) (f:Value) (r:List V→Hp→VK→Prop):Prop :=
 ∀(pins:List (Addr×Obj)) (s:Shared) (σ:St) (H:Hp) (xs:List V) (us:List Value) (Q:VK),Inv X pins σ H s→Vals xs us→r xs H Q →
  wpAny (model X.prog X.w) X.A (call f us) (EP X pins σ Q) X.xe s
noncomputable def TruR (X:Cx) (r:V→Hp→(Bool→Hp→Prop)→Prop):Prop :=
 ∀(pins:List (Addr×Obj)) (s:Shared) (σ:St) (H:Hp) (x:V) (v:Value) (Q:Bool→Hp→Prop),Inv X pins σ H s→RelV x v→r x H Q →
  wpAny (model X.prog X.w) X.A (truthy v) (TP X pins σ Q) X.xe s
noncomputable def tOp (r:R2) (ta tb:TE):TE:=λσ H Q=>ta σ H λx H1=>tb σ H1 λy H2=>r x y H2 Q
noncomputable def tUn (r:V→Hp→VK→Prop) (ta:TE):TE:=λσ H Q=>ta σ H λx H1=>r x H1 Q
noncomputable def rI (C:Int→Int→Prop) (g:Int→Int→V):R2:=λx y H Q=>∃i j,x=.int i∧y=.int j∧C i j∧Q (g i j) H
noncomputable def rI0 (g:Int→Int→V):R2:=λx y H Q=>∃i j,x=.int i∧y=.int j∧Q (g i j) H
noncomputable def rU (g:Int→V):V→Hp→VK→Prop:=λx H Q=>∃i,x=.int i∧Q (g i) H
section
variable {X:Cx} {a b c:Expr} {ta tb tc:TE} {pos:Pos}
theorem binT (ha:PE X a ta) (hb:PE X b tb) {pins:List (Addr×Obj)} {s:Shared} {σ:St} {H:Hp} {R:V→V→Hp→Prop} (I:Inv X pins σ H s)
 (h:ta σ H λx H1=>tb σ H1 λy H2=>R x y H2) {Q:Value→Shared→Prop} {f:Value→Value→Sem Value}
 (hf:∀v u s2 x y H2,Inv X pins σ H2 s2→RelV x v→RelV y u→R x y H2→wpAny (model X.prog X.w) X.A (f v u) Q X.xe s2) :
 wpAny (model X.prog X.w) X.A (eval a X.env) (λv s₁=>wpAny (model X.prog X.w) X.A (eval b X.env) (λu s₂=>wpAny (model X.prog X.w) X.A (f v u) Q X.xe s₂) X.xe s₁) X.xe s:=by
 refine thn (ha pins s σ H _ I h) λv s1 ⟨x,H1,I1,r1,q1⟩=>?_
 refine thn (hb pins s1 σ H1 _ I1 q1) λu s2 ⟨y,H2,I2,r2,q2⟩=>?_
 exact hf v u s2 x y H2 I2 r1 r2 q2
theorem pe_op {op:Operator} {r:R2} (ho:OpR X (binaryOp op) r) (ha:PE X a ta) (hb:PE X b tb):PE X (.BinOp a op b pos) (tOp r ta tb):=by
 intro pins s σ H Q I h
 exact wpAny_BinOp (binT ha hb I h λv u s2 x y H2 I2 rx ry q=>ho pins s2 σ H2 x y v u Q I2 rx ry q)
theorem pe_un {op:UnaryOp} {r:V→Hp→VK→Prop} (ho:UnR X (unaryOp op) r) (ha:PE X a ta):PE X (.UnaryOp op a pos) (tUn r ta):=by
 intro pins s σ H Q I h
 exact UnaryOp_ (thn (ha pins s σ H _ I h) λv s1 ⟨x,H1,I1,r1,q1⟩=>ho pins s1 σ H1 x v Q I1 r1 q1)
theorem opI {f:Value→Value→Sem Value} {C:Int→Int→Prop} {g:Int→Int→Int}
 (rule:∀(i j:Int) (t u:Tok) (s:Shared) (Q:Value→Shared→Prop) (E:Value→Shared→Prop),C i j→Q (.int (g i j) s.toks) { s with toks:=s.toks+1 }→wpAny (model X.prog X.w) X.A (f (.int i t) (.int j u)) Q E s) :
 OpR X f (rI C λi j=>.int (g i j)):=by
 intro pins s σ H x y v u Q I rx ry h
 obtain⟨i,j,rfl,rfl,hc,q⟩:=h
 obtain⟨t,rfl⟩:=rx
 obtain⟨t',rfl⟩:=ry
 exact rule i j t t' s _ _ hc ⟨.int (g i j),H,I.tok _,⟨_,rfl⟩,q⟩
theorem opI0 {f:Value→Value→Sem Value} {g:Int→Int→Int}
 (rule:∀(i j:Int) (t u:Tok) (s:Shared) (Q:Value→Shared→Prop) (E:Value→Shared→Prop),Q (.int (g i j) s.toks) { s with toks:=s.toks+1 }→wpAny (model X.prog X.w) X.A (f (.int i t) (.int j u)) Q E s) :
 OpR X f (rI0 λi j=>.int (g i j)):=by
 intro pins s σ H x y v u Q I rx ry h
 obtain⟨i,j,rfl,rfl,q⟩:=h
 obtain⟨t,rfl⟩:=rx
 obtain⟨t',rfl⟩:=ry
 exact rule i j t t' s _ _ ⟨.int (g i j),H,I.tok _,⟨_,rfl⟩,q⟩
theorem opB0 {f:Value→Value→Sem Value} {g:Int→Int→Bool}
 (rule:∀(i j:Int) (t u:Tok) (s:Shared) (Q:Value→Shared→Prop) (E:Value→Shared→Prop),Q (.bool (g i j)) s→wpAny (model X.prog X.w) X.A (f (.int i t) (.int j u)) Q E s) :
 OpR X f (rI0 λi j=>.bl (g i j)):=by
 intro pins s σ H x y v u Q I rx ry h
 obtain⟨i,j,rfl,rfl,q⟩:=h
 obtain⟨t,rfl⟩:=rx
 obtain⟨t',rfl⟩:=ry
 exact rule i j t t' s _ _ ⟨.bl (g i j),H,I,rfl,q⟩
noncomputable def CDiv (i j:Int):Prop:=0 < j∧j < 1073741824
noncomputable def CPow (i j:Int):Prop:=0≤j∧j≤1000000∧i.natAbs < 2^64
noncomputable def CMul (i j:Int):Prop:=(-(2^64) < i∧i < 2^64)∨(-(2^64) < j∧j < 2^64)
theorem CMul.ok {i j:Int} (h:CMul i j):IntMulOk i j:=by
 rcases h with ⟨h1,h2⟩ | ⟨h1,h2⟩
 ·exact .of_left (intBits_le_64 h1 h2)
 ·exact .of_right (intBits_le_64 h1 h2)
theorem op_add:OpR X (binaryOp .Add) (rI0 λi j=>.int (i+j)):=opI0 λ_ _ _ _ _ _ _ q=>add_int q
theorem op_sub:OpR X (binaryOp .Sub) (rI0 λi j=>.int (i - j)):=opI0 λ_ _ _ _ _ _ _ q=>sub_int q
theorem op_mul:OpR X (binaryOp .Mult) (rI CMul λi j=>.int (i*j)):=opI λ_ _ _ _ _ _ _ hc q=>mul_int q hc.ok
theorem op_fdiv:OpR X (binaryOp .FloorDiv) (rI CDiv λi j=>.int (i / j)):=opI λi j _ _ _ _ _ hc q=>by
 have h1:(0:Int) < j:=hc.1
 have h2:j < 1073741824:=hc.2
 exact floordiv_int (by lia) (by rw[Int.fdiv_eq_ediv_of_nonneg i (by lia)];exact q) (.inl (PyProof.noPylong_small (by lia)))
theorem op_mod:OpR X (binaryOp .Mod) (rI (λ_ j=>0 < j) λi j=>.int (i % j)):=opI λi j _ _ _ _ _ hc q=>by
 have h1:(0:Int) < j:=hc
 exact mod_int' (by lia) (by rw[Int.fmod_eq_emod_of_nonneg i (by lia)];exact q)
theorem op_pow:OpR X (binaryOp .Pow) (rI CPow λi j=>.int (i^j.toNat)):=opI λ_ _ _ _ _ _ _ hc q=>pow_int_small hc.1 hc.2.1 hc.2.2 q
theorem unI {f:Value→Sem Value} {g:Int→Int}
 (rule:∀(i:Int) (t:Tok) (s:Shared) (Q:Value→Shared→Prop) (E:Value→Shared→Prop),Q (.int (g i) s.toks) { s with toks:=s.toks+1 }→wpAny (model X.prog X.w) X.A (f (.int i t)) Q E s) :
 UnR X f (rU λi=>.int (g i)):=by
 intro pins s σ H x v Q I rx h
 obtain⟨i,rfl,q⟩:=h
 obtain⟨t,rfl⟩:=rx
 exact rule i t s _ _ ⟨.int (g i),H,I.tok _,⟨_,rfl⟩,q⟩
theorem un_neg:UnR X (unaryOp .USub) (rU λi=>.int (-i)):=unI λ_ _ _ _ _ q=>neg_int q
end
section
variable {X:Cx} {a b c:Expr} {ta tb tc:TE} {pos:Pos}
theorem fin_bl {pins:List (Addr×Obj)} {σ:St} {H:Hp} {s:Shared} {Q:VK} {k k':Bool} (I:Inv X pins σ H s) (q:Q (.bl k) H) (e:k=k'):EP X pins σ Q (.bool k') s:=by
 subst e
 exact⟨.bl k,H,I,rfl,q⟩
theorem op_lt:OpR X (compareOp .Lt) (rI0 λi j=>.bl (decide (i < j))):=opB0 λ_ _ _ _ _ _ _ q=>lt_int q
theorem op_le:OpR X (compareOp .LtE) (rI0 λi j=>.bl (decide (i≤j))):=opB0 λ_ _ _ _ _ _ _ q=>le_int q
theorem op_gt:OpR X (compareOp .Gt) (rI0 λi j=>.bl (decide (j < i))):=opB0 λ_ _ _ _ _ _ _ q=>gt_int q
theorem op_ge:OpR X (compareOp .GtE) (rI0 λi j=>.bl (decide (j≤i))):=opB0 λ_ _ _ _ _ _ _ q=>ge_int q
theorem op_in_str:OpR X (compareOp .In) (λx y H Q=>∃i j,x=.str i∧y=.str j∧Q (.bl (!(Builtin.Str.occurrences j i 0 j.length 1).isEmpty)) H):=by
 intro pins s σ H x y v u Q I rx ry h
 obtain⟨i,j,rfl,rfl,q⟩:=h
 obtain⟨t,rfl⟩:=rx
 obtain⟨t',rfl⟩:=ry
 exact in_str (fin_bl I q rfl)
theorem op_isN:OpR X (compareOp .Is) (λx y H Q=>y=.non∧Q (.bl (decide (x=.non))) H):=by
 intro pins s σ H x y v u Q I rx ry h
 obtain⟨rfl,q⟩:=h
 cases ry
 refine is_none_gen (fin_bl I q ?_)
 cases x<;>first
  | (cases rx;rfl)
  | (obtain⟨t,rfl⟩:=rx;rfl)
theorem op_notN:OpR X (compareOp .IsNot) (λx y H Q=>y=.non∧Q (.bl (!decide (x=.non))) H):=by
 intro pins s σ H x y v u Q I rx ry h
 obtain⟨rfl,q⟩:=h
 cases ry
 refine isnot_none_gen (fin_bl I q ?_)
 cases x<;>first
  | (cases rx;rfl)
  | (obtain⟨t,rfl⟩:=rx;rfl)
theorem op_notin_str:OpR X (compareOp .NotIn) (λx y H Q=>∃i j,x=.str i∧y=.str j∧Q (.bl (!(!(Builtin.Str.occurrences j i 0 j.length 1).isEmpty))) H):=by
 intro pins s σ H x y v u Q I rx ry h
 obtain⟨i,j,rfl,rfl,q⟩:=h
 obtain⟨t,rfl⟩:=rx
 obtain⟨t',rfl⟩:=ry
 exact notIn_str (fin_bl I q rfl)
theorem pe_cmpR {op:CmpOp} {r:R2} (ho:OpR X (compareOp op) r) (ha:PE X a ta) (hb:PE X b tb) (hm:behindInMarks op b=false):PE X (.Compare a [op] [b] pos) (tOp r ta tb):=by
 intro pins s σ H Q I h
 exact wpAny_Compare1 (binT ha hb I h λv u s2 x y H2 I2 rx ry q=>ho pins s2 σ H2 x y v u Q I2 rx ry q) hm
noncomputable def tTest (t:TE):TT:=λσ H Q=>t σ H λx H'=>∃k,x=.bl k∧Q k H'
theorem pt_cmpR {op:CmpOp} {r:R2} (ho:OpR X (compareOp op) r) (ha:PE X a ta) (hb:PE X b tb) (hm:behindInMarks op b=false):PT X (.Compare a [op] [b] pos) (tTest (tOp r ta tb)):=by
 intro pins s σ H Q I h
 refine wpAny_isTrue_Compare1 (thn (ha pins s σ H _ I h) λv s1 ⟨x,H1,I1,r1,q1⟩=>thn (hb pins s1 σ H1 _ I1 q1) λu s2 ⟨y,H2,I2,r2,q2⟩ =>
  thn (ho pins s2 σ H2 x y v u _ I2 r1 r2 q2) λc s3 ⟨z,H3,I3,r3,k,e,q3⟩=>?_) hm
 subst e
 cases r3
 exact wpAny_truthy_bool ⟨H3,I3,q3⟩
noncomputable def TruV (K:PySem.W.Frag) (x:V) (H:Hp) (k:Bool):Prop :=
 match x with
 | .non=>k=false
 | .bl b=>k=b
 | .int i=>k=(i != 0)
 | .str y=>y.length≤sizeLine∧k=((y.length:Int) != 0)
 | .byt y=>y.size≤sizeLine∧k=((y.size:Int) != 0)
 | .ref p=>(∃xs,SqL K H p xs∧k=!xs.isEmpty)∨(∃xs,SqT K H p xs∧k=!xs.isEmpty)∨∃kvs,H p=some (.dK kvs)∧k=!kvs.isEmpty
 | _=>False
theorem isEmpty_kv {κ:Type} {kvs:List (κ×V)} {vs:List (κ×Value)} (r:KV kvs vs):(!vs.isEmpty)=!kvs.isEmpty:=by
 cases r<;>rfl
theorem isEmpty_of {xs:List V} {its:List Value} (r:Vals xs its):(!its.toArray.isEmpty)=!xs.isEmpty:=by
 cases r<;>simp
theorem line63:(sizeLine:Nat) < 2^63:=by rw[sizeLine_eq];decide
theorem tru_ok:TruR X (λx H Q=>∃k,TruV X.K x H k∧Q k H):=by
 intro pins s σ H x v Q I rx h
 obtain⟨k,e,q⟩:=h
 have hl:=line63
 have hs:sizeLine=16777216:=sizeLine_eq
 cases x with
 | non =>
  cases rx
  have e':k=false:=e
  subst e'
  exact truthy_none ⟨H,I,q⟩
 | bl b =>
  cases rx
  have e':k=b:=e
  subst e'
  exact wpAny_truthy_bool ⟨H,I,q⟩
 | int i =>
  obtain⟨t,rfl⟩:=rx
  have e':k=(i != 0):=e
  subst e'
  exact PySem.P.truthy_int ⟨H,I,q⟩
 | str y =>
  obtain⟨t,rfl⟩:=rx
  obtain⟨hy,e'⟩:y.length≤sizeLine∧k=((y.length:Int) != 0):=e
  subst e'
  exact PySem.P.truthy_str (by lia) ⟨H,I.tok _,q⟩
 | byt y =>
  obtain⟨t,rfl⟩:=rx
  obtain⟨hy,e'⟩:y.size≤sizeLine∧k=((y.size:Int) != 0):=e
  subst e'
  exact PySem.W.truthy_bytes (by lia) ⟨H,I.tok _,q⟩
 | ref p =>
  cases rx
  have e':(∃xs,SqL X.K H p xs∧k=!xs.isEmpty)∨(∃xs,SqT X.K H p xs∧k=!xs.isEmpty)∨∃kvs,H p=some (.dK kvs)∧k=!kvs.isEmpty:=e
  rcases e' with ⟨xs,hx,e'⟩ | ⟨xs,hx,e'⟩ | ⟨kvs,hx,e'⟩
  ·subst e'
   obtain⟨its,r,pl,hz⟩:=I.list hx
   have hlen:=r.length
   exact wpAny_truthy_list pl.isList (by simp only[List.size_toArray];lia) ⟨H,I.tok _,by rw[isEmpty_of r];exact q⟩
  ·subst e'
   obtain⟨its,r,pl,hz⟩:=I.tuple hx
   have hlen:=r.length
   exact truthy_tuple pl (by simp only[List.size_toArray];lia) ⟨H,I.tok _,by rw[isEmpty_of r];exact q⟩
  ·subst e'
   obtain⟨hz,hS,vs,r,m⟩:kvs.length≤sizeLine∧(p==sysModules)=false∧∃vs,KV kvs vs∧s.heap.DictOf (mixKind X.prog X.w) p vs:=I.hok p _ hx
   have hlen:kvs.length=vs.length:=Paired.length r
   exact wpAny_truthy_dict hS m (by lia) ⟨H,I.tok _,by rw[isEmpty_kv r];exact q⟩
 | _=>exact (show False from e).elim
theorem pt_truth (ha:PE X a ta) (he:∀whole,isTrue a X.env whole=(do let v ←whole;standAt a.pos;holding [v] (truthy v))) :
 PT X a (λσ H Q=>ta σ H λx H'=>∃k,TruV X.K x H' k∧Q k H'):=by
 intro pins s σ H Q I h
 exact isTrue_plain (thn (ha pins s σ H _ I h) λv s1 ⟨x,H1,I1,r1,q1⟩=>tru_ok pins s1 σ H1 x v Q I1 r1 q1) (he _)
theorem op_add_str:OpR X (binaryOp .Add) (λx y H Q=>∃i j,x=.str i∧y=.str j∧i.length+j.length≤sizeLine∧Q (.str (i++j)) H):=by
 intro pins s σ H x y v u Q I rx ry h
 obtain⟨i,j,rfl,rfl,hz,q⟩:=h
 obtain⟨t,rfl⟩:=rx
 obtain⟨t',rfl⟩:=ry
 exact add_str (λt' tk=>⟨.str (i++j),H,I.tok _,⟨_,rfl⟩,q⟩) hz
theorem vals1 {x:V} {us:List Value} (r:Vals [x] us):∃u,us=[u]∧RelV x u:=by
 cases r with
 | cons r1 r2=>cases r2;exact⟨_,rfl,r1⟩
theorem call_int1:CallR X (.type "int") (λxs H Q=>(∃i,xs=[.int i]∧Q (.int i) H)∨∃k,xs=[.bl k]∧Q (.int (if k then 1 else 0)) H):=by
 intro pins s σ H xs us Q I r h
 rcases h with ⟨i,rfl,q⟩ | ⟨k,rfl,q⟩
 ·obtain⟨u,rfl,t,rfl⟩:=vals1 r
  exact call_int_int ⟨.int i,H,I,⟨_,rfl⟩,q⟩
 ·obtain⟨u,rfl,r1⟩:=vals1 r
  cases r1
  exact call_int_bool ⟨.int (if k then 1 else 0),H,I.tok _,⟨_,rfl⟩,q⟩
end
theorem RelO.some_of {v:V} {o:Option Value} (r:RelO (some v) o):∃u,o=some u∧RelV v u:=by
 cases o with
 | none=>exact (show False from r).elim
 | some u=>exact⟨u,rfl,r⟩
section
variable {X:Cx} {pins:List (Addr×Obj)} {σ:St} {H:Hp} {s:Shared} {a C dx:Addr} {fs:List (Str×V)} {f:Str} {v:V} {A:Around} {E:Value→Shared→Prop}
end
set_option genInjectivity false in
structure Room (k:Nat) (A:Around):Prop where
 hd:A.handled=none
 dp:A.depth+3*k+5 < recursionLimit
 un:A.units+16*k+200 < cLine
theorem Room.deeper {k:Nat} {A:Around} (r:Room (k+1) A) (env:Env):Room k (A.deeper env) :=
 ⟨r.hd,by have:=r.dp;show A.depth+1+3*k+5 < _;lia,by have:=r.un;show A.units+3+16*k+200 < _;lia⟩
theorem Room.depth {k:Nat} {A:Around} (r:Room k A):A.depth < recursionLimit:=by have:=r.dp;lia
theorem Room.units {k:Nat} {A:Around} (r:Room k A):A.units+64 < cLine:=by have:=r.un;lia
noncomputable def tNil:TA:=λ_ H Q=>Q [] H
noncomputable def tCons (ta:TE) (tr:TA):TA:=λσ H Q=>ta σ H λx H1=>tr σ H1 λxs H2=>Q (x::xs) H2
section
variable {X:Cx} {e:Expr} {es:List Expr} {te:TE} {t:TA} {pos:Pos}
theorem pa_nil:PA X [] tNil:=λ_ _ _ _ H Q I h=>Calls.spliced_nil ⟨[],H,I,.nil,h⟩
theorem pa_cons (ha:PE X e te) (hr:PA X es t) (hs:starEach (e::es) X.env=(false,eval e X.env)::starEach es X.env:=by rfl):PA X (e::es) (tCons te t):=by
 intro pos pins s σ H Q I h
 rw[hs]
 show wpAny _ _ (spliced ((false,eval e X.env)::backTo pos (starEach es X.env))) _ _ s
 refine Calls.spliced_cons (thn (ha pins s σ H _ I h) λu s1 ⟨x,H1,I1,r1,q1⟩=>?_)
 exact thn (hr pos pins s1 σ H1 _ I1 q1) λus s2 ⟨xs,H2,I2,r2,q2⟩=>⟨x::xs,H2,I2,.cons r1 r2,q2⟩
noncomputable def tTup (t:TA):TE:=λσ H Q=>t σ H λxs H1=>xs.length≤sizeLine∧∀p,H1 p=none→Q (.ref p) (upd H1 p (.tup xs))
noncomputable def tLst (t:TA):TE:=λσ H Q=>t σ H λxs H1=>xs.length≤sizeLine∧∀p,H1 p=none→Q (.ref p) (upd H1 p (.lst xs))
theorem pe_tup {x1} (h:PA X es t):PE X (.Tuple es x1 pos) (tTup t):=by
 intro pins s σ H Q I hq
 refine wpAny_Tuple_spliced (thn (h pos pins s σ H _ I hq) λus s1 ⟨xs,H1,I1,r,z,q⟩=>⟨by rw[←r.length];exact z,?_⟩)
 have hf:H1 s1.heap.objs.size=none:=I1.hok.fresh (Nat.le_refl _)
 refine⟨.ref s1.heap.objs.size,upd H1 s1.heap.objs.size (.tup xs),I1.laid (t':=s1.toks) (λb u e=>Heap.get?_push_of_some _ e) (Nat.le_refl _) ?_,rfl,q _ hf⟩
 exact⟨z,us,r,⟨_,Heap.get?_push_size _ rfl,rfl,_,rfl⟩⟩
theorem pe_lst (h:PA X es t):PE X (.List es pos) (tLst t):=by
 intro pins s σ H Q I hq
 refine wpAny_List_spliced (thn (h pos pins s σ H _ I hq) λus s1 ⟨xs,H1,I1,r,z,q⟩=>⟨by rw[←r.length];exact z,?_⟩)
 have hf:H1 s1.heap.objs.size=none:=I1.hok.fresh (Nat.le_refl _)
 refine⟨.ref s1.heap.objs.size,upd H1 s1.heap.objs.size (.lst xs),I1.laid (t':=s1.toks) (λb u e=>Heap.get?_push_of_some _ e) (Nat.le_refl _) ?_,rfl,q _ hf⟩
 exact⟨z,us,0,r,Heap.get?_push_size _ rfl⟩
end
noncomputable abbrev Sp:=List V→Hp→VK→XK→Prop
noncomputable abbrev CXT:=List Env→Hp→Shared→XK→Value→Shared→Prop
set_option genInjectivity false in
structure Env0 (P:Program) (w:World) (K:PySem.W.Frag) (mg:Str→Option Value) (base:Heap) (A:Around) (outer:List Env) (s:Shared) (H:Hp):Prop where
 frames:A.frames=some outer
 mod:Mod K mg base
 bs:∀b o,base.get? b=some o→s.heap.get? b=some o∧H b=none
 bsz:base.objs.size≤s.heap.objs.size
 funs:s.heap.FunFrames base outer
 frf:∀b∈frs outer,H b=none
 hok:HOk P w H s.heap
 bare:AllBare s.gens
noncomputable def CE (outer:List Env) (P:Program) (w:World) (H:Hp) (s:Shared) (Q:VK) (u:Value) (s':Shared):Prop :=
 ∃v H',s'.os=s.os∧AllBare s'.gens∧Un (frs outer) [] H H' s.heap s'.heap∧HOk P w H' s'.heap∧RelV v u∧Q v H'
noncomputable def CR (CX:CXT) (outer:List Env) (P:Program) (w:World) (H:Hp) (s:Shared) (Q:VK) (E:XK) (r:Result) (s':Shared):Prop :=
 match r with
 | .ok (.ret u)=>CE outer P w H s Q u s'
 | .ok _=>False
 | .error e=>CX outer H s E e s'
set_option genInjectivity false in
structure FnOk (P:Program) (w:World) (K:PySem.W.Frag) (mg:Str→Option Value) (base:Heap) (CX:CXT) (k:Nat) (f:Addr) (fd:FuncData) (ps:List Str) (sp:Sp):Prop where
 len:∀vs H Q E,sp vs H Q E→vs.length=ps.length
 run:∀(A:Around) (outer:List Env) (s:Shared) (H:Hp) (args:Args) (us:List Value) (vs:List V) (Q:VK) (E:XK),Room k A→Env0 P w K mg base A outer s H→BindsTo s fd args (ps.zip us)→Vals vs us→sp vs H Q E →
  codeAny (model P w) A (.call (.ref f) args) (CR CX outer P w H s Q E) s
section
variable {X:Cx} {pins:List (Addr×Obj)} {σ:St} {H:Hp} {s s':Shared}
theorem Inv.env0 (I:Inv X pins σ H s):Env0 X.prog X.w X.K X.mg X.base X.A X.stack s H :=
 ⟨I.ok.frames,I.ok.mod,I.bs,Nat.le_trans I.ok.bsz I.sz,I.stack,I.stkFree,I.hok,I.bare⟩
theorem Inv.after {Q:VK} {u:Value} (I:Inv X pins σ H s) (h:CE X.stack X.prog X.w H s Q u s'):EP X pins σ Q u s':=by
 obtain⟨v,H',os,bare,un,hok,r,q⟩:=h
 obtain⟨hh,g,d,t,os'⟩:=s'
 obtain rfl:os'=s.os:=os
 exact⟨v,H',I.call (h':=hh) (g':=g) (d':=d) (t':=t) (ch:=[]) un hok bare (λb z=>absurd z (by simp)),r,q⟩
end
noncomputable def tCall (sp:Sp) (dvs:List V) (E:XK) (t:TA):TE:=λσ H Q=>t σ H λvs H1=>sp (vs++dvs) H1 Q E
noncomputable def Binds (K:PySem.W.Frag) (fd:FuncData) (ps:List Str) (ds:List Value):Prop :=
 ∀(s:Shared) (us:List Value),K.In s.heap→(us++ds).length=ps.length→BindsTo s fd ⟨us,[]⟩ (ps.zip (us++ds))
theorem Binds.all {K:PySem.W.Frag} {fd:FuncData} {ps:List Str} (h:∀us:List Value,us.length=ps.length→bindArgs fd ⟨us,[]⟩=pure (ps.zip us)):Binds K fd ps []:=λs us _ hl=>by
 rw[List.append_nil] at hl ⊢
 exact .of_eq (h us hl)
noncomputable def Passes (CX:CXT) (X:Cx) (E:XK):Prop:=∀(pins:List (Addr×Obj)) (σ:St) (H:Hp) (s:Shared) (e:Value) (s':Shared),Inv X pins σ H s→CX X.stack H s E e s'→X.xe e s'
section
variable {X:Cx} {CX:CXT} {k:Nat} {f C:Addr} {fd:FuncData} {ps:List Str} {sp:Sp} {dvs:List V} {ds:List Value} {E:XK} {x m:Str} {p pos apos:Pos} {e o:Expr} {es:List Expr} {ta:TE} {t:TA}
theorem run_fn {pins:List (Addr×Obj)} {σ:St} {H:Hp} {s:Shared} {Q:VK} {us:List Value} {vs:List V} (F:FnOk X.prog X.w X.K X.mg X.base CX k f fd ps sp) (hr:Room k X.A) (hb:Binds X.K fd ps ds) (hd:Vals dvs ds) (hx:Passes CX X E)
 (I:Inv X pins σ H s) (r:Vals vs us) (h:sp (vs++dvs) H Q E):wpAny (model X.prog X.w) X.A (call (.ref f) us) (EP X pins σ Q) X.xe s:=by
 have r2:Vals (vs++dvs) (us++ds):=r.append hd
 have hl:(us++ds).length=ps.length:=by rw[←r2.length];exact F.len _ _ _ _ h
 refine wpAny_call (codeAny_mono (F.run X.A X.stack s H ⟨us,[]⟩ (us++ds) (vs++dvs) Q E hr I.env0 (hb s us I.kIn hl) r2 h) λr s' hq=>?_)
 cases r with
 | error e=>exact hx pins σ H s e s' I hq
 | ok fl =>
  cases fl with
  | ret u=>exact I.after hq
  | next=>exact False.elim hq
  | brk=>exact False.elim hq
  | cont=>exact False.elim hq
theorem pe_call (F:FnOk X.prog X.w X.K X.mg X.base CX k f fd ps sp) (hr:Room k X.A) (hg:Gl X x) (hm:X.mg x=some (.ref f)) (hk:PySem.W.keepIn X.K (.ref f)=true) (hb:Binds X.K fd ps ds) (hd:Vals dvs ds) (hx:Passes CX X E)
 (ha:PA X (e::es) t) (hdb:(x==("__debug__" : Str))=false:=by decide) (he:starEach (e::es) X.env=(false,eval e X.env)::starEach es X.env:=by rfl) (hpl:(backTo pos (starEach es X.env)).any (·.1)=false:=by rfl) :
 PE X (.Call (.Name x p) (e::es) [] pos) (tCall sp dvs E t):=by
 intro pins s σ H Q I h
 refine wpAny_Call_Name_kw (ld_glob I hg hm ?_ hdb)
 refine PySem.W.callWith_K (h₀:=X.base) I.ok.mod.kin hk (thn (ha pos pins s σ H _ I h) λus s1 ⟨vs,H1,I1,r,q⟩=>⟨I1.kIn,?_⟩) he hpl
 exact run_fn F hr hb hd hx I1 r q
theorem pe_call0 (F:FnOk X.prog X.w X.K X.mg X.base CX k f fd ps sp) (hr:Room k X.A) (hg:Gl X x) (hm:X.mg x=some (.ref f)) (hk:PySem.W.keepIn X.K (.ref f)=true) (hb:Binds X.K fd ps ds) (hd:Vals dvs ds) (hx:Passes CX X E)
 (hdb:(x==("__debug__" : Str))=false:=by decide):PE X (.Call (.Name x p) [] [] pos) (tCall sp dvs E tNil):=by
 intro pins s σ H Q I h
 refine wpAny_Call_Name_kw (ld_glob I hg hm ?_ hdb)
 exact PySem.W.callWith_K0 I.kIn hk (run_fn (us:=[]) F hr hb hd hx I .nil h)
end
section
variable {X:Cx} {CX:CXT} {k:Nat} {f C:Addr} {fd:FuncData} {ps ks:List Str} {sp:Sp} {E:XK} {x m:Str} {p pos apos kpos:Pos} {e o:Expr} {es:List Expr} {kws:List Keyword} {te ta:TE} {t tk:TA} {nm:Option Str}
variable {g:List Value→List Value→List Value} {gV:List V→List V→List V}
end
set_option genInjectivity false in
structure FnScope (N P:List Str) (sc:Scope):Prop where
 kind:sc.kind=.function
 co:sc.isCoroutine=false
 gen:sc.isGenerator=false
 nd:N.Nodup
 pre:N.take P.length=P
 par:∀x∈P,sc.names.lookup x=some .local∨sc.names.lookup x=some .cell
 nofree:∀y∈sc.names,y.2≠.free
theorem bindL_out {kindOf:Str→Option NameKind} {x:Str}:∀ {binds:List (Str×Value)} {m:Str→Option Value},(∀v,(x,v)∉binds)→bindL kindOf binds m x=m x
 | [],_,_=>rfl
 | (n,v)::r,m,h=>by
  unfold bindL
  rw[bindL_out λw hw=>h w (List.mem_cons_of_mem _ hw)]
  split
  ·have:x≠n:=by rintro rfl;exact h v List.mem_cons_self
   simp[this]
  ·rfl
theorem bindC_out {kindOf:Str→Option NameKind} {x:Str}:∀ {binds:List (Str×Value)} {m:Str→Option Value},(∀v,(x,v)∉binds)→bindC kindOf binds m x=m x
 | [],_,_=>rfl
 | (n,v)::r,m,h=>by
  unfold bindC
  rw[bindC_out λw hw=>h w (List.mem_cons_of_mem _ hw)]
  split
  ·rfl
  ·have:x≠n:=by rintro rfl;exact h v List.mem_cons_self
   simp[this]
theorem bindL_get {kindOf:Str→Option NameKind} {x:Str} {v:Value}:∀ {P:List Str} {vs:List Value} {i:Nat} {m:Str→Option Value},P.Nodup→P[i]?=some x→vs[i]?=some v→kindOf x=some .local →
 bindL kindOf (P.zip vs) m x=some v
 | [],_,_,_,_,h,_,_=>by simp at h
 | _::_,[],_,_,_,_,h,_=>by simp at h
 | p::P,w::vs,0,m,nd,h1,h2,hk=>by
  simp at h1 h2;subst h1;subst h2
  show bindL kindOf ((p,w)::P.zip vs) m p=_
  unfold bindL
  rw[bindL_out λv hv=>(List.nodup_cons.mp nd).1 (List.of_mem_zip hv).1,if_pos hk]
  simp
 | p::P,w::vs,i+1,m,nd,h1,h2,hk=>by
  show bindL kindOf ((p,w)::P.zip vs) m x=_
  unfold bindL
  exact bindL_get (i:=i) (List.nodup_cons.mp nd).2 (by simpa using h1) (by simpa using h2) hk
theorem bindC_get {kindOf:Str→Option NameKind} {x:Str} {v:Value}:∀ {P:List Str} {vs:List Value} {i:Nat} {m:Str→Option Value},P.Nodup→P[i]?=some x→vs[i]?=some v→kindOf x≠some .local →
 bindC kindOf (P.zip vs) m x=some v
 | [],_,_,_,_,h,_,_=>by simp at h
 | _::_,[],_,_,_,_,h,_=>by simp at h
 | p::P,w::vs,0,m,nd,h1,h2,hk=>by
  simp at h1 h2;subst h1;subst h2
  show bindC kindOf ((p,w)::P.zip vs) m p=_
  unfold bindC
  rw[bindC_out λv hv=>(List.nodup_cons.mp nd).1 (List.of_mem_zip hv).1,if_neg hk]
  simp
 | p::P,w::vs,i+1,m,nd,h1,h2,hk=>by
  show bindC kindOf ((p,w)::P.zip vs) m x=_
  unfold bindC
  exact bindC_get (i:=i) (List.nodup_cons.mp nd).2 (by simpa using h1) (by simpa using h2) hk
noncomputable def start (N:List Str) (vs:List V):St:=vs.map some++List.replicate (N.length - vs.length) none
noncomputable def cxOf (CX:CXT) (P:Program) (w:World) (K:PySem.W.Frag) (mg:Str→Option Value) (base:Heap) (N:List Str) (qual:Str) (scope:Scope) (f:Addr) (cd:Value) (A:Around) (outer:List Env) (s:Shared) (H:Hp) (E:XK):Cx where
 prog:=P
 w:=w
 K:=K
 mg:=mg
 base:=base
 A:=A.deeper (envOfC qual scope s.heap.objs.size f cd)
 N:=N
 s₀:=s
 H₀:=H
 env:=envOfC qual scope s.heap.objs.size f cd
 outer:=outer
 stack:=envOfC qual scope s.heap.objs.size f cd::outer
 ex:=[]
 calm:=true
 fn:=λ_=>true
 pn:=[]
 xe:=λe s'=>wpAny (model P w) (A.deeper (envOfC qual scope s.heap.objs.size f cd)) (leaving (envOfC qual scope s.heap.objs.size f cd) e) (λ_ s''=>CX outer H s E e s'') (λe' s''=>CX outer H s E e' s'') s'
theorem cell_has {sc:Scope} {n:Nat} {x:Str} (h:sc.names.lookup x=some .cell):∃c,(cellsFrom n sc.names []).lookup x=some c:=by
 have q:=PySem.W.cellsFrom_some sc.names n [] (.inl h)
 exact Option.isSome_iff_exists.mp q
theorem inv_start {CX:CXT} {P:Program} {w:World} {K:PySem.W.Frag} {mg:Str→Option Value} {base:Heap} {N ps:List Str} {qual:Str} {scope:Scope} {f:Addr} {cd:Value} {A:Around} {outer:List Env} {s s1:Shared} {H:Hp} {E:XK} {us:List Value} {vs:List V}
 (S:FnScope N ps scope) (hd:A.handled=none) (e0:Env0 P w K mg base A outer s H) (hl:vs.length=ps.length) (r:Vals vs us)
 (x:InCallC s s.heap.objs.size (bindL (envOfC qual scope s.heap.objs.size f cd).kindOf (ps.zip us) λ_=>none) (cellsFrom (s.heap.objs.size+1) scope.names []) (bindC (envOfC qual scope s.heap.objs.size f cd).kindOf (ps.zip us) λ_=>none) s1) :
 Inv (cxOf CX P w K mg base N qual scope f cd A outer s H E) [] (start N vs) H s1:=by
 have hpl:ps.length≤N.length:=by have:=congrArg List.length S.pre;rw[List.length_take] at this;lia
 obtain⟨h1,tk,rfl,hk⟩:=x.done
 have noA:∀b:Addr,b∉(cxOf CX P w K mg base N qual scope f cd A outer s H E).ex:=λb z=>absurd (show b∈([]:List Addr) from z) (by simp)
 refine⟨⟨e0.mod,S.kind,rfl,rfl,Nat.le_refl _,λy z c h1 h2=>?_,λy hy=>?_,λy c _ h=>?_,λ_=>hd,Around.frames_deeper e0.frames,.inr ⟨rfl,rfl⟩,λb z=>absurd z (noA b),e0.bs,e0.bsz,λb _ _=>noA b,λb z=>absurd z (noA b),e0.funs,e0.frf⟩,
  rfl,e0.bare,Un.kept hk,⟨_,x.toInCall.ns,λi y v h1 h2 h3=>?_⟩,λy c h=>⟨_,x.cell y c h⟩,e0.hok.fresh (Nat.le_refl _),λy c h=>?_,λp hp=>absurd (show p∈([]:List (Addr×Obj)) from hp) (by simp),e0.hok.kept hk,?_⟩
 ·exact name_of_addr x.apart (PySem.mem_of_lookup h1) (PySem.mem_of_lookup h2)
 ·have hy:scope.names.lookup y=some .cell∨scope.names.lookup y=some .free:=hy
  rcases hy with hy | hy
  ·exact cell_has hy
  ·exact absurd rfl (S.nofree _ (PySem.mem_of_lookup hy))
 ·exact Nat.le_of_lt (x.above y c (PySem.mem_of_lookup h))
 ·have hi:i < vs.length:=by
   unfold start at h2
   by_cases hi:i < vs.length
   ·exact hi
   ·rw[List.getElem?_append_right (by simpa using hi)] at h2
    rw[List.getElem?_replicate] at h2
    split at h2<;>cases h2
  have ha:vs[i]?=some v:=by
   unfold start at h2
   rw[List.getElem?_append_left (by simpa using hi),List.getElem?_map] at h2
   cases e:vs[i]? with
   | none=>rw[e] at h2;cases h2
   | some a=>rw[e] at h2;cases h2;rfl
  obtain⟨u,hu,rv⟩:=r.get ha
  have hp:ps[i]?=some y:=by
   rw[←S.pre,List.getElem?_take_of_lt (by lia)];exact h1
  have ndP:ps.Nodup:=by rw[←S.pre];exact S.nd.sublist (List.take_sublist _ _)
  refine⟨u,rv,?_⟩
  rcases S.par y (List.mem_of_getElem? hp) with k | k
  ·exact .inl ⟨k,bindL_get ndP hp hu k⟩
  ·obtain⟨c,e⟩:=cell_has (n:=s.heap.objs.size+1) k
   refine .inr ⟨.inl k,c,e,?_⟩
   have q:=x.cell y c e
   rw[bindC_get ndP hp hu (by show scope.names.lookup y≠_;rw[k];decide)] at q
   exact q
 ·exact e0.hok.fresh (Nat.le_of_lt (x.above y c (PySem.mem_of_lookup h)))
 ·unfold start
  show _=N.length
  rw[List.length_append,List.length_map,List.length_replicate]
  lia
theorem fn_of {CX:CXT} {P:Program} {w:World} {K:PySem.W.Frag} {mg:Str→Option Value} {base:Heap} {k:Nat} {f:Addr} {name qual:Str} {params:Arguments} {body:List Stmt} {scope:Scope} {dV kV doc pm cdv ct oc:Value} {an od:Option Addr}
 {osl:Array (Option Value)} {N ps:List Str} {sp:Sp} (lk:K.lookup f=some ⟨oc,od,.func (PySem.W.fnOf name qual params body scope dV kV doc pm an cdv ct),osl⟩) (hcd:PySem.W.codeIn K cdv qual=true) (S:FnScope N ps scope)
 (len:∀vs H Q E,sp vs H Q E→vs.length=ps.length)
 (hbody:∀(A:Around) (outer:List Env) (s:Shared) (H:Hp) (vs:List V) (Q:VK) (E:XK),Room k (A.deeper (envOfC qual scope s.heap.objs.size f cdv))→sp vs H Q E →
  ∃t,PSs (cxOf CX P w K mg base N qual scope f cdv A outer s H E) body t∧t { nx:=λ_ H'=>Q .non H',rt:=Q } (start N vs) H) :
 FnOk P w K mg base CX (k+1) f (PySem.W.fnOf name qual params body scope dV kV doc pm an cdv ct) ps sp:=by
 refine⟨len,λA outer s H args us vs Q E hr e0 hb r hsp=>?_⟩
 have hl:=len _ _ _ _ hsp
 have KX:K.In s.heap:=e0.mod.kin.keeps λb o e=>(e0.bs b o e).1
 have lim:s.heap.NoLimit:=e0.mod.nolimit.keeps λb o e=>(e0.bs b o e).1
 have hkind:∀y∈ps.zip us,scope.names.lookup y.1=some .local∨(scope.names.lookup y.1=some .cell∧((cellsFrom (s.heap.objs.size+1) scope.names []).lookup y.1).isSome=true):=λ⟨n,v⟩ hy=>by
  rcases S.par n (List.of_mem_zip hy).1 with q | q
  ·exact .inl q
  ·exact .inr ⟨q,PySem.W.cellsFrom_some _ _ _ (.inl q)⟩
 refine codeAny_call_function hr.depth (KX _ _ lk) rfl S.co S.gen rfl (PySem.W.codeRec_of KX hcd) (hb _ _ _ _ ?_)
 refine wpAny_newFunctionEnv_cells S.kind hkind λenv he s1 x=>?_
 subst he
 refine⟨lim.keeps x.toInCall.keep,codeAny_func ?_⟩
 obtain⟨t,ht,hq⟩:=hbody A outer s H vs Q E (hr.deeper _) hsp
 have I:Inv (cxOf CX P w K mg base N qual scope f cdv A outer s H E) [] (start N vs) H s1:=inv_start S hr.hd e0 hl r x
 refine wpAny_mono (ht [] s1 (start N vs) H _ I hq) (λfl s' hs=>?_) λe s' hs=>hs
 have fin:∀ {σ':St} {H':Hp} {v:V} {u:Value},Inv (cxOf CX P w K mg base N qual scope f cdv A outer s H E) [] σ' H' s'→RelV v u→Q v H'→CE outer P w H s Q u s' :=
  λ{σ' H' v u} J rv q=>⟨v,H',J.os,J.bare,J.base,J.hok,rv,q⟩
 cases fl with
 | ret u =>
  obtain⟨v,σ',H',J,rv,q⟩:=hs
  exact fin J rv q
 | next =>
  obtain⟨σ',H',J,q⟩:=hs
  exact fin (v:=V.non) (u:=Value.none) J rfl q
 | brk =>
  obtain⟨_,_,_,q⟩:=hs
  exact False.elim q
 | cont =>
  obtain⟨_,_,_,q⟩:=hs
  exact False.elim q
section
variable {X:Cx} {x:Str} {p pos:Pos} {e:Expr} {es:List Expr} {t:TA} {id T:String} {r:List V→Hp→VK→Prop}
noncomputable def tCB (r:List V→Hp→VK→Prop) (t:TA):TE:=λσ H Q=>t σ H λvs H1=>r vs H1 Q
theorem pe_callB (hc:CallR X (.builtin id) r) (hg:Gl X x) (hm:X.mg x=none) (hv:bootBuiltins x=some (.builtin id)) (ha:PA X (e::es) t) (hn:x ≠ "__name__" := by decide) (hdb:(x==("__debug__" : Str))=false:=by decide)
 (he:starEach (e::es) X.env=(false,eval e X.env)::starEach es X.env:=by rfl) (hpl:(backTo pos (starEach es X.env)).any (·.1)=false:=by rfl):PE X (.Call (.Name x p) (e::es) [] pos) (tCB r t):=by
 intro pins s σ H Q I h
 refine wpAny_Call_Name_kw (ld_blt I hg hm hv ?_ hn hdb)
 exact PyProof.Rows.callWith_builtin1 (thn (ha pos pins s σ H _ I h) λus s1 ⟨vs,H1,I1,r1,q1⟩=>hc pins s1 σ H1 vs us Q I1 r1 q1) he hpl
theorem pe_callTy (hc:CallR X (.type T) r) (hg:Gl X x) (hm:X.mg x=none) (hv:bootBuiltins x=some (.type T)) (ha:PA X (e::es) t) (hn:x ≠ "__name__" := by decide) (hdb:(x==("__debug__" : Str))=false:=by decide)
 (he:starEach (e::es) X.env=(false,eval e X.env)::starEach es X.env:=by rfl) (hpl:(backTo pos (starEach es X.env)).any (·.1)=false:=by rfl):PE X (.Call (.Name x p) (e::es) [] pos) (tCB r t):=by
 intro pins s σ H Q I h
 refine wpAny_Call_Name_kw (ld_blt I hg hm hv ?_ hn hdb)
 exact PyProof.Rows.callWith_type1 (thn (ha pos pins s σ H _ I h) λus s1 ⟨vs,H1,I1,r1,q1⟩=>hc pins s1 σ H1 vs us Q I1 r1 q1) he hpl
end
end L2
namespace HT
open PySem PyProof.Rows
section
open PySem.SeqAt
open PySem.AutoSeq1 (wpAny_loadPart')
open PySem.MeetsSeq PySem.MeetsSeq2 PySem.MeetsSeq3
end
section
variable {prog:Program} {w:World} {A:Around} {E:Value→Shared→Prop} {s:Shared}
theorem cat_tup {t b:Addr} {vs ws:List Value} {Q:Value→Shared→Prop} (ht:IsTup s.heap t vs.toArray) (hb:IsTup s.heap b ws.toArray) (hv:vs≠[])
 (h1:ws=[]→Q (.ref t) s) (h2:ws≠[]→Q (.ref s.heap.objs.size) { s with heap:=s.heap.push { cls:=.type "tuple", data:=.seq (vs++ws).toArray } })
 (hsz:vs.length+ws.length≤sizeLine):wpAny (model prog w) A (binaryOp .Add (.ref t) (.ref b)) Q E s:=by
 obtain⟨⟨cls,dd,data,sl⟩,ho,hc,n,hd⟩:=id ht
 obtain⟨⟨cls2,dd2,data2,sl2⟩,ho2,hc2,n2,hd2⟩:=id hb
 simp only at hc hd hc2 hd2
 subst hc hd hc2 hd2
 have e:vs.toArray++ws.toArray=(vs++ws).toArray:=by simp
 by_cases hw:ws=[]
 ·exact concat_meets ⟨_,ho,rfl⟩ ⟨_,ho2,rfl⟩ noFill_tuple_add seq_tuple_add PySem.F.slot_tuple_add PySem.F.entry_tuple_add (PySem.F.args_tuple_add_2 _ _)
   (tuple_addW1 t b vs.toArray ws.toArray n n2 dd dd2 sl sl2 (by simpa using hv) (by simp[hw])) ⟨ho,ho2,h1 hw⟩
 ·refine concat_meets ⟨_,ho,rfl⟩ ⟨_,ho2,rfl⟩ noFill_tuple_add seq_tuple_add PySem.F.slot_tuple_add PySem.F.entry_tuple_add (PySem.F.args_tuple_add_2 _ _)
   (tuple_addW2 t b vs.toArray ws.toArray n n2 dd dd2 sl sl2 (by simpa using hv) (by simpa using hw) (by rw[List.size_toArray,List.size_toArray];exact hsz)) ⟨ho,ho2,?_⟩
  rw[e]
  exact h2 hw
noncomputable def sIx (n d:Nat):Option Int→Nat
 | none=>d
 | some v=>if v < 0 then (v+(n:Int)).toNat else min v.toNat n
theorem sIx_le (n d:Nat) (hd:d≤n) (o:Option Int):sIx n d o≤n:=by
 cases o with
 | none=>exact hd
 | some v =>
  show (if v < 0 then (v+(n:Int)).toNat else min v.toNat n)≤n
  by_cases hv:v < 0
  ·rw[if_pos hv];lia
  ·rw[if_neg hv];exact Nat.min_le_right _ _
theorem clip_eq (v:Int) (n d:Nat):(if v < 0 then max (v+(n:Int)) 0 else min v (n:Int))=((sIx n d (some v):Nat):Int):=by
 show (if v < 0 then max (v+(n:Int)) 0 else min v (n:Int))=(((if v < 0 then (v+(n:Int)).toNat else min v.toNat n):Nat):Int)
 by_cases hv:v < 0
 ·simp only[if_pos hv];lia
 ·simp only[if_neg hv];lia
theorem adjust_gen (lo hi:Option Int) (n:Nat):Builtin.Slice.sliceAdjust lo hi 1 (n:Int)=(((sIx n 0 lo:Nat):Int),((sIx n n hi:Nat):Int)):=by
 have h1:¬((1:Int) < 0):=by lia
 unfold Builtin.Slice.sliceAdjust
 simp only[h1,if_false]
 refine Prod.ext ?_ ?_
 ·cases lo with
  | none=>rfl
  | some v=>exact clip_eq v n 0
 ·cases hi with
  | none=>rfl
  | some v=>exact clip_eq v n n
theorem places_gen (i j:Nat):Builtin.Slice.slicePlaces (i:Int) (j:Int) 1=j - i:=by
 unfold Builtin.Slice.slicePlaces
 have h1:(1:Int) > 0:=by lia
 simp only[h1,if_true,Int.ediv_one]
 split<;>lia
theorem slicePart_ {v:Value} {o:Option Int} {Q:Option Int→Shared→Prop} (p:IsPart v o) (h:Q o s):wpAny (model prog w) A (Builtin.Slice.slicePartIndex v) Q E s:=by
 cases p with
 | none=>exact slicePart_none h
 | int i t=>exact slicePart_int h
theorem sliceApplied_gen {sl:Addr} {vl vu:Value} {lo hi:Option Int} {n:Nat} {Q:Int×Int×Nat→Shared→Prop} (hs:s.heap.IsSliceOf sl vl vu .none) (pl:IsPart vl lo) (pu:IsPart vu hi)
 (h:Q (((sIx n 0 lo:Nat):Int),1,sIx n n hi - sIx n 0 lo) s):wpAny (model prog w) A (Builtin.Slice.sliceApplied (.ref sl) (pure (n:Int))) Q E s:=by
 obtain⟨os,hos,hcs,hds⟩:=id hs
 unfold Builtin.Slice.sliceApplied Builtin.Slice.sliceFields
 refine wpAny_bind (wpAny_bind (wpAny_field hos hds (x:=vl) rfl (wpAny_bind (wpAny_field hos hds (x:=vu) rfl (wpAny_bind (wpAny_field hos hds (x:=.none) rfl (wpAny_pure ?_)))))))
 refine wpAny_bind (slicePart_none ?_)
 show wpAny _ _ (if ((1:Int)==0)=true then _ else _) _ _ s
 rw[if_neg (by decide)]
 refine wpAny_bind (slicePart_ pl (wpAny_bind (slicePart_ pu (wpAny_bind (wpAny_pure ?_)))))
 show wpAny _ _ (match Builtin.Slice.sliceAdjust lo hi 1 (n:Int) with | (lo,hi)=>pure (lo,(1:Int),Builtin.Slice.slicePlaces lo hi 1)) _ _ s
 rw[adjust_gen lo hi n]
 show wpAny _ _ (pure (((sIx n 0 lo:Nat):Int),(1:Int),Builtin.Slice.slicePlaces ((sIx n 0 lo:Nat):Int) ((sIx n n hi:Nat):Int) 1)) _ _ s
 rw[places_gen]
 exact wpAny_pure h
theorem pick_gen (xs:Array Value) (i k:Nat):((List.range k).filterMap λ(m:Nat)=>xs[((i:Int)+(m:Int)*1).toNat]?).toArray=((xs.toList.drop i).take k).toArray:=by
 have e:(λ(m:Nat)=>xs[((i:Int)+(m:Int)*1).toNat]?)=λm=>xs[i+m]?:=by
  funext m
  have:((i:Int)+(m:Int)*1).toNat=i+m:=by lia
  rw[this]
 rw[e]
 have:=pick_run xs i k
 rw[List.filterMap_map] at this
 have e2:((λx=>xs[x]?)∘λx=>i+x)=λm=>xs[i+m]?:=rfl
 rw[e2] at this
 rw[this]
theorem getItem_tuple_cut {t sl:Addr} {items:Array Value} {vl vu:Value} {lo hi:Option Int} {Q:Value→Shared→Prop} (ht:IsTup s.heap t items) (hs:s.heap.IsSliceOf sl vl vu .none) (pl:IsPart vl lo) (pu:IsPart vu hi)
 (hw:¬(sIx items.size 0 lo=0∧sIx items.size items.size hi=items.size))
 (h:Q (.ref s.heap.objs.size) { s with heap:=s.heap.push { cls:=.type "tuple", data:=.seq ((items.toList.drop (sIx items.size 0 lo)).take (sIx items.size items.size hi - sIx items.size 0 lo)).toArray } })
 (hsz:items.size≤sizeLine):wpAny (model prog w) A (getItem (.ref t) (.ref sl)) Q E s:=by
 have htake:sizeOk (.seq ((items.toList.drop (sIx items.size 0 lo)).take (sIx items.size items.size hi - sIx items.size 0 lo)).toArray):=by
  show ((items.toList.drop (sIx items.size 0 lo)).take (sIx items.size items.size hi - sIx items.size 0 lo)).toArray.size≤sizeLine
  rw[List.size_toArray,List.length_take,List.length_drop,Array.length_toList]
  lia
 have hj:sIx items.size items.size hi≤items.size:=sIx_le _ _ (Nat.le_refl _) hi
 obtain⟨os,hos,hcs,hds⟩:=id hs
 have hTs:s.TypeIs (.ref sl) "slice" := ⟨os,hos,hcs⟩
 unfold getItem
 try with_reducible refine wpAny_holding ?_
 first | refine wpAny_bind (wpAny_pure ?_) | skip
 refine wpAny_bind (wpAny_sequenceKey ht.typeIs (by decide) ?_)
 refine wpAny_bind (wpAny_callSpecial?_slot (name:=Str.ofString "__getitem__") ht.typeIs PyProof.Rows.slot_tuple_getitem
  (wpAny_call_entry PyProof.Rows.slot_tuple_getitem ht.typeIs entry_tuple_getitem ?_ (args_tuple_getitem _ _)))
 show wpAny _ _ (Builtin.Tuple.tupleItemsOf (.ref t)>>=_) _ _ s
 refine wpAny_bind (tupleItemsOf_ ht ?_)
 refine wpAny_bind (wpAny_typeOf hTs ?_)
 rw[if_pos (by decide)]
 refine wpAny_bind (sliceApplied_gen hs pl pu ?_)
 have hno:¬((((sIx items.size 0 lo:Nat):Int)==0&&(1:Int)==1&&(sIx items.size items.size hi - sIx items.size 0 lo)==items.size)=true):=by
  intro q
  rw[Bool.and_eq_true,Bool.and_eq_true] at q
  have q1:((sIx items.size 0 lo:Nat):Int)=0:=eq_of_beq q.1.1
  have q2:sIx items.size items.size hi - sIx items.size 0 lo=items.size:=eq_of_beq q.2
  exact hw ⟨by lia,by lia⟩
 show wpAny _ _ (if (((sIx items.size 0 lo:Nat):Int)==0&&(1:Int)==1&&(sIx items.size items.size hi - sIx items.size 0 lo)==items.size)=true then _ else _) _ _ s
 rw[if_neg hno,pick_gen]
 first
  | exact wpAny_bind (m:=Builtin.Tuple.tupleExact _) (wpAny_newObj_type (wpAny_pure ⟨_,rfl,wpAny_pure h⟩) htake)
  | exact wpAny_bind (m:=Builtin.Tuple.tupleExact _) (wpAny_newObj_type (wpAny_bind (wpAny_pure (wpAny_pure ⟨_,rfl,wpAny_pure h⟩))) htake)
  | exact wpAny_bind (wpAny_bind (m:=Builtin.Tuple.tupleExact _) (wpAny_newObj_type (wpAny_pure (wpAny_pure ⟨_,rfl,wpAny_pure h⟩)) htake))
  | exact wpAny_bind (wpAny_bind (m:=Builtin.Tuple.tupleExact _) (wpAny_newObj_type (wpAny_pure ⟨_,rfl,wpAny_pure h⟩) htake))
end
end HT
namespace L2
open PySem PySem.Spec PyProof.Rows
noncomputable abbrev TO:=St→Hp→(Option Int→Hp→Prop)→Prop
noncomputable def PO (X:Cx) (e:Option Expr) (t:TO):Prop :=
 ∀(pins:List (Addr×Obj)) (s:Shared) (σ:St) (H:Hp) (Q:Option Int→Hp→Prop),Inv X pins σ H s→t σ H Q →
  wpAny (model X.prog X.w) X.A (evalPart e X.env) (λu s'=>∃o H',Inv X pins σ H' s'∧IsPart u o∧Q o H') X.xe s
noncomputable def tNoPart:TO:=λ_ H Q=>Q none H
theorem intsAre_of {ns:List Int}:∀ {us:List Value},Vals (ns.map V.int) us→IntsAre us ns:=by
 induction ns with
 | nil=>intro us r;rw[List.map_nil] at r;cases r;exact .nil
 | cons n ns ih =>
  intro us r
  rw[List.map_cons] at r
  cases r with
  | cons r1 r2 =>
   obtain⟨t,e⟩:=r1
   subst e
   exact .cons n t (ih r2)
section
variable {X:Cx} {e:Expr} {te:TE} {lo hi:Option Expr} {tl th:TO} {pos p2:Pos}
theorem po_none:PO X none tNoPart:=by
 intro pins s σ H Q I h
 rw[evalPart_none]
 exact wpAny_pure ⟨none,H,I,.none,h⟩
noncomputable def SlR (X:Cx) (r:V→Option Int→Option Int→Hp→VK→Prop):Prop :=
 ∀(pins:List (Addr×Obj)) (s:Shared) (σ:St) (H:Hp) (x:V) (v vl vu:Value) (lo hi:Option Int) (sl:Addr) (Q:VK),Inv X pins σ H s→RelV x v→s.heap.IsSliceOf sl vl vu .none→IsPart vl lo→IsPart vu hi→r x lo hi H Q →
  ∃T id,typeLookup (.type T) "__getitem__" = pure (some (.builtin id))∧s.TypeIs v T∧wpAny (model X.prog X.w) X.A (getItem v (.ref sl)) (EP X pins σ Q) X.xe s
noncomputable def tSl (r:V→Option Int→Option Int→Hp→VK→Prop) (te:TE) (tl th:TO):TE:=λσ H Q=>te σ H λx H1=>tl σ H1 λl H2=>th σ H2 λu H3=>r x l u H3 Q
theorem pe_slice {r:V→Option Int→Option Int→Hp→VK→Prop} (hr:SlR X r) (he:PE X e te) (hl:PO X lo tl) (hu:PO X hi th):PE X (.Subscript e (.Slice lo hi none p2) pos) (tSl r te tl th):=by
 intro pins s σ H Q I h
 refine Subscript_ (thn (he pins s σ H _ I h) λv s1 ⟨x,H1,I1,r1,q1⟩=>?_)
 refine wpAny_Slice (thn (hl pins s1 σ H1 _ I1 q1) λvl s2 ⟨l,H2,I2,pl,q2⟩=>thn (hu pins s2 σ H2 _ I2 q2) λvu s3 ⟨u,H3,I3,pu,q3⟩=>?_)
 rw[evalPart_none]
 refine wpAny_pure ?_
 have I4:Inv X pins σ H3 { s3 with heap:=s3.heap.push { cls:=.type "slice", data:=.fields #[vl,vu,.none] } }:=I3.kept (t':=s3.toks) λb ob q=>Heap.get?_push_of_some _ q
 obtain⟨T,id,hT,ht,hg⟩:=hr pins { s3 with heap:=s3.heap.push { cls:=.type "slice", data:=.fields #[vl,vu,.none] } } σ H3 x v vl vu l u s3.heap.objs.size Q I4 r1 (Heap.IsSliceOf.new ..) pl pu q3
 show wpAny (model X.prog X.w) X.A (subscriptTail e (.Slice lo hi none p2) v (.ref s3.heap.objs.size)) (EP X pins σ Q) X.xe { s3 with heap:=s3.heap.push { cls:=.type "slice", data:=.fields #[vl,vu,.none] } }
 exact tail_any (ops:=[.ref s3.heap.objs.size,v]) ht hT hg (by with_unfolding_all rfl)
noncomputable def cutV (xs:List V) (lo hi:Option Int):List V:=(xs.drop (HT.sIx xs.length 0 lo)).take (HT.sIx xs.length xs.length hi - HT.sIx xs.length 0 lo)
theorem cutV_length (xs:List V) (lo hi:Option Int):(cutV xs lo hi).length≤xs.length:=by
 unfold cutV
 rw[List.length_take,List.length_drop]
 lia
noncomputable def rSlT (K:PySem.W.Frag):V→Option Int→Option Int→Hp→VK→Prop:=λx lo hi H Q=>∃a xs,x=.ref a∧SqT K H a xs ∧
 ¬(HT.sIx xs.length 0 lo=0∧HT.sIx xs.length xs.length hi=xs.length)∧∀p,H p=none→Q (.ref p) (upd H p (.tup (cutV xs lo hi)))
theorem sl_tup:SlR X (rSlT X.K):=by
 intro pins s σ H x v vl vu lo hi sl Q I rx hs pl pu h
 obtain⟨a,xs,rfl,hx,hw,q⟩:=h
 cases rx
 obtain⟨its,r,ht,hz⟩:=I.tuple hx
 have hlen:its.toArray.size=xs.length:=by rw[List.size_toArray];exact r.length.symm
 refine⟨"tuple", _,PyProof.Rows.slot_tuple_getitem.lookup,ht.typeIs,?_⟩
 refine HT.getItem_tuple_cut ht hs pl pu (by rw[hlen];exact hw) ?_ (by rw[hlen];exact hz)
 rw[hlen]
 refine⟨.ref s.heap.objs.size,_,I.laid (t':=s.toks) (o:=.tup (cutV xs lo hi)) (λb ob q=>Heap.get?_push_of_some _ q) (Nat.le_refl _) ?_,rfl,q _ (I.hok.fresh (Nat.le_refl _))⟩
 exact⟨Nat.le_trans (cutV_length xs lo hi) hz,_,(r.drop (HT.sIx xs.length 0 lo)).take (HT.sIx xs.length xs.length hi - HT.sIx xs.length 0 lo),IsTup.new _ _⟩
noncomputable def rCatT (K:PySem.W.Frag):R2:=λx y H Q=>∃a b xs ys,x=.ref a∧y=.ref b∧SqT K H a xs∧SqT K H b ys∧xs≠[]∧xs.length+ys.length≤sizeLine ∧
 (ys=[]→Q (.ref a) H)∧(ys≠[]→∀p,H p=none→Q (.ref p) (upd H p (.tup (xs++ys))))
theorem Vals.nil_iff {xs:List V} {us:List Value} (r:Vals xs us):us=[]↔xs=[]:=by
 cases r with
 | nil=>simp
 | cons _ _=>simp
theorem op_catT:OpR X (binaryOp .Add) (rCatT X.K):=by
 intro pins s σ H x y v u Q I rx ry h
 obtain⟨a,b,xs,ys,rfl,rfl,ha,hb,hx,hz,q1,q2⟩:=h
 cases rx
 cases ry
 obtain⟨its,r1,p1,_⟩:=I.tuple ha
 obtain⟨its2,r2,p2,_⟩:=I.tuple hb
 refine HT.cat_tup p1 p2 (λz=>hx (r1.nil_iff.mp z)) (λz=>⟨.ref a,H,I,rfl,q1 (r2.nil_iff.mp z)⟩) (λz=>?_) (by rw[←r1.length,←r2.length];exact hz)
 refine⟨.ref s.heap.objs.size,_,I.laid (t':=s.toks) (o:=.tup (xs++ys)) (λb ob q=>Heap.get?_push_of_some _ q) (Nat.le_refl _) ?_,rfl,q2 (λw=>z (r2.nil_iff.mpr w)) _ (I.hok.fresh (Nat.le_refl _))⟩
 exact⟨by rw[List.length_append];exact hz,_,r1.append r2,IsTup.new _ _⟩
end
noncomputable def ixN (n:Nat) (i:Int):Option Nat:=if 0≤i then (if i < n then some i.toNat else none) else if -(n:Int)≤i then some (i+n).toNat else none
noncomputable def atI {α:Type} (xs:List α) (i:Int):Option α:=(ixN xs.length i).bind λj=>xs[j]?
theorem ixN_seq {n:Nat} {i:Int} {j:Nat} (h:ixN n i=some j):seqIndex? i n=some j∧j < n ∧ -(n:Int)≤i∧i < n:=by
 unfold ixN at h
 by_cases h0:0≤i
 ·rw[if_pos h0] at h
  by_cases h1:i < n
  ·rw[if_pos h1] at h
   have e:i.toNat=j:=Option.some.inj h
   exact⟨by rw[seqIndex_of h0 h1,e],by lia,by lia,h1⟩
  ·rw[if_neg h1] at h;cases h
 ·rw[if_neg h0] at h
  by_cases h1:-(n:Int)≤i
  ·rw[if_pos h1] at h
   have e:(i+n).toNat=j:=Option.some.inj h
   exact⟨by rw[seqIndex_neg (by lia) h1,e],by lia,h1,by lia⟩
  ·rw[if_neg h1] at h;cases h
theorem atI_get {α:Type} {xs:List α} {i:Int} {v:α} (h:atI xs i=some v):∃j,seqIndex? i xs.length=some j∧xs[j]?=some v∧j < xs.length ∧ -(xs.length:Int)≤i∧i < xs.length:=by
 unfold atI at h
 cases e:ixN xs.length i with
 | none=>rw[e] at h;cases h
 | some j =>
  rw[e] at h
  obtain⟨h1,h2,h3,h4⟩:=ixN_seq e
  exact⟨j,h1,h,h2,h3,h4⟩
noncomputable def PlainIx (b:Expr):Prop:=∀o i,subscripted b false o i=operate [o,i] (getItem o i)
noncomputable def IxR (X:Cx) (r:R2):Prop :=
 ∀(value slice:Expr) (pins:List (Addr×Obj)) (s:Shared) (σ:St) (H:Hp) (x y:V) (v u:Value) (Q:VK),Inv X pins σ H s→RelV x v→RelV y u→r x y H Q →
  subscripted slice false v u=operate [v,u] (getItem v u)→wpAny (model X.prog X.w) X.A (subscriptTail value slice v u) (EP X pins σ Q) X.xe s
noncomputable def MtR (X:Cx) (id:String) (r:V→List V→Hp→VK→Prop):Prop :=
 ∀(pins:List (Addr×Obj)) (s:Shared) (σ:St) (H:Hp) (x:V) (xs:List V) (v:Value) (us:List Value) (Q:VK),Inv X pins σ H s→RelV x v→Vals xs us→r x xs H Q →
  wpAny (model X.prog X.w) X.A (call (.builtin id) (v::us)) (EP X pins σ Q) X.xe s
section
variable {X:Cx} {a b:Expr} {ta tb:TE} {pos:Pos}
theorem pe_ix {r:R2} (hr:IxR X r) (ha:PE X a ta) (hb:PE X b tb) (hs:PlainIx b):PE X (.Subscript a b pos) (tOp r ta tb):=by
 intro pins s σ H Q I h
 exact Subscript_ (binT ha hb I h λv u s2 x y H2 I2 rx ry q=>hr a b pins s2 σ H2 x y v u Q I2 rx ry q (hs _ _))
noncomputable def rIxL (K:PySem.W.Frag):R2:=λx y H Q=>∃p xs i v,x=.ref p∧y=.int i∧SqL K H p xs∧atI xs i=some v∧Q v H
noncomputable def rIxT (K:PySem.W.Frag):R2:=λx y H Q=>∃p xs i v,x=.ref p∧y=.int i∧SqT K H p xs∧atI xs i=some v∧Q v H
noncomputable def rIxS:R2:=λx y H Q=>∃z i c,x=.str z∧y=.int i∧z.length≤sizeLine∧atI z.cps.toList i=some c∧Q (.str ⟨#[c]⟩) H
theorem ix_list:IxR X (rIxL X.K):=by
 intro value slice pins s σ H x y v u Q I rx ry h hs
 obtain⟨p,xs,i,z,rfl,rfl,hq,he,q⟩:=h
 cases rx
 obtain⟨t,rfl⟩:=ry
 obtain⟨its,r,pl,hz⟩:=I.list hq
 obtain⟨j,h1,h2,h3,h4,h5⟩:=atI_get he
 obtain⟨w,ew,rw'⟩:=r.get h2
 have hl:=r.length
 have hn:=line63
 have fin:EP X pins σ Q w s:=⟨z,H,I,rw',q⟩
 by_cases h0:0≤i
 ·have hj:i.toNat=j:=by
   rw[seqIndex_of h0 h5] at h1
   exact Option.some.inj h1
  exact item_listR pl.isList h0 (by lia) (by rw[hj];simpa using ew) fin hs
 ·have hj:(i+(its.toArray.size:Int)).toNat=j:=by
   rw[seqIndex_neg (by lia) h4] at h1
   rw[List.size_toArray,←hl]
   exact Option.some.inj h1
  exact subscriptTail_builtinR (x:=w) pl.isList.typeIs slot_list_getitem.lookup
   (wpAny_getItem_list_neg (Q:=λr s'=>r=w∧EP X pins σ Q r s') pl.isList (by lia) (by rw[List.size_toArray]<;>lia) (by lia) (by rw[hj];simpa using ew) ⟨rfl,fin⟩) hs
theorem ix_tup:IxR X (rIxT X.K):=by
 intro value slice pins s σ H x y v u Q I rx ry h hs
 obtain⟨p,xs,i,z,rfl,rfl,hq,he,q⟩:=h
 cases rx
 obtain⟨t,rfl⟩:=ry
 obtain⟨its,r,pl,hz⟩:=I.tuple hq
 obtain⟨j,h1,h2,h3,h4,h5⟩:=atI_get he
 obtain⟨w,ew,rw'⟩:=r.get h2
 have hl:=r.length
 have hn:=line63
 have fin:EP X pins σ Q w s:=⟨z,H,I,rw',q⟩
 exact subscriptTail_builtinR (x:=w) pl.typeIs slot_tuple_getitem.lookup
  (getItem_tuple (j:=j) (Q:=λr s'=>r=w∧EP X pins σ Q r s') pl (by lia) (by lia) (by rw[List.size_toArray,←hl];exact h1) (by simpa using ew) ⟨rfl,fin⟩) hs
theorem ix_str:IxR X rIxS:=by
 intro value slice pins s σ H x y v u Q I rx ry h hs
 obtain⟨z,i,c,rfl,rfl,hz,he,q⟩:=h
 obtain⟨t,rfl⟩:=rx
 obtain⟨t',rfl⟩:=ry
 obtain⟨j,h1,h2,h3,h4,h5⟩:=atI_get he
 have hl:z.cps.toList.length=z.length:=by simp[Str.length]
 rw[hl] at h1 h4 h5
 have hn:=line63
 exact tail_any (typeIs_str s z t) slot_str_getitem.lookup (getItem_str (c:=c) (by
  have e1:decide (i < -(2^63:Int))=false:=decide_eq_false (by lia)
  have e2:decide (i≥2^63)=false:=decide_eq_false (by lia)
  rw[e1,e2,Bool.or_false]) (by rw[h1];simpa using h2) ⟨.str ⟨#[c]⟩,H,I.tok _,⟨_,rfl⟩,q⟩) hs
theorem slice_bounds (lo hi:Option Int) (n:Nat):(sliceBounds lo hi none n).1=((HT.sIx n 0 lo:Nat):Int)∧(sliceBounds lo hi none n).2.1=((HT.sIx n n hi:Nat):Int)∧(sliceBounds lo hi none n).2.2=1:=by
 refine⟨?_,?_,rfl⟩
 ·cases lo with
  | none=>simp[sliceBounds,HT.sIx]
  | some i =>
   simp only[sliceBounds,HT.sIx,Option.getD_none,show (1:Int) > 0 by decide,if_true]
   by_cases h:i < 0
   ·simp only[h,if_true]<;>lia
   ·simp only[h,if_false]<;>lia
 ·cases hi with
  | none=>simp[sliceBounds,HT.sIx]
  | some i =>
   simp only[sliceBounds,HT.sIx,Option.getD_none,show (1:Int) > 0 by decide,if_true]
   by_cases h:i < 0
   ·simp only[h,if_true]<;>lia
   ·simp only[h,if_false]<;>lia
theorem slicePick_cut (its:List Value) (lo hi:Option Int):slicePick its.toArray lo hi none=((its.drop (HT.sIx its.length 0 lo)).take (HT.sIx its.length its.length hi - HT.sIx its.length 0 lo)).toArray:=by
 obtain⟨h1,h2,h3⟩:=slice_bounds lo hi its.toArray.size
 unfold slicePick
 rw[h1,h2,h3]
 simp only[sliceRange_one,pick_run,List.size_toArray]<;>rfl
noncomputable def rSlL (K:PySem.W.Frag):V→Option Int→Option Int→Hp→VK→Prop:=λx lo hi H Q=>∃a xs,x=.ref a∧SqL K H a xs∧∀p,H p=none→Q (.ref p) (upd H p (.lst (cutV xs lo hi)))
theorem sl_list:SlR X (rSlL X.K):=by
 intro pins s σ H x v vl vu lo hi sl Q I rx hs pl pu h
 obtain⟨a,xs,rfl,hx,q⟩:=h
 cases rx
 obtain⟨its,r,ht,hz⟩:=I.list hx
 have hlen:=r.length
 refine⟨"list", _,slot_list_getitem.lookup,ht.isList.typeIs,?_⟩
 refine wpAny_getItem_list_slice ht.isList hs pl pu .none (by simp) ?_ (by rw[List.size_toArray]<;>lia)
 rw[slicePick_cut,←hlen]
 refine⟨.ref s.heap.objs.size,_,I.laid (t':=s.toks) (o:=.lst (cutV xs lo hi)) (λb ob q=>Heap.get?_push_of_some _ q) (Nat.le_refl _) ?_,rfl,q _ (I.hok.fresh (Nat.le_refl _))⟩
 exact⟨Nat.le_trans (cutV_length xs lo hi) hz,_,0,(r.drop (HT.sIx xs.length 0 lo)).take (HT.sIx xs.length xs.length hi - HT.sIx xs.length 0 lo),Heap.get?_push_size _ rfl⟩
theorem call_len_seq:CallR X (.builtin "len") (λxs H Q=>∃p ys,xs=[.ref p]∧(SqL X.K H p ys∨SqT X.K H p ys)∧Q (.int ys.length) H):=by
 intro pins s σ H xs us Q I r h
 obtain⟨p,ys,rfl,hq,q⟩:=h
 obtain⟨u,rfl,rx⟩:=vals1 r
 cases rx
 have hn:=line63
 rcases hq with hq | hq
 ·obtain⟨its,r',pl,hz⟩:=I.list hq
  have hlen:=r'.length
  exact Calls.call_len_list pl.isList (by simp only[List.size_toArray]<;>lia) ⟨.int ys.length,H,I.tok _,⟨s.toks+1,by rw[List.size_toArray,hlen]⟩,q⟩
 ·obtain⟨its,r',pl,hz⟩:=I.tuple hq
  have hlen:=r'.length
  exact len_tuple pl (by simp only[List.size_toArray]<;>lia) ⟨.int ys.length,H,I.tok _,⟨s.toks+1,by rw[List.size_toArray,hlen]⟩,q⟩
theorem call_len_str:CallR X (.builtin "len") (λxs H Q=>∃z,xs=[.str z]∧z.length≤sizeLine∧Q (.int z.length) H):=by
 intro pins s σ H xs us Q I r h
 obtain⟨z,rfl,hz,q⟩:=h
 obtain⟨u,rfl,t,rfl⟩:=vals1 r
 have hn:=line63
 exact len_str (by lia) ⟨.int z.length,H,I.tok _,⟨_,rfl⟩,q⟩
theorem call_tuple_of:CallR X (.type "tuple") (λxs H Q=>∃p ys,xs=[.ref p]∧((SqL X.K H p ys∧∀l,H l=none→Q (.ref l) (upd H l (.tup ys)))∨(SqT X.K H p ys∧Q (.ref p) H))):=by
 intro pins s σ H xs us Q I r h
 obtain⟨p,ys,rfl,h⟩:=h
 obtain⟨u,rfl,rx⟩:=vals1 r
 cases rx
 rcases h with ⟨hq,q⟩ | ⟨hq,q⟩
 ·obtain⟨its,r',pl,hz⟩:=I.list hq
  have hlen:=r'.length
  refine call_tuple_list pl.isList (λh' kp=>?_) (by simp only[List.size_toArray]<;>lia)
  have I1:Inv X pins σ H { s with heap:=h' }:=I.kept (t':=s.toks) kp
  have I2:Inv X pins σ (upd H h'.objs.size (.tup ys)) { s with heap:=h'.push { cls:=.type "tuple", data:=.seq its.toArray } } :=
   I1.laid (t':=s.toks) (λb o e=>Heap.get?_push_of_some _ e) (Nat.le_refl _) (show ObjOk X.prog X.w _ _ _ (.tup ys) from ⟨hz,its,r',IsTup.new _ _⟩)
  exact⟨.ref h'.objs.size,_,I2,rfl,q _ (I1.hok.fresh (Nat.le_refl _))⟩
 ·obtain⟨its,r',pl,hz⟩:=I.tuple hq
  exact call_tuple_same pl ⟨.ref p,H,I,rfl,q⟩
noncomputable def tyV (K:PySem.W.Frag) (T:String) (x:V) (H:Hp):Prop:=match x with
 | .str _=>T = "str"
 | .int _=>T = "int"
 | .ref p=>(T = "list" ∧ ∃xs,SqL K H p xs)∨(T = "tuple" ∧ ∃o,K.lookup p=some o∧o.cls=.type "tuple" ∧ o.dict=none) ∨
  (T = "dict" ∧ ((∃kvs,H p=some (.dK kvs))∨∃kvs,H p=some (.dT kvs)))∨(T = "set" ∧ ∃S n,H p=some (.set S n))
 | _=>False
theorem tyV_is {pins:List (Addr×Obj)} {σ:St} {H:Hp} {s:Shared} {T:String} {x:V} {v:Value} (I:Inv X pins σ H s) (r:RelV x v) (ty:tyV X.K T x H) :
 s.TypeIs v T∧∀a,v=.ref a→∃ob,s.heap.get? a=some ob∧ob.dict=none:=by
 cases x with
 | str z =>
  obtain⟨t,rfl⟩:=r
  cases (show T = "str" from ty)
  exact⟨typeIs_str s z t,λ_ e=>nomatch e⟩
 | int i =>
  obtain⟨t,rfl⟩:=r
  cases (show T = "int" from ty)
  exact⟨typeIs_int s i t,λ_ e=>nomatch e⟩
 | ref p =>
  cases r
  rcases ty with ⟨rfl,xs,hq⟩ | ⟨rfl,o,hk,hc,hd⟩ | ⟨rfl,hk⟩ | ⟨rfl,S,n,hk⟩
  ·obtain⟨its,_,pl,_⟩:=I.list hq
   refine⟨pl.isList.typeIs,λa e=>?_⟩
   cases e
   obtain⟨o,n,e,c,hd,_⟩:=pl
   exact⟨o,e,hd⟩
  ·refine⟨⟨o,I.kIn p o hk,hc⟩,λa e=>?_⟩
   cases e
   exact⟨o,I.kIn _ o hk,hd⟩
  ·have z:∃o,s.heap.get? p=some o∧o.ExactDict:=by
    rcases hk with ⟨kvs,hk⟩ | ⟨kvs,hk⟩
    ·obtain⟨_,_,_,_,o,_,_,e,ex,_⟩:=I.hok p _ hk
     exact⟨o,e,ex⟩
    ·obtain⟨_,_,_,_,o,_,_,e,ex,_⟩:=I.hok p _ hk
     exact⟨o,e,ex⟩
   obtain⟨o,e,ex⟩:=z
   refine⟨⟨o,e,ex.1⟩,λa e2=>?_⟩
   cases e2
   exact⟨o,e,ex.2.1⟩
  ·obtain⟨o,_,_,_,e,ex,_⟩:=I.hok p _ hk
   refine⟨⟨o,e,ex.1⟩,λa e2=>?_⟩
   cases e2
   exact⟨o,e,ex.2.1⟩
 | _=>exact False.elim ty
noncomputable def tBM (K:PySem.W.Frag) (T:String) (r:V→List V→Hp→VK→Prop) (to:TE) (t:TA):TE:=λσ H Q=>to σ H λx H1=>tyV K T x H1∧t σ H1 λxs H2=>r x xs H2 Q
variable {o e:Expr} {es:List Expr} {to:TE} {t:TA} {name:Str} {apos cpos:Pos} {T id:String} {r:V→List V→Hp→VK→Prop}
theorem pe_bm (pa:PlainAttrs T) (slot:Slot T name id) (hty:typeOf (.builtin id)=pure (.type "method_descriptor")) (hm:MtR X id r) (ho:PE X o to) (ha:PA X (e::es) t)
 (hbase:attributeBase o name X.env (eval o X.env)=eval o X.env:=by rfl)
 (hfew:((backTo cpos (starEach (e::es) X.env)).all (λx=>!x.1)&&(backToKw cpos (keywordEach [] X.env)).all (λx=>x.1.isSome)
  && decide ((e::es).length+([]:List Keyword).length+(if ([]:List Keyword).isEmpty then 0 else 1) < 30))=true:=by rfl)
 (hline:(apos.endLine==cpos.line)=true:=by rfl) (hs:starEach (e::es) X.env=(false,eval e X.env)::starEach es X.env:=by rfl) (hplain:(backTo cpos (starEach es X.env)).any (·.1)=false:=by rfl) :
 PE X (.Call (.Attribute o name apos) (e::es) [] cpos) (tBM X.K T r to t):=by
 intro pins s σ H Q I h
 refine wpAny_Call_method_late hbase hfew hline rfl (thn (ho pins s σ H _ I h) λv s1 ⟨x,H1,I1,r1,ty,q1⟩=>?_)
 obtain⟨h1,h2⟩:=tyV_is I1 r1 ty
 refine⟨T,id,pa,slot,hty,h1,h2,?_⟩
 have hA:=ha cpos pins s1 σ H1 _ I1 q1
 rw[hs] at hA ⊢
 refine Calls.callWith_builtin (by show (false||(backTo cpos (starEach es X.env)).any (·.1))=false;rw[hplain]<;>rfl) (Calls.evalArgs_plain ?_)
 exact thn hA λus s2 ⟨vs,H2,I2,r2,q2⟩=>hm pins s2 σ H2 x vs v us Q I2 r1 r2 q2
end
noncomputable def MtM (X:Cx) (id:String) (r:V→List V→Hp→VK→Prop):Prop :=
 ∀(pins:List (Addr×Obj)) (s:Shared) (σ:St) (H:Hp) (x:V) (xs:List V) (v:Value) (us:List Value) (Q:VK),Inv X pins σ H s→RelV x v→Vals xs us→r x xs H Q →
  wpAny (model X.prog X.w) X.A (call (.builtin id) (v::us)) (EP X pins σ Q) X.xe s
theorem Vals.one:∀ {x:V} {us:List Value},Vals [x] us→∃u,us=[u]∧RelV x u
 | _,_,.cons r .nil=>⟨_,rfl,r⟩
theorem Vals.rep {xs:List V} {us:List Value} (h:Vals xs us):∀k:Nat,Vals (List.replicate k xs).flatten (List.replicate k us).flatten
 | 0=>.nil
 | k+1=>by
  rw[List.replicate_succ,List.replicate_succ,List.flatten_cons,List.flatten_cons]
  exact Vals.append h (Vals.rep h k)
theorem foldl_rep (its:List Value):∀(k:Nat) (acc:List Value),
 List.foldl (λx1 x2=>x1++x2) acc.toArray (List.replicate k its.toArray)=(acc++(List.replicate k its).flatten).toArray
 | 0,acc=>by simp
 | k+1,acc=>by
  have e:acc.toArray++its.toArray=(acc++its).toArray:=by simp
  have e2:(acc++its)++(List.replicate k its).flatten=acc++(List.replicate (k+1) its).flatten:=by
   rw[List.replicate_succ,List.flatten_cons,List.append_assoc]
  rw[←e2,←foldl_rep its k (acc++its),←e,List.replicate_succ,List.foldl_cons]
section
variable {X:Cx} {pins:List (Addr×Obj)} {σ:St} {H:Hp} {s:Shared} {l b:Addr} {xs ys zs:List V}
theorem Inv.lset {its its':List Value} {n:Nat} {f:Array Value→Array Value} {t':Nat} (I:Inv X pins σ H s) (hH:H l=some (.lst xs))
 (e:s.heap.get? l=some { cls:=.type "list", data:=.seq its.toArray n }) (hf:f its.toArray=its'.toArray) (hv:Vals ys its') (hz:ys.length≤sizeLine) :
 Inv X pins σ (upd H l (.lst ys)) { s with heap:=s.heap.update l (Obj.mapSeq f),toks:=t' }:=by
 have q:=PySem.IsL.update e f
 rw[hf] at q
 refine I.write (x:=l) (e:=l) (by rw[hH];exact trivial) (.inl rfl) (λb' u hb hu=>(Heap.get?_update_other s.heap (Obj.mapSeq f) (Ne.symm hb)).trans hu) ⟨_,q⟩ ?_
 exact⟨hz,its',_,hv,q⟩
theorem Inv.lnew {its:List Value} {t':Nat} (I:Inv X pins σ H s) (hv:Vals ys its) (hz:ys.length≤sizeLine) :
 Inv X pins σ (upd H s.heap.objs.size (.lst ys)) { s with heap:=s.heap.push { cls:=.type "list", data:=.seq its.toArray },toks:=t' } :=
 I.laid (λ_ _ q=>Heap.get?_push_of_some _ q) (Nat.le_refl _) ⟨hz,its,0,hv,Heap.get?_push_size _ rfl⟩
theorem Inv.fresh (I:Inv X pins σ H s):H s.heap.objs.size=none:=I.hok.fresh (Nat.le_refl _)
theorem Inv.lstM (I:Inv X pins σ H s) (hH:H l=some (.lst xs)):xs.length≤sizeLine∧∃(its:List Value) (n:Nat),Vals xs its∧xs.length=its.length∧s.heap.get? l=some { cls:=.type "list", data:=.seq its.toArray n }:=by
 obtain⟨z,its,n,r,e⟩:=I.hok l _ hH
 exact⟨z,its,n,r,r.length,e⟩
theorem notLongL {n:Nat} (h:n≤sizeLine):Builtin.List.listTooLong n=false:=by
 unfold Builtin.List.listTooLong
 exact decide_eq_false (by lia)
end
section
variable {X:Cx}
noncomputable def rAppend:V→List V→Hp→VK→Prop:=λx vs H Q=>∃l xs y,x=.ref l∧vs=[y]∧H l=some (.lst xs)∧xs.length < sizeLine∧Q .non (upd H l (.lst (xs++[y])))
theorem mt_append:MtM X "list.append" rAppend:=by
 intro pins s σ H x vs v us Q I rx rv h
 obtain⟨l,xs,y,rfl,rfl,hH,hz,q⟩:=h
 cases rx
 obtain⟨u,rfl,ru⟩:=rv.one
 obtain⟨z,its,n,r,hl,e⟩:=I.lstM hH
 refine call_meets F.slot_list_append ⟨_,e,rfl⟩ F.entry_list_append (F.args_list_append_2 _ _) (PySem.list_append l its.toArray n u (by rw[List.size_toArray];lia)) ⟨e,?_⟩
 refine⟨.non,_,I.lset (its':=its++[u]) hH e (by simp) (r.append (.cons ru .nil)) ?_,rfl,q⟩
 rw[List.length_append,List.length_singleton]
 lia
noncomputable def rExtend:V→List V→Hp→VK→Prop:=λx vs H Q=>∃l b xs zs,x=.ref l∧vs=[.ref b]∧H l=some (.lst xs)∧H b=some (.lst zs)∧xs.length+zs.length≤sizeLine∧Q .non (upd H l (.lst (xs++zs)))
theorem mt_extend:MtM X "list.extend" rExtend:=by
 intro pins s σ H x vs v us Q I rx rv h
 obtain⟨l,b,xs,zs,rfl,rfl,hH,hB,hz,q⟩:=h
 cases rx
 obtain⟨u,rfl,ru⟩:=rv.one
 cases ru
 obtain⟨z,its,n,r,hl,e⟩:=I.lstM hH
 obtain⟨z2,its2,n2,r2,hl2,e2⟩:=I.lstM hB
 have hsz:its.toArray.size+its2.toArray.size≤sizeLine:=by rw[List.size_toArray,List.size_toArray];lia
 have hlong:¬(!its.toArray.isEmpty&&Builtin.List.listTooLong (its.toArray.size+its2.toArray.size))=true:=by
  rw[notLongL hsz,Bool.and_false]
  exact Bool.false_ne_true
 refine call_meets F.slot_list_extend ⟨_,e,rfl⟩ F.entry_list_extend (F.args_list_extend_2 _ _)
  (AutoSeq1.list_extend_list_list_0 l its.toArray n b its2.toArray n2 hlong (by rw[List.size_toArray];lia) (by lia)) ⟨e,e2,?_⟩
 refine⟨.non,_,I.lset (its':=its++its2) hH e (by simp) (r.append r2) ?_,rfl,q⟩
 rw[List.length_append]
 lia
theorem len_rep {α:Type} (xs:List α) (k:Nat):(List.replicate k xs).flatten.length=k*xs.length:=by
 induction k with
 | zero=>simp
 | succ k ih=>rw[List.replicate_succ,List.flatten_cons,List.length_append,ih,Nat.succ_mul,Nat.add_comm]
end
end L2
namespace Att
open PySem PySem.W PySem.Calls PyProof.Rows
theorem ints_of_wellAll {P:Params} {h:Heap}:∀(ns:List Int) (vs:List Value),WellAll P h vs (ns.map WData.int)→IntsAre vs ns:=by
 intro ns
 induction ns with
 | nil =>
  intro vs w
  rw[List.map_nil] at w
  cases w
  exact .nil
 | cons n ns ih =>
  intro vs w
  rw[List.map_cons] at w
  cases w with
  | cons a b =>
   cases a
   exact .cons _ _ (ih _ b)
theorem script_of {l:OpenLaw} {n:Nat} (hn:l.most=some n) {P:Params} {h:Heap} {args:List WData} {vals:List Value}
 (hpre:l.row.toRowW.claim.pre args=true) (hwl:WellAll P h vals args) :
 ∃a vs ns,vals=[Value.ref a]∧args=[WData.list (ns.map WData.int)]∧h.get? a=some { cls:=.type "list", data:=.seq vs.toArray }∧IntsAre vs ns∧ns.length≤n:=by
 have hsh:WShape.hasAll [] args [.list .int]=true:=(pre_splitW hpre).1
 have hc:l.pre.holds [] { args:=args }=true:=(pre_splitW hpre).2
 obtain⟨d,r,rfl,h1,h2⟩:=hasAllW_cons hsh
 obtain rfl:=hasAllW_nil h2
 obtain⟨xs,rfl,h3⟩:=hasW_list h1
 obtain⟨ns,rfl⟩:=items_int h3
 have hlen:ns.length≤n:=by
  unfold OpenLaw.pre at hc
  have h4:(WTm.not (.lt (.lit (.int (n:Int))) (.len (.arg 0)))).holds [] { args:=[.list (ns.map .int)] }=true:=by
   have h4:=(holds_andW hc).1
   rw[hn] at h4
   exact h4
  have h5:=condW_of h4 (w_not (w_lt w_lit (w_len_list (w_arg rfl))))
  rw[List.length_map] at h5
  refine Nat.le_of_not_lt λq=>?_
  have q':(n:Int) < ((ns.length:Nat):Int):=by lia
  first
   | (rw[decide_eq_true q'] at h5;exact absurd h5 (by decide))
   | (simp at h5;lia)
 cases hwl with
 | cons w1 w2 =>
  cases w2
  cases w1 with
  | list ho hall=>exact⟨_,_,ns,rfl,rfl,ho,ints_of_wellAll ns _ hall,hlen⟩
theorem post_true (l:OpenLaw) (args:List WData):l.row.toRowW.claim.post args (.bool true) args=true :=
 postW_of (r:=l.row.toRowW) (X:=(true==true))
  (show WShape.has [] (.bool true) .bool=true by first | rfl | decide | simp[WShape.has,WShape.arms,WShape.armsAll])
  (show (WTm.eq .res (.lit (.bool true))).value [] { args:=args,res:=some (.bool true),after:=args }=some (.bool (true==true)) from w_eq_bool (w_res rfl) w_lit) rfl
theorem attach_call {l:OpenLaw} {n:Nat} {q:Program} {loose:List Str} {XP:(Str→Option Value)→Heap→Prop} {YP:World→Heap→Prop} {d:DefRec}
 (hn:l.most=some n) (hdf:d.params.defaults=[])
 (call:∀(w:World) (s₀ s₁:Shared) (mg mb:Str→Option Value) (fa:Addr) (o:Obj) (pm cd doc:Value) (a:Addr) (vs:List Value) (ns:List Int),
  Ground q loose [] XP w s₀ mg mb s₁.heap→YP w s₁.heap →
  s₁.heap.get? fa=some o→o.data=.func (docDef d.name d.params d.body d.scope pm cd doc)→s₁.heap.CodeRec cd d.name→mg d.name=some (.ref fa) →
  s₁.heap.get? a=some { cls:=.type "list", data:=.seq vs.toArray }→IntsAre vs ns→ns.length≤n→s₁.gens=#[] →
  codeAny (model l.prog w) callerA (.call (.ref fa) ⟨[.ref a],[]⟩) (λr s'=>r=.ok (.ret (.bool true))∧OldK s₁.heap s'.heap∧s'.os=s₁.os∧AllBare s'.gens) s₁) :
 WalkO q loose XP YP l.row.toRowW d [] (λf vs=>PySem.call f vs):=by
 intro w s₀ s₁ mg mb G Y fa o pm cd doc dV kV ho hd hcd hD hmg hg args vals as hpre hlay hrd hwl hlo
 obtain rfl:dV=.none:=Dflts.none hD hdf
 obtain rfl:kV=.none:=Dflts.noKw hD
 obtain⟨a,vs,ns,rfl,rfl,hobj,hints,hlen⟩:=script_of hn hpre hwl
 refine enter_call (codeAny_mono (call w s₀ s₁ mg mb fa o pm cd doc a vs ns G Y ho (fd_plain hd) hcd hmg hobj hints hlen hg) λr s' hq=>?_)
 obtain⟨rfl,h2,h3,h4⟩:=hq
 exact⟨.inl ⟨.bool true,.bool true,[],rfl,λ_=>rfl,.bool true,post_true l _,λ_=>⟨List.Pairwise.nil,λ_ hm=>(nomatch hm)⟩⟩,h2,h3,h4⟩
end Att
namespace L2
open PySem PySem.Spec PyProof.Rows
theorem vals_ints:∀ {vs:List Value} {ns:List Int},IntsAre vs ns→Vals (ns.map V.int) vs
 | _,_,.nil=>.nil
 | _,_,.cons n t h=>.cons ⟨t,rfl⟩ (vals_ints h)
noncomputable def Only (H:Hp):Prop:=∀b,H b=none∨∃o xs,H b=some (.frz o (.lst xs))
theorem law_call {P:Program} {w:World} {K:PySem.W.Frag} {mg mb:Str→Option Value} {CX:CXT} {k:Nat} {fa a:Addr} {fd:FuncData} {x:Str} {sp:Sp} {s₁:Shared} {vs:List Value} {ns:List Int}
 (KX:K.In s₁.heap) (hns:s₁.heap.Ns mainGlobals mg) (hb:s₁.heap.Ns builtinsNs mb) (hbb:∀x:Str,x ≠ "__name__" → mb x=bootBuiltins x) (hlim:s₁.heap.NoLimit) (hg:s₁.gens=#[])
 (ha:s₁.heap.get? a=some { cls:=.type "list", data:=.seq vs.toArray }) (hi:IntsAre vs ns) (hl:ns.length≤sizeLine) (hr:Room k callerA)
 (F:∀base:Heap,K.In base→base.Ns mainGlobals mg→FnOk P w K mg base CX k fa fd [x] sp) (hbind:∀(s:Shared) (u:Value),BindsTo s fd ⟨[u],[]⟩ [(x,u)])
 (hsp:∀H:Hp,Only H→SqL K H a (ns.map V.int)→sp [.ref a] H (λv _=>v=.bl true) λ_ _ _=>False)
 (hCX:∀H e s',CX [] H s₁ (λ_ _ _=>False) e s'→False) :
 codeAny (model P w) callerA (.call (.ref fa) ⟨[.ref a],[]⟩) (λr s'=>r=.ok (.ret (.bool true))∧OldK s₁.heap s'.heap∧s'.os=s₁.os∧AllBare s'.gens) s₁:=by
 have rv:=vals_ints hi
 have lenV:=hi.length
 have core:∀H:Hp,Only H→SqL K H a (ns.map V.int)→HOk P w H s₁.heap→(∀b,H b≠none→b=a)→(H a≠none→K.lookup a=none) →
  codeAny (model P w) callerA (.call (.ref fa) ⟨[.ref a],[]⟩) (λr s'=>r=.ok (.ret (.bool true))∧OldK s₁.heap s'.heap∧s'.os=s₁.os∧AllBare s'.gens) s₁:=by
  intro H hO hS hok hA hK
  have base_of:∀ {b:Addr} {o:Obj},s₁.heap.get? b=some o→H b=none→(hidT s₁.heap H).get? b=some o:=λe n=>hidT_get e n
  have noA:∀ {b:Addr} {o:Obj} {es:Array DictEntry} {ep:Nat},s₁.heap.get? b=some o→o.data=.dict es ep→H b=none:=λ{b o es ep} e d=>by
   cases q:H b with
   | none=>rfl
   | some u =>
    have e':b=a:=hA b (by rw[q];simp)
    subst e'
    rw[ha] at e;cases e
    have d':Data.seq vs.toArray _=Data.dict es ep:=d
    cases d'
  have nsK:∀ {b:Addr} {m:Str→Option Value},s₁.heap.Ns b m→(hidT s₁.heap H).Ns b m:=λ{b m} ⟨o,es,ep,e,d,r⟩=>⟨o,es,ep,base_of e (noA e d),d,r⟩
  have hKb:K.In (hidT s₁.heap H):=λb o e=>base_of (KX b o e) (by
   cases q:H b with
   | none=>rfl
   | some u =>
    have e':b=a:=hA b (by rw[q];simp)
    subst e'
    rw[hK (by rw[q];simp)] at e;cases e)
  have hM:Mod K mg (hidT s₁.heap H):=⟨hKb,nsK hns,⟨mb,nsK hb,hbb⟩,let ⟨mc,h1,h2⟩:=hlim;⟨mc,nsK h1,h2⟩⟩
  have e0:Env0 P w K mg (hidT s₁.heap H) callerA [] s₁ H:=⟨rfl,hM,λb o e=>of_hidT e,Nat.le_of_eq (hidT_size _ _),trivial,λb hb=>absurd (show b∈([]:List Addr) from hb) (by simp),hok,.of_eq hg⟩
  refine codeAny_mono ((F _ hKb (nsK hns)).run callerA [] s₁ H ⟨[.ref a],[]⟩ [.ref a] [.ref a] _ _ hr e0 (hbind s₁ (.ref a)) (.cons rfl .nil) (hsp H hO hS)) λr s' h=>?_
  cases r with
  | error e=>exact (hCX H e s' h).elim
  | ok fl =>
   cases fl with
   | next=>exact False.elim h
   | brk=>exact False.elim h
   | cont=>exact False.elim h
   | ret u =>
    obtain⟨v,H',os,bare,un,hok',r',q⟩:=h
    have q':v=.bl true:=q
    subst q'
    obtain rfl:u=Value.bool true:=r'
    refine⟨rfl,OldK.of_keep λb o e=>?_,os,bare⟩
    cases q:H b with
    | none=>exact un.keep b o e q (by intro z;exact absurd (show b∈([]:List Addr) from z) (by simp)) (by simp)
    | some u =>
     rcases hO b with z | ⟨ob,xs,z⟩
     ·rw[q] at z;cases z
     ·have z2:=un.frzs b ob _ z
      obtain⟨e1,_⟩:=hok b _ z
      obtain⟨e2,_⟩:=hok' b _ z2
      rw[e] at e1;cases e1
      exact e2
 cases hk:K.lookup a with
 | some o =>
  have e:=KX a o hk
  rw[ha] at e
  cases e
  refine core (λ_=>none) (λ_=>.inl rfl) (.inr ⟨_,vs.toArray,_,hk,rfl,rfl,rfl,by rw[List.size_toArray,lenV];exact hl,by simpa using rv⟩) (λb u z=>by have z':(none:Option HO)=some u:=z;cases z') (λb z=>absurd rfl z) λz=>absurd rfl z
 | none =>
  refine core (λb=>if b=a then some (.frz { cls:=.type "list", data:=.seq vs.toArray } (.lst (ns.map V.int))) else none) (λb=>?_) (.inl (.inr ⟨{ cls:=.type "list", data:=.seq vs.toArray },if_pos rfl⟩)) (λb u z=>?_) (λb z=>?_) λ_=>hk
  ·by_cases hb:b=a
   ·exact .inr ⟨_,_,if_pos hb⟩
   ·exact .inl (if_neg hb)
  ·by_cases hb:b=a
   ·have z':=(if_pos hb).symm.trans z
    cases z'
    subst hb
    exact⟨ha,by rw[List.length_map];exact hl,vs,_,rv,ha⟩
   ·have z':=(if_neg hb).symm.trans z
    cases z'
  ·by_cases hb:b=a
   ·exact hb
   ·exact absurd (if_neg hb) z
theorem walk_of {l:PySem.W.OpenLaw} {n k:Nat} {q:Program} {loose:List Str} {XP:(Str→Option Value)→Heap→Prop} {YP:World→Heap→Prop} {d:DefRec} {K:Params→PySem.W.Frag} {CX:World→CXT} {sp:World→Sp} {x:Str}
 (hn:l.most=some n) (hn2:n≤sizeLine) (hdf:d.params.defaults=[]) (hr:Room k callerA)
 (hY:∀(w:World) (h:Heap),YP w h→(K w.params).In h)
 (F:∀(w:World) (mg:Str→Option Value) (fa:Addr) (h:Heap),(K w.params).In h→h.Ns mainGlobals mg→mg d.name=some (.ref fa) →
  ∃fd:FuncData,(∀(s:Shared) (u:Value),BindsTo s fd ⟨[u],[]⟩ [(x,u)]) ∧
   ∀base:Heap,(K w.params).In base→base.Ns mainGlobals mg→FnOk l.prog w (K w.params) mg base (CX w) k fa fd [x] (sp w))
 (hsp:∀(w:World) (H:Hp) (a:Addr) (ns:List Int),ns.length≤n→Only H→SqL (K w.params) H a (ns.map V.int)→sp w [.ref a] H (λv _=>v=.bl true) λ_ _ _=>False)
 (hCX:∀(w:World) (H:Hp) (s:Shared) (e:Value) (s':Shared),CX w [] H s (λ_ _ _=>False) e s'→False) :
 PySem.W.WalkO q loose XP YP l.row.toRowW d [] (λf vs=>PySem.call f vs):=by
 refine Att.attach_call hn hdf λw s₀ s₁ mg mb fa o pm cd doc a vs ns G Y ho hd hcd hmg hobj hints hlen hg=>?_
 have KX:=hY w _ Y
 obtain⟨fd,hb,hF⟩:=F w mg fa _ KX G.T.g hmg
 exact law_call KX G.T.g G.T.b G.T.builtins G.T.nolimit hg hobj hints (Nat.le_trans hlen hn2) hr hF hb (λH hO hS=>hsp w H a ns hlen hO hS) λH e s'=>hCX w H s₁ e s'
noncomputable def defArgs (s:Stmt):Arguments:=match s with
 | .FunctionDef _ a _ _ _ _ _ _ _ _=>a
 | _=>{ posonlyargs:=[],args:=[],vararg:=none,kwonlyargs:=[],kw_defaults:=[],kwarg:=none,defaults:=[] }
noncomputable def defBody (s:Stmt):List Stmt:=match s with
 | .FunctionDef _ _ b _ _ _ _ _ _ _=>b
 | _=>[]
noncomputable def defScope (s:Stmt):Scope:=match s with
 | .FunctionDef _ _ _ _ _ _ sc _ _ _=>sc
 | _=>{ kind:=.function,names:=[],isGenerator:=false,isCoroutine:=false }
noncomputable abbrev E0:XK:=λ_ _ _=>False
set_option genInjectivity false in
structure Fun (K:PySem.W.Frag) (x qual:Str) (st:Stmt) (f:Addr) (fd:FuncData):Prop where
 ex:∃(oc:Value) (od:Option Addr) (kV doc pm:Value) (an:Option Addr) (cdv ct:Value) (osl:Array (Option Value)),
  fd=PySem.W.fnOf x qual (defArgs st) (defBody st) (defScope st) .none kV doc pm an cdv ct∧K.lookup f=some ⟨oc,od,.func fd,osl⟩∧PySem.W.codeIn K cdv qual=true
 kp:PySem.W.keepIn K (.ref f)=true
section
variable {P:Program} {w:World} {K:PySem.W.Frag} {mg:Str→Option Value} {base:Heap}
theorem Fun.binds {x qual:Str} {st:Stmt} {f:Addr} {fd:FuncData} {ps:List Str} (F:Fun K x qual st f fd)
 (h:∀(kV doc pm:Value) (an:Option Addr) (cdv ct:Value) (us:List Value),us.length=ps.length→bindArgs (PySem.W.fnOf x qual (defArgs st) (defBody st) (defScope st) .none kV doc pm an cdv ct) ⟨us,[]⟩=pure (ps.zip us)):Binds K fd ps []:=by
 obtain⟨oc,od,kV,doc,pm,an,cdv,ct,osl,rfl,lk,hcd⟩:=F.ex
 exact .all (h kV doc pm an cdv ct)
theorem fun_mk {x qual:Str} {st:Stmt} {f:Addr} {oc:Value} {od an:Option Addr} {osl:Array (Option Value)} {kV doc pm cdv ct:Value} (l:K.lookup f=some ⟨oc,od,.func (PySem.W.fnOf x qual (defArgs st) (defBody st) (defScope st) .none kV doc pm an cdv ct),osl⟩)
 (c:PySem.W.codeIn K cdv qual=true) (k:PySem.W.keepIn K (.ref f)=true):Fun K x qual st f (PySem.W.fnOf x qual (defArgs st) (defBody st) (defScope st) .none kV doc pm an cdv ct):=⟨⟨oc,od,kV,doc,pm,an,cdv,ct,osl,rfl,l,c⟩,k⟩
end
theorem small1000 {n:Nat} (h:n≤1000):n < sizeLine:=Nat.lt_of_le_of_lt h (by decide)
noncomputable def Same (H H':Hp):Prop:=∀b o,H b=some o→H' b=some o
theorem Same.refl (H:Hp):Same H H:=λ_ _ h=>h
theorem Same.trans {H H1 H2:Hp} (a:Same H H1) (b:Same H1 H2):Same H H2:=λc o h=>b c o (a c o h)
theorem Same.free {H H':Hp} (e:Same H H') {l:Addr} (h:H' l=Option.none):H l=Option.none:=by
 cases q:H l with
 | none=>rfl
 | some o =>
  rw[e l o q] at h
  cases h
end L2
set_option maxRecDepth 100000
namespace L2
open PySem PySem.Spec PyProof.Rows
section
variable {κ:Type} [DecidableEq κ]
noncomputable def valV (kvs:List (κ×V)) (k:κ):Option V:=(kvs.find? λkv=>decide (kv.1=k)).map (·.2)
noncomputable def putK (kvs:List (κ×V)) (k:κ) (v:V):List (κ×V) :=
 if (kvs.any λkv=>decide (kv.1=k))=true then kvs.map (λkv=>if kv.1=k then (kv.1,v) else kv) else kvs++[(k,v)]
theorem valV_pos {p:κ×V} {r:List (κ×V)} {k:κ} (e:p.1=k):valV (p::r) k=some p.2:=by simp[valV,List.find?_cons,e]
theorem valV_neg {p:κ×V} {r:List (κ×V)} {k:κ} (e:¬p.1=k):valV (p::r) k=valV r k:=by simp[valV,List.find?_cons,e]
theorem valV_any (k:κ):∀kvs:List (κ×V),(kvs.any λkv=>decide (kv.1=k))=(valV kvs k).isSome
 | []=>rfl
 | p::r=>by
  rw[List.any_cons]
  by_cases e:p.1=k
  ·simp only[valV_pos e,decide_eq_true e,Bool.true_or,Option.isSome_some]
  ·rw[valV_neg e,decide_eq_false e,Bool.false_or];exact valV_any k r
theorem length_putK (kvs:List (κ×V)) (k:κ) (v:V):(putK kvs k v).length≤kvs.length+1:=by
 unfold putK
 split
 ·rw[List.length_map];lia
 ·rw[List.length_append,List.length_cons,List.length_nil];lia
theorem RelO.isSome_eq {o:Option V} {u:Option Value} (r:RelO o u):o.isSome=u.isSome:=by
 cases o with
 | none=>cases u with
  | none=>rfl
  | some _=>exact (show False from r).elim
 | some _=>cases u with
  | none=>exact (show False from r).elim
  | some _=>rfl
theorem KV.val {kvs:List (κ×V)} {vs:List (κ×Value)} (r:KV kvs vs) (k:κ):RelO (valV kvs k) (valueAt vs k):=by
 unfold KV at r
 induction r with
 | nil=>exact True.intro
 | @cons p q ps qs h t ih =>
  obtain⟨h1,h2⟩:=h
  by_cases e:p.1=k
  ·have e':q.1=k:=h1.symm.trans e
   have b:valueAt (q::qs) k=some q.2:=by simp[valueAt,List.find?_cons,e']
   rw[valV_pos e,b];exact h2
  ·have e':¬q.1=k:=λz=>e (h1.trans z)
   have b:valueAt (q::qs) k=valueAt qs k:=by simp[valueAt,List.find?_cons,e']
   rw[valV_neg e,b];exact ih
theorem KV.any {kvs:List (κ×V)} {vs:List (κ×Value)} (r:KV kvs vs) (k:κ):(kvs.any λkv=>decide (kv.1=k))=vs.any λkv=>decide (kv.1=k):=by
 unfold KV at r
 induction r with
 | nil=>rfl
 | cons h t ih=>rw[List.any_cons,List.any_cons,ih,h.1]
theorem KV.repl {kvs:List (κ×V)} {vs:List (κ×Value)} (r:KV kvs vs) (k:κ) {y:V} {u:Value} (ry:RelV y u) :
 KV (kvs.map λkv=>if kv.1=k then (kv.1,y) else kv) (vs.map λkv=>if kv.1=k then (kv.1,u) else kv):=by
 unfold KV at r ⊢
 induction r with
 | nil=>exact .nil
 | @cons p q ps qs h t ih =>
  rw[List.map_cons,List.map_cons]
  refine .cons ?_ ih
  obtain⟨h1,h2⟩:=h
  by_cases e:p.1=k
  ·rw[if_pos e,if_pos (h1.symm.trans e)];exact⟨h1,ry⟩
  ·rw[if_neg e,if_neg (λz=>e (h1.trans z))];exact⟨h1,h2⟩
theorem KV.put {kvs:List (κ×V)} {vs:List (κ×Value)} (r:KV kvs vs) (k:κ) {y:V} {u:Value} (ry:RelV y u):KV (putK kvs k y) (stored vs k u):=by
 unfold putK stored
 rw[r.any k]
 by_cases e:(vs.any λkv=>decide (kv.1=k))=true
 ·rw[if_pos e,if_pos e];exact r.repl k ry
 ·rw[if_neg e,if_neg e];exact Paired.snoc r ⟨rfl,ry⟩
theorem KV.keys {kvs:List (κ×V)} {vs:List (κ×Value)} (r:KV kvs vs):kvs.map (·.1)=vs.map (·.1):=by
 unfold KV at r
 induction r with
 | nil=>rfl
 | cons h t ih=>rw[List.map_cons,List.map_cons,ih,h.1]
theorem KV.length {kvs:List (κ×V)} {vs:List (κ×Value)} (r:KV kvs vs):kvs.length=vs.length:=Paired.length r
end
theorem kV_is {P:Program} {w:World} {k:Key} {u:Value} (r:RelV (kV k) u):(mixKind P w).is k u=true:=by
 cases k with
 | inl i=>obtain⟨t,e⟩:=(show ∃t,u=Value.int i t from r);subst e;exact mixKind_int P w i t
 | inr x=>obtain⟨t,e⟩:=(show ∃t,u=Value.str x t from r);subst e;exact mixKind_str P w x t
theorem items_are {P:Program} {w:World}:∀ {ks:List Key} {us:List Value},Vals (ks.map kV) us→ItemsAre (mixKind P w) ks us
 | [],_,r=>by rw[List.map_nil] at r;cases r;exact .nil
 | k::ks,_,r=>by
  rw[List.map_cons] at r
  cases r with
  | cons h t=>exact .cons (kV_is h) (items_are t)
noncomputable abbrev KT (H:Hp):List (List Key×V)→List (List Key×Addr×Value)→Prop:=Paired λp q=>p.1=q.1∧H q.2.1=some (.tup (p.1.map kV))∧RelV p.2 q.2.2
theorem KT.val {H:Hp} {kvs:List (List Key×V)} {xs:List (List Key×Addr×Value)} (r:KT H kvs xs) (k:List Key):RelO (valV kvs k) ((atKey xs k).map (·.2)):=by
 induction r with
 | nil=>exact True.intro
 | @cons p q ps qs h t ih =>
  obtain⟨h1,_,h2⟩:=h
  by_cases e:p.1=k
  ·have e':q.1=k:=h1.symm.trans e
   have b:atKey (q::qs) k=some q.2:=by simp[atKey,List.find?_cons,e']
   rw[valV_pos e,b];exact h2
  ·have e':¬q.1=k:=λz=>e (h1.trans z)
   have b:atKey (q::qs) k=atKey qs k:=by simp[atKey,List.find?_cons,e']
   rw[valV_neg e,b];exact ih
theorem KT.repl {H:Hp} {kvs:List (List Key×V)} {xs:List (List Key×Addr×Value)} (r:KT H kvs xs) (k:List Key) {y:V} {u:Value} (ry:RelV y u) :
 KT H (kvs.map λkv=>if kv.1=k then (kv.1,y) else kv) (xs.map (putAt k u)):=by
 induction r with
 | nil=>exact .nil
 | @cons p q ps qs h t ih =>
  rw[List.map_cons,List.map_cons]
  refine .cons ?_ ih
  obtain⟨h1,h2,h3⟩:=h
  unfold putAt
  by_cases e:p.1=k
  ·rw[if_pos e,if_pos (h1.symm.trans e)];exact⟨h1,h2,ry⟩
  ·rw[if_neg e,if_neg (λz=>e (h1.trans z))];exact⟨h1,h2,h3⟩
theorem KT.put {H:Hp} {kvs:List (List Key×V)} {xs:List (List Key×Addr×Value)} (r:KT H kvs xs) (k:List Key) {b:Addr} {y:V} {u:Value} (hb:H b=some (.tup (k.map kV))) (ry:RelV y u) :
 KT H (putK kvs k y) (storedH xs k b u):=by
 have e:(kvs.any λkv=>decide (kv.1=k))=(atKey xs k).isSome:=by
  rw[valV_any,(r.val k).isSome_eq,Option.isSome_map]
 unfold putK storedH
 rw[e]
 by_cases q:(atKey xs k).isSome=true
 ·rw[if_pos q,if_pos q];exact r.repl k ry
 ·rw[if_neg q,if_neg q];exact Paired.snoc r ⟨rfl,hb,ry⟩
theorem KT.keeps {H H':Hp} {kvs:List (List Key×V)} {xs:List (List Key×Addr×Value)} (r:KT H kvs xs) (ht:∀b ys,H b=some (.tup ys)→H' b=some (.tup ys)):KT H' kvs xs :=
 Paired.mapP r λ_ _ z=>⟨z.1,ht _ _ z.2.1,z.2.2⟩
section
variable {P:Program} {w:World} {H:Hp} {h:Heap} {a:Addr}
theorem rd_of {u:HO} (ok:HOk P w H h) (e:Rd H a u):ObjOk P w H h a u:=e.ok ok
theorem dk_rd {kvs:List (Key×V)} (ok:HOk P w H h) (e:Rd H a (.dK kvs)):kvs.length≤sizeLine∧(a==sysModules)=false∧∃vs,KV kvs vs∧h.DictOf (mixKind P w) a vs :=
 show ObjOk P w H h a (.dK kvs) from rd_of ok e
theorem dk_of {kvs:List (Key×V)} (ok:HOk P w H h) (e:H a=some (.dK kvs)):kvs.length≤sizeLine∧(a==sysModules)=false∧∃vs,KV kvs vs∧h.DictOf (mixKind P w) a vs:=dk_rd ok (.inl e)
theorem key_of {ks:List Key} (ok:HOk P w H h) (e:H a=some (.tup (ks.map kV))):(tupleKind (mixKind P w)).is h ks a:=by
 obtain⟨_,its,r,o,h1,h2,n,h3⟩:=(show ObjOk P w H h a (.tup (ks.map kV)) from ok a _ e)
 exact⟨o,its.toArray,n,h1,h2,h3,by simpa using items_are r⟩
theorem dt_rd {kvs:List (List Key×V)} (ok:HOk P w H h) (e:Rd H a (.dT kvs)):kvs.length≤sizeLine∧(a==sysModules)=false ∧
 ∃xs,KT H kvs xs∧h.DictOfH (tupleKind (mixKind P w)) a xs:=by
 obtain⟨z,y,xs,r,o,es,ep,h1,h2,h3,h4,h5⟩:=(show ObjOk P w H h a (.dT kvs) from rd_of ok e)
 refine⟨z,y,xs,r,o,es,ep,h1,h2,h3,h4,λx hx=>?_,h5⟩
 have all:∀ {l:List (List Key×V)} {m:List (List Key×Addr×Value)},KT H l m→∀x∈m,(tupleKind (mixKind P w)).is h x.1 x.2.1:=by
  intro l m q
  induction q with
  | nil=>intro x hx;exact nomatch hx
  | @cons p q ps qs hq t ih =>
   intro x hx
   rcases List.mem_cons.mp hx with e | hx
   ·subst e
    exact key_of ok (by rw[←hq.1];exact hq.2.1)
   ·exact ih x hx
 exact all r x hx
theorem dt_of {kvs:List (List Key×V)} (ok:HOk P w H h) (e:H a=some (.dT kvs)):kvs.length≤sizeLine∧(a==sysModules)=false ∧
 ∃xs,KT H kvs xs∧h.DictOfH (tupleKind (mixKind P w)) a xs:=dt_rd ok (.inl e)
end
noncomputable def DGet (H:Hp) (a:Addr) (y:V) (r:Option V):Prop :=
 (∃kvs k,Rd H a (.dK kvs)∧y=kV k∧r=valV kvs k)∨∃kvs k b,Rd H a (.dT kvs)∧y=.ref b∧H b=some (.tup (k.map kV))∧r=valV kvs k
noncomputable def DPut (H:Hp) (a:Addr) (y v:V) (H':Hp):Prop :=
 (∃kvs k,H a=some (.dK kvs)∧y=kV k∧kvs.length < sizeLine∧H'=upd H a (.dK (putK kvs k v))) ∨
 ∃kvs k b,H a=some (.dT kvs)∧y=.ref b∧H b=some (.tup (k.map kV))∧kvs.length < sizeLine∧H'=upd H a (.dT (putK kvs k v))
theorem DPut.k {H:Hp} {a:Addr} {kvs:List (Key×V)} {k:Key} {v:V} (e:H a=some (.dK kvs)) (hl:kvs.length < sizeLine):DPut H a (kV k) v (upd H a (.dK (putK kvs k v))):=.inl ⟨kvs,k,e,rfl,hl,rfl⟩
theorem DPut.t {H:Hp} {a b:Addr} {kvs:List (List Key×V)} {k:List Key} {v:V} (e:H a=some (.dT kvs)) (eb:H b=some (.tup (k.map kV))) (hl:kvs.length < sizeLine) :
 DPut H a (.ref b) v (upd H a (.dT (putK kvs k v))):=.inr ⟨kvs,k,b,e,rfl,eb,hl,rfl⟩
section
variable {X:Cx} {pins:List (Addr×Obj)} {σ:St} {H:Hp} {s:Shared} {a:Addr} {y v:V} {u r:Value} {o:Option V} {A:Around} {E:Value→Shared→Prop}
theorem Inv.big (I:Inv X pins σ H s):sysModules < s.heap.objs.size:=by
 have h:mainGlobals < s.heap.objs.size:=(I.mod.glob.keeps I.bk).lt
 exact Nat.lt_trans (by decide) h
theorem d_getItem {Q:Value→Shared→Prop} (hu:A.units+1 < cLine) (I:Inv X pins σ H s) (g:DGet H a y (some v)) (ry:RelV y u) (h:∀w' s',Inv X pins σ H s'→RelV v w'→Q w' s') :
 wpAny (model X.prog X.w) A (getItem (.ref a) u) Q E s:=by
 rcases g with ⟨kvs,k,e,ey,l⟩ | ⟨kvs,k,b,e,ey,eb,l⟩
 ·subst ey
  obtain⟨z,hd,vs,rel,dd⟩:=dk_rd I.hok e
  obtain⟨w',hw,rw'⟩:=RelO.some_of (v:=v) (o:=valueAt vs k) (by rw[l];exact rel.val k)
  exact wpAny_getItem_of (kV_is ry) dd.mapOf hw (h w' _ (I.tok _) rw')
 ·subst ey
  cases (show u=Value.ref b from ry)
  obtain⟨z,hd,xs,rel,dd⟩:=dt_rd I.hok e
  obtain⟨w',hw,rw'⟩:=RelO.some_of (v:=v) (o:=(atKey xs k).map (·.2)) (by rw[l];exact rel.val k)
  obtain⟨p,hp,hp2⟩:=Option.map_eq_some_iff.mp hw
  refine wpAny_getItem_heap (tupleKind_room_in1 hu) (key_of I.hok eb) dd hp ?_
  rw[hp2]
  exact h w' _ (I.tok _) rw'
theorem d_in {Q:Value→Shared→Prop} (hu:A.units+1 < cLine) (I:Inv X pins σ H s) (g:DGet H a y o) (ry:RelV y u) (h:∀s',Inv X pins σ H s'→Q (.bool o.isSome) s') :
 wpAny (model X.prog X.w) A (compareOp .In u (.ref a)) Q E s:=by
 rcases g with ⟨kvs,k,e,ey,l⟩ | ⟨kvs,k,b,e,ey,eb,l⟩
 ·subst ey
  obtain⟨z,hd,vs,rel,dd⟩:=dk_rd I.hok e
  refine wpAny_in_of (kV_is ry) hd dd.mapOf ?_
  rw[←(rel.val k).isSome_eq,←l]
  exact h _ (I.tok _)
 ·subst ey
  cases (show u=Value.ref b from ry)
  obtain⟨z,hd,xs,rel,dd⟩:=dt_rd I.hok e
  refine wpAny_in_heap (tupleKind_room_in1 hu) (key_of I.hok eb) hd dd ?_
  have q:=(rel.val k).isSome_eq
  rw[Option.isSome_map] at q
  rw[←q,←l]
  exact h _ (I.tok _)
theorem d_notIn {Q:Value→Shared→Prop} (hu:A.units+1 < cLine) (I:Inv X pins σ H s) (g:DGet H a y o) (ry:RelV y u) (h:∀s',Inv X pins σ H s'→Q (.bool (!o.isSome)) s') :
 wpAny (model X.prog X.w) A (compareOp .NotIn u (.ref a)) Q E s:=by
 rcases g with ⟨kvs,k,e,ey,l⟩ | ⟨kvs,k,b,e,ey,eb,l⟩
 ·subst ey
  obtain⟨z,hd,vs,rel,dd⟩:=dk_rd I.hok e
  refine wpAny_notIn_of (kV_is ry) hd dd.mapOf ?_
  rw[←(rel.val k).isSome_eq,←l]
  exact h _ (I.tok _)
 ·subst ey
  cases (show u=Value.ref b from ry)
  obtain⟨z,hd,xs,rel,dd⟩:=dt_rd I.hok e
  refine wpAny_notIn_heap (tupleKind_room_in1 hu) (key_of I.hok eb) hd dd ?_
  have q:=(rel.val k).isSome_eq
  rw[Option.isSome_map] at q
  rw[←q,←l]
  exact h _ (I.tok _)
theorem d_write {h':Heap} {t':Nat} {ob:HO} (I:Inv X pins σ H s) (mu:Mut (H a)) (hs:Heap.SameBut a s.heap h') (he:∃q,h'.get? a=some q) (new:ObjOk X.prog X.w (upd H a ob) h' a ob) :
 Inv X pins σ (upd H a ob) { s with heap:=h',toks:=t' } :=
 I.write (x:=a) (e:=a) mu (.inl rfl) (λb q hb z=>(hs.2 b hb).trans z) he new
theorem dk_new {P:Program} {w:World} {H':Hp} {h':Heap} {kvs:List (Key×V)} {vs:List (Key×Value)} (z:kvs.length≤sizeLine) (hd:(a==sysModules)=false) (rel:KV kvs vs) (dd:h'.DictOf (mixKind P w) a vs) :
 ObjOk P w H' h' a (.dK kvs):=⟨z,hd,vs,rel,dd⟩
theorem d_setItem {H':Hp} {Q:Unit→Shared→Prop} (hu:A.units+1 < cLine) (I:Inv X pins σ H s) (g:DPut H a y v H') (ry:RelV y u) (rv:RelV v r) (h:∀s',Inv X pins σ H' s'→Q () s') :
 wpAny (model X.prog X.w) A (setItem (.ref a) u r) Q E s:=by
 rcases g with ⟨kvs,k,e,ey,l,eH⟩ | ⟨kvs,k,b,e,ey,eb,l,eH⟩
 ·subst ey eH
  obtain⟨z,hd,vs,rel,dd⟩:=dk_of I.hok e
  have hz:vs.length≤sizeLine:=by rw[←rel.length];exact z
  have hl:(putK kvs k v).length≤sizeLine:=by have:=length_putK kvs k v;lia
  refine wpAny_setItem_pairs (hsz:=hz) (kV_is ry) dd λh' dd' hs=>h _ ?_
  have he:∃q,h'.get? a=some q:=let ⟨q,_,_,hq,_⟩:=dd';⟨q,hq⟩
  exact d_write I (by rw[e];exact True.intro) hs he (dk_new hl hd (rel.put k rv) dd')
 ·subst ey eH
  cases (show u=Value.ref b from ry)
  obtain⟨z,hd,xs,rel,dd⟩:=dt_of I.hok e
  have hz:xs.length≤sizeLine:=by rw[←Paired.length rel];exact z
  have hl:(putK kvs k v).length≤sizeLine:=by have:=length_putK kvs k v;lia
  refine wpAny_setItem_heap (hsz:=hz) (tupleKind_room_in1 hu) (key_of I.hok eb) dd λh' dd' hs=>h _ ?_
  obtain⟨q,es,ep,hq,h2,h3,h4,_,h5⟩:=dd'
  refine d_write I (by rw[e];exact True.intro) hs ⟨q,hq⟩ ⟨hl,hd,_,(rel.put k eb rv).keeps λc ys ec=>?_,q,es,ep,hq,h2,h3,h4,h5⟩
  rw[upd_ne (ne_of ec e (λz=>nomatch z))]
  exact ec
end
section
variable {X:Cx} {pins:List (Addr×Obj)} {σ:St} {H:Hp} {s:Shared} {a:Addr} {kvs:List (Key×V)} {k:Key} {u:Value} {A:Around} {E:Value→Shared→Prop}
theorem d_len {Q:Value→Shared→Prop} (I:Inv X pins σ H s) (e:Rd H a (.dK kvs)) (h:∀t s',Inv X pins σ H s'→Q (.int kvs.length t) s'):wpAny (model X.prog X.w) A (call (.builtin "len") [.ref a]) Q E s:=by
 obtain⟨z,hd,vs,rel,dd⟩:=dk_rd I.hok e
 refine call_len_dict hd dd (by rw[←rel.length];rw[sizeLine_eq] at z;lia) ?_
 rw[←rel.length]
 exact h _ _ (I.tok _)
end
theorem dict_typeIs {X:Cx} {pins:List (Addr×Obj)} {σ:St} {H:Hp} {s:Shared} {a:Addr} {y:V} {o:Option V} (I:Inv X pins σ H s) (g:DGet H a y o):s.TypeIs (.ref a) "dict" := by
 rcases g with ⟨kvs,k,e,_,_⟩ | ⟨kvs,k,b,e,_,_,_⟩
 ·obtain⟨_,_,vs,_,dd⟩:=dk_rd I.hok e
  exact dd.typeIs
 ·obtain⟨_,_,xs,_,dd⟩:=dt_rd I.hok e
  exact dd.typeIs
noncomputable def sDPut (td ty tv:TE):TS:=λD σ H=>tv σ H λv H1=>td σ H1 λx H2=>ty σ H2 λy H3=>∃a H4,x=.ref a∧DPut H3 a y v H4∧D.nx σ H4
section
variable {X:Cx} {o i e value:Expr} {pos pos' tpos:Pos} {td ty tv:TE}
theorem ps_dput (hu:X.A.units+1 < cLine) (ho:PE X o td) (hi:PE X i ty) (hv:PE X value tv) (hs:swapsWith value (some (.Subscript o i pos')) pos.line X.env=pure false) :
 PS X (.Assign [.Subscript o i pos'] value pos) (sDPut td ty tv):=by
 intro pins s σ H D I h
 refine wpAny_Assign_Subscript (thn (hv pins s σ H _ I h) λr s1 ⟨v,H1,I1,rv,q1⟩=>thn (ho pins s1 σ H1 _ I1 q1) λu s2 ⟨x,H2,I2,rx,q2⟩=>thn (hi pins s2 σ H2 _ I2 q2) λiv s3 ⟨y,H3,I3,ry,a,H4,ex,g,q3⟩=>?_) hs
 subst ex
 obtain rfl:u=Value.ref a:=rx
 exact d_setItem hu I3 g ry rv λs4 I4=>⟨σ,H4,I4,q3⟩
end
theorem dk_empty {P:Program} {w:World} {H:Hp} (h:Heap) (hb:sysModules < h.objs.size):ObjOk P w H (h.push { cls:=.type "dict", data:=.dict #[] }) h.objs.size (.dK []) :=
 ⟨Nat.zero_le _,beq_eq_false_iff_ne.mpr (Ne.symm (Nat.ne_of_lt hb)),[],.nil,Heap.DictOf.new h⟩
theorem dt_empty {P:Program} {w:World} {H:Hp} (h:Heap) (hb:sysModules < h.objs.size):ObjOk P w H (h.push { cls:=.type "dict", data:=.dict #[] }) h.objs.size (.dT []) :=
 ⟨Nat.zero_le _,beq_eq_false_iff_ne.mpr (Ne.symm (Nat.ne_of_lt hb)),[],.nil,_,#[],0,Heap.get?_push_size _ rfl,⟨rfl,rfl,rfl⟩,rfl,rfl,List.nodup_nil⟩
noncomputable def tDNewK:TE:=λ_ H Q=>∀p,H p=none→Q (.ref p) (upd H p (.dK []))
noncomputable def tDNewT:TE:=λ_ H Q=>∀p,H p=none→Q (.ref p) (upd H p (.dT []))
section
variable {X:Cx} {pos:Pos}
theorem pe_dnewK:PE X (.Dict [] [] pos) tDNewK:=λpins s σ H Q I h =>
 wpAny_Dict_empty ⟨.ref s.heap.objs.size,_,I.laid (a:=s.heap.objs.size) (o:=.dK []) (t':=s.toks) (λ_ _ q=>Heap.get?_push_of_some _ q) (Nat.le_refl _) (dk_empty s.heap I.big),rfl,h _ (I.hok.fresh (Nat.le_refl _))⟩
theorem pe_dnewT:PE X (.Dict [] [] pos) tDNewT:=λpins s σ H Q I h =>
 wpAny_Dict_empty ⟨.ref s.heap.objs.size,_,I.laid (a:=s.heap.objs.size) (o:=.dT []) (t':=s.toks) (λ_ _ q=>Heap.get?_push_of_some _ q) (Nat.le_refl _) (dt_empty s.heap I.big),rfl,h _ (I.hok.fresh (Nat.le_refl _))⟩
end
section
variable {X:Cx} {pins:List (Addr×Obj)} {σ:St} {H:Hp} {s:Shared} {a:Addr} {y d:V} {u r:Value} {o:Option V} {A:Around} {E:Value→Shared→Prop}
end
section
variable {X:Cx} {o e f:Expr} {apos cpos:Pos} {td ty tx:TE}
end
end L2
namespace Tr
open PySem
set_option genSizeOf true in
set_option genSizeOfSpec true in
inductive D where
 | non | bl (b:Bool) | int (i:Int) | str (x:Str) | tup (ds:List D) | lst (ds:List D) | dct (kvs:List (Sum Int Str×D)) | tdc (kvs:List (List (Sum Int Str)×D))
 deriving Inhabited
inductive Res (α:Type) where
 | ok (a:α) | err (c:Str) (d:D) | no
 deriving Inhabited
namespace Res
@[reducible] noncomputable def bind {α β:Type} (x:Res α) (f:α→Res β):Res β:=match x with | .ok a=>f a | .err c d=>.err c d | .no=>.no
noncomputable instance:Monad Res where
 pure:=.ok
 bind:=bind
@[simp] theorem ok_bind {α β:Type} (a:α) (f:α→Res β):(Res.ok a>>=f)=f a:=id rfl
@[simp] theorem no_bind {α β:Type} (f:α→Res β):((Res.no:Res α)>>=f)=.no:=id rfl
theorem bind_ok {α β:Type} {x:Res α} {f:α→Res β} {b:β} (h:(x>>=f)=.ok b):∃a,x=.ok a∧f a=.ok b:=by
 cases x with
 | ok a=>exact⟨a,rfl,h⟩
 | err c d=>cases h
 | no=>cases h
end Res
noncomputable def when {α:Type} (c:Bool) (r:Res α):Res α:=if c then r else .no
theorem when_ok {α:Type} {c:Bool} {r:Res α} {a:α} (h:when c r=.ok a):c=true∧r=.ok a:=by
 unfold when at h
 split at h
 ·exact⟨by assumption,h⟩
 ·cases h
@[simp] theorem when_true {α:Type} (r:Res α):when true r=r:=id rfl
theorem when_of {α:Type} {c:Bool} (h:c=true) (r:Res α):when c r=r:=by subst h;rfl
noncomputable def b2z (b:Bool):Int:=if b then 1 else 0
mutual
noncomputable def D.eqb:D→D→Bool
 | .non,.non=>true
 | .bl a,.bl b=>a==b
 | .bl a,.int j=>b2z a==j
 | .int i,.bl b=>i==b2z b
 | .int i,.int j=>i==j
 | .str x,.str y=>x==y
 | .tup a,.tup b=>D.eqs a b
 | .lst a,.lst b=>D.eqs a b
 | _,_=>false
noncomputable def D.eqs:List D→List D→Bool
 | [],[]=>true
 | a::r,b::q=>D.eqb a b&&D.eqs r q
 | _,_=>false
end
mutual
noncomputable def D.pl:Nat→D→Bool
 | _,.dct _=>false
 | _,.tdc _=>false
 | n,.tup a=>D.pls n a
 | n,.lst a=>D.pls n a
 | _,_=>true
noncomputable def D.pls:Nat→List D→Bool
 | _,[]=>true
 | 0,_::_=>false
 | n+1,a::r=>D.pl n a&&D.pls (n+1) r
end
mutual
noncomputable def D.flat:D→Bool
 | .dct _=>false
 | .tdc _=>false
 | .lst _=>false
 | .tup a=>D.flats a
 | _=>true
noncomputable def D.flats:List D→Bool
 | []=>true
 | a::r=>D.flat a&&D.flats r
end
mutual
theorem D.eqb_refl:∀(n:Nat) (d:D),D.pl n d=true→D.eqb d d=true
 | _,.non,_=>rfl
 | _,.bl a,_=>by simp[D.eqb]
 | _,.int i,_=>by simp[D.eqb]
 | _,.str x,_=>by simp[D.eqb]
 | n,.tup a,h=>by rw[D.eqb];exact D.eqs_refl n a (by rw[D.pl] at h;exact h)
 | n,.lst a,h=>by rw[D.eqb];exact D.eqs_refl n a (by rw[D.pl] at h;exact h)
 | _,.dct a,h=>by rw[D.pl] at h;cases h
 | _,.tdc a,h=>by rw[D.pl] at h;cases h
theorem D.eqs_refl:∀(n:Nat) (a:List D),D.pls n a=true→D.eqs a a=true
 | _,[],_=>by rw[D.eqs]
 | 0,a::r,h=>by rw[D.pls] at h;cases h
 | n+1,a::r,h=>by
  rw[D.pls,Bool.and_eq_true] at h
  rw[D.eqs,D.eqb_refl n a h.1,D.eqs_refl (n+1) r h.2];rfl
end
noncomputable def big:Nat:=16777216
noncomputable def sIx (n d:Nat):Option Int→Nat
 | none=>d
 | some v=>if v < 0 then (v+(n:Int)).toNat else min v.toNat n
noncomputable def cut {α:Type} (xs:List α) (lo hi:Option Int):List α:=(xs.drop (sIx xs.length 0 lo)).take (sIx xs.length xs.length hi - sIx xs.length 0 lo)
noncomputable def ixN (n:Nat) (i:Int):Option Nat:=if 0≤i then (if i < n then some i.toNat else none) else if -(n:Int)≤i then some (i+n).toNat else none
noncomputable def atI {α:Type} (xs:List α) (i:Int):Option α:=(ixN xs.length i).bind λj=>xs[j]?
noncomputable def small64 (i:Int):Bool:=decide (-(2^64) < i)&&decide (i < 2^64)
noncomputable def D.bin:Operator→D→D→Res D
 | .Add,.int i,.int j=>.ok (.int (i+j))
 | .Add,.str x,.str y=>when (decide (x.length+y.length≤big)) (.ok (.str (x++y)))
 | .Add,.lst a,.lst b=>when (decide (a.length+b.length≤big)) (.ok (.lst (a++b)))
 | .Add,.tup a,.tup b=>when (decide (a.length+b.length≤big)) (.ok (.tup (a++b)))
 | .Sub,.int i,.int j=>.ok (.int (i - j))
 | .Mult,.int i,.int j=>when (small64 i||small64 j) (.ok (.int (i*j)))
 | .Mult,.lst a,.int j=>when (decide (a.length=1)&&decide (0≤j)&&decide (j≤1000)) (.ok (.lst (List.replicate j.toNat a).flatten))
 | .Mult,.tup a,.int j=>when (decide (a.length=1)&&decide (0≤j)&&decide (j≤1000)) (.ok (.tup (List.replicate j.toNat a).flatten))
 | .FloorDiv,.int i,.int j=>when (decide (0 < j)&&decide (j < 1073741824)) (.ok (.int (i / j)))
 | .Mod,.int i,.int j=>when (decide (0 < j)) (.ok (.int (i % j)))
 | .Pow,.int i,.int j=>when (decide (0≤j)&&decide (j≤1000000)&&decide (i.natAbs < 2^64)) (.ok (.int (i^j.toNat)))
 | _,_,_=>.no
noncomputable def chr1 (c:Nat):Str:=⟨#[c]⟩
noncomputable def strCut (x:Str) (lo hi:Option Int):Str:=⟨(cut x.cps.toList lo hi).toArray⟩
noncomputable def splitC (c:Nat):List Nat→List (List Nat)
 | []=>[[]]
 | x::r=>if x=c then []::splitC c r else match splitC c r with
  | h::t=>(x::h)::t
  | []=>[[x]]
noncomputable def splitS (x:Str) (c:Nat):List Str:=(splitC c x.cps.toList).map λl=>⟨l.toArray⟩
noncomputable def joinC (g:List Nat):List (List Nat)→List Nat
 | []=>[]
 | [a]=>a
 | a::b::r=>a++g++joinC g (b::r)
noncomputable def joinS (g:Str) (xs:List Str):Str:=⟨(joinC g.cps.toList (xs.map λx=>x.cps.toList)).toArray⟩
noncomputable def digitsN (cs:List Nat):Nat:=cs.foldl (λacc c=>acc*10+(c - 48)) 0
noncomputable def isDigits (cs:List Nat):Bool:=!cs.isEmpty&&cs.all λc=>decide (48≤c)&&decide (c≤57)
noncomputable def strsOf:List D→Res (List Str)
 | []=>.ok []
 | .str x::r=>do let q ←strsOf r;.ok (x::q)
 | _::_=>.no
noncomputable def blsOf:List D→Res (List Bool)
 | []=>.ok []
 | .bl x::r=>do let q ←blsOf r;.ok (x::q)
 | _::_=>.no
noncomputable def oneIn (x y:Str):Res Bool:=match x.cps.toList with
 | [c]=>.ok (decide (c∈y.cps.toList))
 | _=>.no
noncomputable def keyOf:D→Option (Sum Int Str)
 | .int i=>some (.inl i)
 | .str x=>some (.inr x)
 | _=>none
noncomputable def valK (kvs:List (Sum Int Str×D)) (k:Sum Int Str):Option D:=(kvs.find? λkv=>decide (kv.1=k)).map (·.2)
noncomputable def putKD (kvs:List (Sum Int Str×D)) (k:Sum Int Str) (v:D):List (Sum Int Str×D) :=
 if (kvs.any λkv=>decide (kv.1=k))=true then kvs.map (λkv=>if kv.1=k then (kv.1,v) else kv) else kvs++[(k,v)]
noncomputable def keysT:List D→Option (List (Sum Int Str))
 | []=>some []
 | d::r=>(keyOf d).bind λk=>(keysT r).map λq=>k::q
noncomputable def keysI:List D→Option (List (Sum Int Str))
 | []=>some []
 | .int i::r=>(keysI r).map λq=>.inl i::q
 | _::_=>none
noncomputable def keyD:Sum Int Str→D
 | .inl i=>.int i
 | .inr x=>.str x
noncomputable def valT (kvs:List (List (Sum Int Str)×D)) (k:List (Sum Int Str)):Option D:=(kvs.find? λkv=>decide (kv.1=k)).map (·.2)
noncomputable def putTD (kvs:List (List (Sum Int Str)×D)) (k:List (Sum Int Str)) (v:D):List (List (Sum Int Str)×D) :=
 if (kvs.any λkv=>decide (kv.1=k))=true then kvs.map (λkv=>if kv.1=k then (kv.1,v) else kv) else kvs++[(k,v)]
noncomputable def Res.of {α:Type}:Option α→Res α
 | some a=>.ok a
 | none=>.no
noncomputable def D.isNon:D→Bool
 | .non=>true
 | _=>false
noncomputable def D.eqOk (a b:D):Bool:=D.pl 30 a&&D.pl 30 b
noncomputable def D.mem (x:D):List D→Bool
 | []=>false
 | y::r=>D.eqb y x||D.mem x r
noncomputable def D.inn (x:D):D→Res Bool
 | .lst ds=>when (D.pls 30 ds&&D.pl 29 x) (.ok (D.mem x ds))
 | .tup ds=>when (D.pls 30 ds&&D.pl 29 x) (.ok (D.mem x ds))
 | .dct kvs=>do let k ←Res.of (keyOf x);.ok (valK kvs k).isSome
 | .tdc kvs=>match x with
  | .tup ks=>do let k ←Res.of (keysI ks);.ok (valT kvs k).isSome
  | _=>.no
 | .str y=>match x with
  | .str z=>oneIn z y
  | _=>.no
 | _=>.no
noncomputable def D.cmp:CmpOp→D→D→Res D
 | .Eq,a,b=>when (D.eqOk a b) (.ok (.bl (D.eqb a b)))
 | .NotEq,a,b=>when (D.eqOk a b) (.ok (.bl (!D.eqb a b)))
 | .Lt,.int i,.int j=>.ok (.bl (decide (i < j)))
 | .LtE,.int i,.int j=>.ok (.bl (decide (i≤j)))
 | .Gt,.int i,.int j=>.ok (.bl (decide (j < i)))
 | .GtE,.int i,.int j=>.ok (.bl (decide (j≤i)))
 | .Is,a,.non=>.ok (.bl a.isNon)
 | .IsNot,a,.non=>.ok (.bl (!a.isNon))
 | .Is,.bl a,.bl b=>.ok (.bl (a==b))
 | .IsNot,.bl a,.bl b=>.ok (.bl (a != b))
 | .In,a,b=>do let k ←D.inn a b;.ok (.bl k)
 | .NotIn,a,b=>do let k ←D.inn a b;.ok (.bl (!k))
 | _,_,_=>.no
noncomputable def D.truth:D→Res Bool
 | .non=>.ok false
 | .bl b=>.ok b
 | .int i=>.ok (i != 0)
 | .str x=>when (decide (x.length≤big)) (.ok ((x.length:Int) != 0))
 | .tup a=>.ok (!a.isEmpty)
 | .lst a=>.ok (!a.isEmpty)
 | .dct _=>.no
 | .tdc _=>.no
noncomputable def D.ix:D→D→Res D
 | .lst a,.int i=>Res.of (atI a i)
 | .tup a,.int i=>Res.of (atI a i)
 | .str x,.int i=>when (decide (x.length≤big)) (Res.of ((atI x.cps.toList i).map λc=>.str ⟨#[c]⟩))
 | .dct kvs,y=>do let k ←Res.of (keyOf y);Res.of (valK kvs k)
 | .tdc kvs,.tup ks=>do let k ←Res.of (keysI ks);Res.of (valT kvs k)
 | _,_=>.no
noncomputable def D.part:D→Res (Option Int)
 | .non=>.ok none
 | .int i=>.ok (some i)
 | _=>.no
noncomputable def D.sl:D→Option Int→Option Int→Res D
 | .lst a,lo,hi=>.ok (.lst (cut a lo hi))
 | .tup a,lo,hi=>.ok (.tup (cut a lo hi))
 | .str x,lo,hi=>when (decide (x.length≤big)) (.ok (.str (strCut x lo hi)))
 | _,_,_=>.no
noncomputable def D.items:D→Res (List D)
 | .lst a=>.ok a
 | .tup a=>.ok a
 | .str x=>.ok (x.cps.toList.map λc=>.str (chr1 c))
 | _=>.no
noncomputable def intsOf:List D→Res (List Int)
 | []=>.ok []
 | .int i::r=>do let q ←intsOf r;.ok (i::q)
 | _::_=>.no
noncomputable def rangeD (lo:Int):Nat→List D
 | 0=>[]
 | n+1=>.int lo::rangeD (lo+1) n
noncomputable def enumD (k:Int):List D→List D
 | []=>[]
 | d::r=>.tup [.int k,d]::enumD (k+1) r
noncomputable def small62 (i:Int):Bool:=decide (-(2^62)≤i)&&decide (i < 2^62)
inductive Ty where
 | int | bool | str | tuple | list
 deriving DecidableEq,Inhabited
noncomputable def D.isDct:D→Bool
 | .dct _=>true
 | .tdc _=>true
 | _=>false
inductive Bt where
 | len | sum | tuple | list | int | str | bool | abs | min | max | all | any
 deriving DecidableEq,Inhabited
noncomputable def D.len:D→Res D
 | .lst a=>.ok (.int a.length)
 | .tup a=>.ok (.int a.length)
 | .str x=>when (decide (x.length≤big)) (.ok (.int x.length))
 | .dct a=>.ok (.int a.length)
 | _=>.no
noncomputable def D.sum:D→Res D
 | .lst a=>do let ns ←intsOf a;.ok (.int ns.sum)
 | _=>.no
noncomputable def D.tuple:D→Res D
 | .lst a=>.ok (.tup a)
 | .tup a=>.ok (.tup a)
 | _=>.no
noncomputable def D.list:D→Res D
 | .lst a=>.ok (.lst a)
 | .tup a=>.ok (.lst a)
 | _=>.no
noncomputable def D.toInt:D→Res D
 | .int i=>.ok (.int i)
 | .bl b=>.ok (.int (b2z b))
 | .str x=>when (isDigits x.cps.toList&&decide (x.length≤640)) (.ok (.int (digitsN x.cps.toList)))
 | _=>.no
noncomputable def D.toStr:D→Res D
 | .int i=>when (decide (i.natAbs.log2 < 1920)) (.ok (.str (Str.ofString (toString i))))
 | _=>.no
noncomputable def D.toBool:D→Res D
 | .int i=>.ok (.bl (i != 0))
 | .bl b=>.ok (.bl b)
 | _=>.no
noncomputable def D.abs:D→Res D
 | .int i=>.ok (.int (if i < 0 then -i else i))
 | _=>.no
noncomputable def D.all:D→Res D
 | .lst a=>do let q ←blsOf a;.ok (.bl (q.all id))
 | _=>.no
noncomputable def D.any:D→Res D
 | .lst a=>do let q ←blsOf a;.ok (.bl (q.any id))
 | _=>.no
noncomputable def maxI:Int→List Int→Int
 | m,[]=>m
 | m,n::r=>maxI (if n > m then n else m) r
noncomputable def minI:Int→List Int→Int
 | m,[]=>m
 | m,n::r=>minI (if n < m then n else m) r
noncomputable def D.maxL:D→Res D
 | .lst a=>do
  match ←intsOf a with
  | n::ns=>.ok (.int (maxI n ns))
  | []=>.no
 | .tup a=>do
  match ←intsOf a with
  | n::ns=>.ok (.int (maxI n ns))
  | []=>.no
 | _=>.no
noncomputable def D.minL:D→Res D
 | .lst a=>do
  match ←intsOf a with
  | n::ns=>.ok (.int (minI n ns))
  | []=>.no
 | .tup a=>do
  match ←intsOf a with
  | n::ns=>.ok (.int (minI n ns))
  | []=>.no
 | _=>.no
noncomputable def D.min2:D→D→Res D
 | .int i,.int j=>.ok (.int (if j < i then j else i))
 | _,_=>.no
noncomputable def D.max2:D→D→Res D
 | .int i,.int j=>.ok (.int (if j > i then j else i))
 | _,_=>.no
noncomputable def Bt.one:Bt→D→Res D
 | .len=>D.len
 | .sum=>D.sum
 | .tuple=>D.tuple
 | .list=>D.list
 | .int=>D.toInt
 | .str=>D.toStr
 | .bool=>D.toBool
 | .abs=>D.abs
 | .all=>D.all
 | .any=>D.any
 | .min=>D.minL
 | .max=>D.maxL
noncomputable def Bt.two:Bt→D→D→Res D
 | .min=>D.min2
 | .max=>D.max2
 | _=>λ_ _=>.no
noncomputable def Bt.run (b:Bt):List D→Res D
 | [d]=>b.one d
 | [d,d']=>b.two d d'
 | _=>.no
noncomputable def keyV:D→Res (List (Sum Int Str))
 | .tup ks=>Res.of (keysI ks)
 | _=>.no
noncomputable def dkeysR:D→Res (List D)
 | .tdc kvs=>.ok (kvs.map λkv=>.tup (kv.1.map keyD))
 | .dct kvs=>.ok (kvs.map λkv=>keyD kv.1)
 | _=>.no
noncomputable def insI (n:Int):List Int→List Int
 | []=>[n]
 | m::r=>if n≤m then n::m::r else m::insI n r
noncomputable def sortI:List Int→List Int
 | []=>[]
 | n::r=>insI n (sortI r)
noncomputable def srtR:D→Res D
 | .lst a=>do let ns ←intsOf a;when (decide (ns.length < 64)) (.ok (.lst ((sortI ns).map D.int)))
 | _=>.no
inductive Mt where
 | split | join | index
 deriving DecidableEq,Inhabited
noncomputable def Mt.run:Mt→D→D→Res D
 | .split,.str x,.str y=>match y.cps.toList with
  | [c]=>when (decide (x.length < big)&&decide (c < 256)) (.ok (.lst ((splitS x c).map D.str)))
  | _=>.no
 | .join,.str g,.lst ds=>do
  let xs ←strsOf ds
  when (decide (g.length≤64)&&decide ((xs.map (·.length)).sum+xs.length*64≤big)) (.ok (.str (joinS g xs)))
 | .index,.lst ds,.int i=>do let ns ←intsOf ds;when (ns.contains i) (.ok (.int (ns.idxOf i:Nat)))
 | _,_,_=>.no
noncomputable def keysD:List D→Res (List (Sum Int Str))
 | []=>.ok []
 | d::r=>do let k ←Res.of (keyOf d);let q ←keysD r;.ok (k::q)
noncomputable def D.keys:D→Res (List (Sum Int Str))
 | .lst ds=>keysD ds
 | .tup ds=>keysD ds
 | .str x=>.ok (x.cps.toList.map λc=>.inr ⟨#[c]⟩)
 | _=>.no
noncomputable def metD (ks:List (Sum Int Str)):List (Sum Int Str):=ks.foldl (λacc k=>if acc.any (λx=>decide (x=k)) then acc else acc++[k]) []
noncomputable def pairs72:List (Nat×Nat):=(List.range 9).flatMap λa=>(List.range 8).map λb=>(a,b)
noncomputable def subsN:List Nat→List (List Nat)
 | []=>[[]]
 | a::r=>subsN r++(subsN r).map (a::·)
noncomputable def keyTab:List (List Nat):=(pairs72.map λp=>[p.1,p.2])++(subsN (List.range 6)).filter λk=>k.length != 2
noncomputable def natsOf:List D→Option (List Nat)
 | []=>some []
 | .int a::r=>if decide (0≤a) then (natsOf r).bind λq=>some (a.toNat::q) else none
 | _=>none
noncomputable def pairOf:D→Option (List Nat)
 | .tup ks=>(natsOf ks).bind λk=>if keyTab.contains k then some k else none
 | _=>none
noncomputable def prsOf:List D→Option (List (List Nat))
 | []=>some []
 | d::r=>(pairOf d).bind λp=>(prsOf r).bind λq=>some (p::q)
noncomputable def metN (l:List (List Nat)):List (List Nat):=l.foldl (λacc k=>if acc.contains k then acc else acc++[k]) []
noncomputable def D.setN (x:D):Res D:=match x.keys with
 | .ok ks=>when (decide (ks.length+1 < 4096)) (.ok (.int (metD ks).length))
 | _=>match x with
  | .lst ds=>match prsOf ds with
   | some ps=>when (decide (ps.length≤72)) (.ok (.int (metN ps).length))
   | none=>.no
  | _=>.no
set_option genInjectivity false in
inductive G where
 | one (i:Nat) | many (is:List Nat)
 deriving Inhabited
set_option genInjectivity false in
inductive E where
 | var (i:Nat) | rd (i:Nat) | con (d:D) | glob (g:Nat)
 | bin (o:Operator) (a b:E) | cmp (o:CmpOp) (a b:E)
 | and (a b:E) | not (a:E) | neg (a:E) | ife (c a b:E)
 | ix (a b:E) | sl (a lo hi:E) | omit
 | tup (a:E) | lst (a:E) | anil | acons (a r:E)
 | call (f:Nat) (a:E) | bt (b:Bt) (a:E)
 | comp (own:Nat) (caps:List Nat) (g:G) (elt src cond:E)
 | seq (a:E) | rng (a:E) | rng2 (a b:E) | enum (a:E)
 | dck (a:E) | seqD (a:E) | srt (a:E)
 deriving Inhabited
set_option genInjectivity false in
inductive S where
 | nil | cons (a r:S)
 | ret (e:E) | retO (i:Nat)
 | asg (g:G) (e:E) | asgO (i:Nat) (e:E) | sealed (i:Nat)
 | ite (c:E) (a b:S) | forS (g:G) (src:E) (b:S)
 | app (i:Nat) (e:E)
 | ext (i:Nat) (e:E)
 | never
 | exp (e:E)
 | newD (i:Nat) | newT (i:Nat) | dputV (i:Nat) (k v:E) | asgN (i:Nat) (e:E)
 | extN (i j:Nat) | dputR (i:Nat) (k v:E) | retR (e:E) (i j:Nat) | ifR (neg:Bool) (c:E) (f:Nat) (x:E) (i j:Nat) (y:E) (a b:S)
 deriving Inhabited
inductive Sl where
 | no | v (d:D) | o (d:D) | t (ds:List D) | n (d:D) | r (a:Nat) (d:D)
 deriving Inhabited
noncomputable abbrev Nv:=List Sl
noncomputable def Nv.at (e:Nv) (i:Nat):Sl:=(e[i]?).getD .no
noncomputable def Sl.val:Sl→Res D
 | .v d=>.ok d
 | .n d=>.ok d
 | _=>.no
noncomputable def Sl.any:Sl→Res D
 | .v d=>.ok d
 | .n d=>.ok d
 | .o d=>.ok d
 | .r _ d=>.ok d
 | _=>.no
noncomputable def Sl.own:Sl→Res (List D)
 | .o (.lst a)=>.ok a
 | _=>.no
noncomputable def Sl.refD:Sl→Res (Nat×List (Sum Int Str×D))
 | .r a (.dct k)=>.ok (a,k)
 | _=>.no
noncomputable def Sl.givD:Sl→Res (List (Sum Int Str×D))
 | .o (.dct k)=>.ok k
 | .r _ (.dct k)=>.ok k
 | _=>.no
noncomputable def Sl.giv (x:Sl) (d:D):Sl:=match x with
 | .r a _=>.r a d
 | _=>.o d
noncomputable def Sl.ownT:Sl→Res (List (List (Sum Int Str)×D))
 | .o (.tdc a)=>.ok a
 | _=>.no
noncomputable def Sl.ownA:Sl→Res D
 | .o d=>.ok d
 | _=>.no
noncomputable def puts:List Nat→List D→Nv→Res Nv
 | [],[],e=>.ok e
 | i::r,d::q,e=>puts r q (e.set i (.v d))
 | _,_,_=>.no
noncomputable def G.put:G→D→Nv→Res Nv
 | .one i,d,e=>.ok (e.set i (.v d))
 | .many is,.tup ds,e=>puts is ds e
 | _,_,_=>.no
noncomputable def compEnv (own:Nat) (caps:List Nat) (e:Nv):Nv:=List.replicate own Sl.no++caps.map λi=>e.at i
noncomputable def keyInts:List (Sum Int Str×D)→Res (List Int)
 | []=>.ok []
 | (.inl n,_)::r=>do let q ←keyInts r;.ok (n::q)
 | _=>.no
noncomputable def pairsK:List D→Res (List (Sum Int Str×D))
 | []=>.ok []
 | .tup [k,v]::r=>do let k ←Res.of (keyOf k);let q ←pairsK r;.ok ((k,v)::q)
 | _=>.no
noncomputable def putAllK (qs kvs:List (Sum Int Str×D)):List (Sum Int Str×D):=qs.foldl (λm q=>putKD m q.1 q.2) kvs
noncomputable def dckR:D→Res D
 | .lst ds=>do let qs ←pairsK ds;.ok (.dct (putAllK qs []))
 | _=>.no
noncomputable def srtA:D→Res D
 | .dct kvs=>do let ns ←keyInts kvs;when (decide (ns.length < 64)) (.ok (.lst ((sortI ns).map D.int)))
 | .lst a=>srtR (.lst a)
 | _=>.no
set_option genInjectivity false in
structure Tab where
 glob:Nat→D
 fresh:Nat→Bool
 mv:Nat→Option Nat:=λ_=>none
section
variable (T:Tab) (cf:Nat→List D→Res D)
noncomputable def hasL:List D→Bool
 | .lst _::_=>true
 | .int _::r=>hasL r
 | _=>false
noncomputable def tupL:D→Bool
 | .tup ds=>hasL ds
 | _=>false
noncomputable def D.flatL:D→Bool
 | .lst ds=>D.flats ds
 | _=>false
noncomputable def freshE:E→Bool
 | .lst _=>true
 | .sl _ _ _=>true
 | .bin .Add _ _=>true
 | .comp _ _ _ _ _ _=>true
 | .bt .list _=>true
 | .call f _=>T.fresh f
 | .srt _=>true
 | _=>false
noncomputable def argAt:E→Nat→E
 | .acons a _,0=>a
 | .acons _ r,n+1=>argAt r n
 | _,_=>.omit
noncomputable def Sl.isN:Sl→Bool
 | .n _=>true
 | _=>false
noncomputable def newE (x:E) (e:Nv):Bool:=freshE T x||(match x with | .var j=>(e.at j).isN | _=>false)
noncomputable def compL (f:D→Res (Option D)):List D→Res (List D)
 | []=>.ok []
 | d::r=>do
  let x ←f d
  let q ←compL f r
  match x with
  | some y=>.ok (y::q)
  | none=>.ok q
mutual
noncomputable def evE:E→Nv→Res D
 | .var i,e=>(e.at i).val
 | .rd i,e=>(e.at i).any
 | .con d,_=>.ok d
 | .glob g,_=>.ok (T.glob g)
 | .bin o a b,e=>do let x ←evE a e;let y ←evE b e;D.bin o x y
 | .cmp o a b,e=>do let x ←evE a e;let y ←evE b e;D.cmp o x y
 | .and a b,e=>do let x ←evE a e;let k ←x.truth;if k then evE b e else .ok x
 | .not a,e=>do let x ←evE a e;let k ←x.truth;.ok (.bl (!k))
 | .neg a,e=>do
  match ←evE a e with
  | .int i=>.ok (.int (-i))
  | _=>.no
 | .ife c a b,e=>do let x ←evE c e;let k ←x.truth;if k then evE a e else evE b e
 | .ix a b,e=>do let x ←evE a e;let y ←evE b e;D.ix x y
 | .sl a lo hi,e=>do let x ←evE a e;let l ←evE lo e;let l ←l.part;let h ←evE hi e;let h ←h.part;D.sl x l h
 | .omit,_=>.ok .non
 | .tup a,e=>do let xs ←evA a e;.ok (.tup xs)
 | .lst a,e=>do let xs ←evA a e;.ok (.lst xs)
 | .call f a,e=>do let xs ←evA a e;cf f xs
 | .srt a,e=>do let x ←evE a e;srtA x
 | .dck a,e=>do let x ←evE a e;dckR x
 | .bt b a,e=>do let xs ←evA a e;b.run xs
 | .comp own caps g elt src cond,e=>do
  let ds ←evI src e
  let ys ←compL (λd=>do
   let e1 ←g.put d (compEnv own caps e)
   let c ←evE cond e1
   let k ←c.truth
   if k then do let y ←evE elt e1;.ok (some y) else .ok none) ds
  when (decide (ds.length≤big)) (.ok (.lst ys))
 | _,_=>.no
noncomputable def evA:E→Nv→Res (List D)
 | .anil,_=>.ok []
 | .acons a r,e=>do let x ←evE a e;let q ←evA r e;when (decide (q.length < 1000)) (.ok (x::q))
 | _,_=>.no
noncomputable def evI:E→Nv→Res (List D)
 | .seq a,e=>do let x ←evE a e;x.items
 | .rng a,e=>do
  match ←evE a e with
  | .int n=>when (small62 n) (.ok (rangeD 0 n.toNat))
  | _=>.no
 | .rng2 a b,e=>do
  match ←evE a e with
  | .int n=>do
   match ←evE b e with
   | .int m=>when (small62 n&&small62 m) (.ok (rangeD n (m - n).toNat))
   | _=>.no
  | _=>.no
 | .enum a,e=>do
  match ←evE a e with
  | .lst ds=>.ok (enumD 0 ds)
  | _=>.no
 | .seqD a,e=>do let x ←evE a e;dkeysR x
 | _,_=>.no
end
noncomputable def D.isInt:D→Bool
 | .int _=>true
 | _=>false
inductive Out where
 | nx (e:Nv) | rt (d:D) (fresh:Bool) | bk (e:Nv) | ct (e:Nv) | rr (d:D) (a:Nat) (j:List (Sum Int Str×D)) (b:Nat) (k:List (Sum Int Str×D))
 deriving Inhabited
noncomputable def forL (f:D→Nv→Res Out):List D→Nv→Res Out
 | [],e=>.ok (.nx e)
 | d::r,e=>do
  match ←f d e with
  | .nx e1=>forL f r e1
  | .ct e1=>forL f r e1
  | .bk e1=>.ok (.nx e1)
  | .rt x k=>.ok (.rt x k)
  | .rr x a j b k=>.ok (.rr x a j b k)
noncomputable def refC (f:Nat) (x:D) (j k:List (Sum Int Str×D)) (y:D):Res (D×List (Sum Int Str×D)×List (Sum Int Str×D)) :=
 open Classical in if h:∃r:D×List (Sum Int Str×D)×List (Sum Int Str×D),∀a b:Nat,a≠b→cf f [x,.tup [.int a,.dct j],.tup [.int b,.dct k],y]=.ok (.tup [r.1,.dct r.2.1,.dct r.2.2]) then .ok h.choose else .no
noncomputable def exS:S→Nv→Res Out
 | .nil,e=>.ok (.nx e)
 | .cons a r,e=>do
  match ←exS a e with
  | .nx e1=>exS r e1
  | o=>.ok o
 | .ret x,e=>do let d ←evE T cf x e;.ok (.rt d (freshE T x&&!tupL d))
 | .retO i,e=>do let a ←(e.at i).ownA;.ok (.rt a (!a.isDct))
 | .asg g x,e=>do let d ←evE T cf x e;let e1 ←g.put d e;.ok (.nx e1)
 | .asgO i x,e=>do
  match ←evE T cf x e with
  | .lst a=>when (freshE T x) (.ok (.nx (e.set i (.o (.lst a)))))
  | .dct a=>when (freshE T x) (.ok (.nx (e.set i (.o (.dct a)))))
  | .tdc a=>when (freshE T x) (.ok (.nx (e.set i (.o (.tdc a)))))
  | _=>.no
 | .sealed i,e=>do let a ←(e.at i).ownA;.ok (.nx (e.set i (.v a)))
 | .ite c a b,e=>do let x ←evE T cf c e;let k ←x.truth;if k then exS a e else exS b e
 | .forS g src b,e=>do
  let ds ←evI T cf src e
  forL (λd e0=>do let e1 ←g.put d e0;exS b e1) ds e
 | .app i x,e=>do
  let d ←evE T cf x e
  let a ←(e.at i).own
  when (decide (a.length < big)) (.ok (.nx (e.set i (.o (.lst (a++[d]))))))
 | .newD i,e=>.ok (.nx (e.set i (.o (.dct []))))
 | .newT i,e=>.ok (.nx (e.set i (.o (.tdc []))))
 | .dputV i k x,e=>do
  let d ←evE T cf x e
  let a ←(e.at i).ownT
  let y ←evE T cf k e
  let key ←keyV y
  when (decide (a.length < big)) (.ok (.nx (e.set i (.o (.tdc (putTD a key d))))))
 | .ext i x,e=>do
  match ←evE T cf x e with
  | .lst b=>do
   let a ←(e.at i).own
   when (freshE T x&&decide (a.length+b.length≤big)) (.ok (.nx (e.set i (.o (.lst (a++b))))))
  | _=>.no
 | .never,_=>.no
 | .exp x,e=>do let _ ←evE T cf x e;.ok (.nx e)
 | .asgN i x,e=>do let d ←evE T cf x e;when (newE T x e&&(d.isNon||d.flatL)) (.ok (.nx (e.set i (.n d))))
 | .extN i j,e =>
  match e.at j with
  | .n (.lst b)=>do
   let a ←(e.at i).own
   when (decide (a.length+b.length≤big)) (.ok (.nx (e.set i (.o (.lst (a++b))))))
  | _=>.no
 | .dputR i k x,e=>do
  let d ←evE T cf x e
  let a ←(e.at i).refD
  let y ←evE T cf k e
  let key ←Res.of (keyOf y)
  when (decide (a.2.length < big)) (.ok (.nx (e.set i (.r a.1 (.dct (putKD a.2 key d))))))
 | .retR x i j,e=>do
  let d ←evE T cf x e
  let a ←(e.at i).refD
  let b ←(e.at j).refD
  .ok (.rr d a.1 a.2 b.1 b.2)
 | .ifR neg c f x i j y a b,e=>when (decide (T.mv f=some 1000)&&decide (i≠j)) (do
  let k0 ←(if neg then .ok false else do let z ←evE T cf c e;z.truth)
  if k0 then exS a e else do
   let d1 ←evE T cf x e
   let g ←(e.at i).givD
   let h ←(e.at j).givD
   let d2 ←evE T cf y e
   let r ←refC cf f d1 g h d2
   let k ←r.1.truth
   let e1:=(e.set i ((e.at i).giv (.dct r.2.1))).set j ((e.at j).giv (.dct r.2.2))
   if (k != neg) then exS a e1 else exS b e1)
noncomputable def exX (T:Tab) (cf:Nat→List D→Res D) (_:S) (_:Nv):Option (Str×D):=none
end
structure Told where
 b:S
 c:Str
 yes:D
 thr:D
 ini:D:=.non
 num:Bool:=false
 deriving Inhabited
set_option genInjectivity false in
structure Df where
 names:Nat
 pars:Nat
 body:S
 told:Option Told:=none
 deriving Inhabited
noncomputable def startE (mv:Option Nat) (ds:List D):Nv:=match mv with
 | none=>ds.map Sl.v
 | some j=>(ds.map Sl.v).set j (.n (ds.getD j .non))
noncomputable def startR:List D→Option (Nat×Nat×Nv)
 | [x,.tup [.int a,.dct j],.tup [.int b,.dct k],y]=>some (a.toNat,b.toNat,[.v x,.r a.toNat (.dct j),.r b.toNat (.dct k),.v y])
 | _=>none
noncomputable def callF (T:Tab) (defs:List Df):Nat→Nat→List D→Res D
 | 0,_,_=>.no
 | n+1,f,ds =>
  match defs[f]? with
  | none=>.no
  | some d =>
   when (ds.length==d.pars) (match d.told with
    | none=>if T.mv f=some 1000 then (match startR ds with
     | none=>.no
     | some z=>match exS T (callF T defs n) d.body (z.2.2++List.replicate (d.names - d.pars) Sl.no) with
      | .ok (.rr x a j b k)=>when (a==z.1&&b==z.2.1) (.ok (.tup [x,.dct j,.dct k]))
      | _=>.no) else match exX T (callF T defs n) d.body (startE (T.mv f) ds++List.replicate (d.names - d.pars) Sl.no) with
     | some z=>.err z.1 z.2
     | none=>match exS T (callF T defs n) d.body (startE (T.mv f) ds++List.replicate (d.names - d.pars) Sl.no) with
      | .ok (.rt x k)=>when (k||!T.fresh f) (.ok x)
      | .ok (.nx _)=>when (!T.fresh f) (.ok .non)
      | _=>.no
    | some t=>match exX T (callF T defs n) t.b (ds.map Sl.v++[.v t.ini,.no]) with
     | some z=>when (z.1==t.c&&!T.fresh f) (if t.num then (match z.2 with | .int v=>.ok (.int v) | _=>.no) else .ok t.yes)
     | none=>match exS T (callF T defs n) t.b (ds.map Sl.v++[.v t.ini,.no]) with
      | .ok (.nx _)=>when (!T.fresh f) (.ok t.thr)
      | _=>.no)
section
variable {T:Tab} {cf:Nat→List D→Res D} {e:Nv}
theorem xE_var {i:Nat}:evE T cf (.var i) e=((e.at i).val):=rfl
theorem xE_rd {i:Nat}:evE T cf (.rd i) e=((e.at i).any):=rfl
theorem xE_con {d:D}:evE T cf (.con d) e=(.ok d):=rfl
theorem xE_glob {g:Nat}:evE T cf (.glob g) e=(.ok (T.glob g)):=rfl
theorem xE_cmp {o:CmpOp} {a:E} {b:E}:evE T cf (.cmp o a b) e=(do let x ←evE T cf a e;let y ←evE T cf b e;D.cmp o x y):=rfl
theorem xE_and {a:E} {b:E}:evE T cf (.and a b) e=(do let x ←evE T cf a e;let k ←x.truth;if k then evE T cf b e else .ok x):=rfl
theorem xE_not {a:E}:evE T cf (.not a) e=(do let x ←evE T cf a e;let k ←x.truth;.ok (.bl (!k))):=rfl
theorem xE_neg {a:E}:evE T cf (.neg a) e=(do
 match ←evE T cf a e with
 | .int i=>.ok (.int (-i))
 | _=>.no):=rfl
theorem xE_ife {c:E} {a:E} {b:E}:evE T cf (.ife c a b) e=(do let x ←evE T cf c e;let k ←x.truth;if k then evE T cf a e else evE T cf b e):=rfl
theorem xE_sl {a:E} {lo:E} {hi:E}:evE T cf (.sl a lo hi) e=(do let x ←evE T cf a e;let l ←evE T cf lo e;let l ←l.part;let h ←evE T cf hi e;let h ←h.part;D.sl x l h):=rfl
theorem xE_omit  : evE T cf (.«omit») e=(.ok .non):=rfl
theorem xE_tup {a:E}:evE T cf (.tup a) e=(do let xs ←evA T cf a e;.ok (.tup xs)):=rfl
theorem xE_lst {a:E}:evE T cf (.lst a) e=(do let xs ←evA T cf a e;.ok (.lst xs)):=rfl
theorem xE_call {f:Nat} {a:E}:evE T cf (.call f a) e=(do let xs ←evA T cf a e;cf f xs):=rfl
theorem xI_seqD {a:E}:evI T cf (.seqD a) e=(do let x ←evE T cf a e;dkeysR x):=rfl
theorem xE_srt {a:E}:evE T cf (.srt a) e=(do let x ←evE T cf a e;srtA x):=rfl
theorem xE_dck {a:E}:evE T cf (.dck a) e=(do let x ←evE T cf a e;dckR x):=rfl
theorem xE_bt {b:Bt} {a:E}:evE T cf (.bt b a) e=(do let xs ←evA T cf a e;b.run xs):=rfl
theorem xE_comp {own:Nat} {caps:List Nat} {g:G} {elt:E} {src:E} {cond:E}:evE T cf (.comp own caps g elt src cond) e=(do
 let ds ←evI T cf src e
 let ys ←compL (λd=>do
  let e1 ←g.put d (compEnv own caps e)
  let c ←evE T cf cond e1
  let k ←c.truth
  if k then do let y ←evE T cf elt e1;.ok (some y) else .ok none) ds
 when (decide (ds.length≤big)) (.ok (.lst ys))):=rfl
theorem xA_anil  : evA T cf (.anil) e=(.ok []):=rfl
theorem xA_acons {a:E} {r:E}:evA T cf (.acons a r) e=(do let x ←evE T cf a e;let q ←evA T cf r e;when (decide (q.length < 1000)) (.ok (x::q))):=rfl
theorem xI_seq {a:E}:evI T cf (.seq a) e=(do let x ←evE T cf a e;x.items):=rfl
theorem xI_rng {a:E}:evI T cf (.rng a) e=(do
 match ←evE T cf a e with
 | .int n=>when (small62 n) (.ok (rangeD 0 n.toNat))
 | _=>.no):=rfl
theorem xI_rng2 {a:E} {b:E}:evI T cf (.rng2 a b) e=(do
 match ←evE T cf a e with
 | .int n=>do
  match ←evE T cf b e with
  | .int m=>when (small62 n&&small62 m) (.ok (rangeD n (m - n).toNat))
  | _=>.no
 | _=>.no):=rfl
theorem xI_enum {a:E}:evI T cf (.enum a) e=(do
 match ←evE T cf a e with
 | .lst ds=>.ok (enumD 0 ds)
 | _=>.no):=rfl
theorem xS_nil  : exS T cf (.nil) e=(.ok (.nx e)):=rfl
theorem xS_cons {a:S} {r:S}:exS T cf (.cons a r) e=(do
 match ←exS T cf a e with
 | .nx e1=>exS T cf r e1
 | o=>.ok o):=rfl
theorem xS_ret {x:E}:exS T cf (.ret x) e=(do let d ←evE T cf x e;.ok (.rt d (freshE T x&&!tupL d))):=rfl
theorem xS_retO {i:Nat}:exS T cf (.retO i) e=(do let a ←(e.at i).ownA;.ok (.rt a (!a.isDct))):=rfl
theorem xS_asg {g:G} {x:E}:exS T cf (.asg g x) e=(do let d ←evE T cf x e;let e1 ←g.put d e;.ok (.nx e1)):=rfl
theorem xS_asgO {i:Nat} {x:E}:exS T cf (.asgO i x) e=(do
 match ←evE T cf x e with
 | .lst a=>when (freshE T x) (.ok (.nx (e.set i (.o (.lst a)))))
 | .dct a=>when (freshE T x) (.ok (.nx (e.set i (.o (.dct a)))))
 | .tdc a=>when (freshE T x) (.ok (.nx (e.set i (.o (.tdc a)))))
 | _=>.no):=rfl
theorem xS_sealed {i:Nat}:exS T cf (.«sealed» i) e=(do let a ←(e.at i).ownA;.ok (.nx (e.set i (.v a)))):=rfl
theorem xS_ite {c:E} {a:S} {b:S}:exS T cf (.ite c a b) e=(do let x ←evE T cf c e;let k ←x.truth;if k then exS T cf a e else exS T cf b e):=rfl
theorem xS_forS {g:G} {src:E} {b:S}:exS T cf (.forS g src b) e=(do
 let ds ←evI T cf src e
 forL (λd e0=>do let e1 ←g.put d e0;exS T cf b e1) ds e):=rfl
theorem xS_app {i:Nat} {x:E}:exS T cf (.app i x) e=(do
 let d ←evE T cf x e
 let a ←(e.at i).own
 when (decide (a.length < big)) (.ok (.nx (e.set i (.o (.lst (a++[d]))))))):=rfl
theorem refC_ok {f:Nat} {x y:D} {j k:List (Sum Int Str×D)} {r:D×List (Sum Int Str×D)×List (Sum Int Str×D)} (h:refC cf f x j k y=.ok r):∀a b:Nat,a≠b→cf f [x,.tup [.int a,.dct j],.tup [.int b,.dct k],y]=.ok (.tup [r.1,.dct r.2.1,.dct r.2.2]):=by
 unfold refC at h
 split at h
 ·rename_i hx
  injection h with h
  rw[←h]
  exact hx.choose_spec
 ·cases h
theorem refC_of {f:Nat} {x y:D} {j k:List (Sum Int Str×D)} {r:D×List (Sum Int Str×D)×List (Sum Int Str×D)} (h:∀a b:Nat,a≠b→cf f [x,.tup [.int a,.dct j],.tup [.int b,.dct k],y]=.ok (.tup [r.1,.dct r.2.1,.dct r.2.2])):refC cf f x j k y=.ok r:=by
 unfold refC
 have hx:∃r:D×List (Sum Int Str×D)×List (Sum Int Str×D),∀a b:Nat,a≠b→cf f [x,.tup [.int a,.dct j],.tup [.int b,.dct k],y]=.ok (.tup [r.1,.dct r.2.1,.dct r.2.2]):=⟨r,h⟩
 rw[dif_pos hx]
 have h1:=hx.choose_spec 0 1 (by lia)
 rw[h 0 1 (by lia)] at h1
 injection h1 with h1
 injection h1 with h1
 injection h1 with a1 h1
 injection h1 with a2 h1
 injection h1 with a3 _
 injection a2 with a2
 injection a3 with a3
 have:hx.choose=r:=Prod.ext a1.symm (Prod.ext a2.symm a3.symm)
 rw[this]
theorem xS_extN {i j:Nat}:exS T cf (.extN i j) e=(
 match e.at j with
 | .n (.lst b)=>do
  let a ←(e.at i).own
  when (decide (a.length+b.length≤big)) (.ok (.nx (e.set i (.o (.lst (a++b))))))
 | _=>.no):=rfl
theorem xS_dputR {i:Nat} {k:E} {x:E}:exS T cf (.dputR i k x) e=(do
 let d ←evE T cf x e
 let a ←(e.at i).refD
 let y ←evE T cf k e
 let key ←Res.of (keyOf y)
 when (decide (a.2.length < big)) (.ok (.nx (e.set i (.r a.1 (.dct (putKD a.2 key d))))))):=rfl
theorem xS_retR {x:E} {i j:Nat}:exS T cf (.retR x i j) e=(do
 let d ←evE T cf x e
 let a ←(e.at i).refD
 let b ←(e.at j).refD
 .ok (.rr d a.1 a.2 b.1 b.2)):=rfl
theorem xS_ifR {neg:Bool} {c x y:E} {f i j:Nat} {a b:S}:exS T cf (.ifR neg c f x i j y a b) e=when (decide (T.mv f=some 1000)&&decide (i≠j)) (do
 let k0 ←(if neg then .ok false else do let z ←evE T cf c e;z.truth)
 if k0 then exS T cf a e else do
  let d1 ←evE T cf x e
  let g ←(e.at i).givD
  let h ←(e.at j).givD
  let d2 ←evE T cf y e
  let r ←refC cf f d1 g h d2
  let k ←r.1.truth
  let e1:=(e.set i ((e.at i).giv (.dct r.2.1))).set j ((e.at j).giv (.dct r.2.2))
  if (k != neg) then exS T cf a e1 else exS T cf b e1):=rfl
theorem xS_newD {i:Nat}:exS T cf (.newD i) e=.ok (.nx (e.set i (.o (.dct [])))):=rfl
theorem xS_newT {i:Nat}:exS T cf (.newT i) e=.ok (.nx (e.set i (.o (.tdc [])))):=rfl
theorem xS_dputV {i:Nat} {k:E} {x:E}:exS T cf (.dputV i k x) e=(do
 let d ←evE T cf x e
 let a ←(e.at i).ownT
 let y ←evE T cf k e
 let key ←keyV y
 when (decide (a.length < big)) (.ok (.nx (e.set i (.o (.tdc (putTD a key d))))))):=rfl
theorem xS_ext {i:Nat} {x:E}:exS T cf (.ext i x) e=(do
 match ←evE T cf x e with
 | .lst b=>do
  let a ←(e.at i).own
  when (freshE T x&&decide (a.length+b.length≤big)) (.ok (.nx (e.set i (.o (.lst (a++b))))))
 | _=>.no):=rfl
theorem xS_never  : exS T cf (.never) e=(.no):=rfl
theorem xS_exp {x:E}:exS T cf (.exp x) e=(do let _ ←evE T cf x e;.ok (.nx e)):=rfl
theorem xS_asgN {i:Nat} {x:E}:exS T cf (.asgN i x) e=(do let d ←evE T cf x e;when (newE T x e&&(d.isNon||d.flatL)) (.ok (.nx (e.set i (.n d))))):=rfl
end
section
variable {T:Tab} {cf:Nat→List D→Res D} {e:Nv}
end
section
variable {T:Tab} {cf:Nat→List D→Res D}
theorem exX_not {x:S} {e:Nv} {z:Str×D} (h:exX T cf x e=some z):∀o,exS T cf x e≠.ok o:=nomatch h
end
end Tr
namespace Tr
open PySem PySem.Spec PyProof.Rows L2 Builtin.Str
theorem str_ext {x y:Str} (h:x.cps.toList=y.cps.toList):x=y:=by
 cases x;cases y
 simp only[Str.mk.injEq]
 exact Array.toList_inj.mp h
theorem filterMap_range {α:Type} (xs:List α) (a b:Nat) (hb:b≤xs.length):((List.range (b - a)).map λk=>a+k).filterMap (xs[·]?)=(xs.drop a).take (b - a):=by
 generalize hn:b - a=n
 induction n generalizing a with
 | zero=>simp
 | succ n ih =>
  have ha:a < xs.length:=by lia
  rw[List.range_succ_eq_map,List.map_cons,List.filterMap_cons,List.map_map,List.drop_eq_getElem_cons ha,List.take_succ_cons]
  simp only[Nat.add_zero,List.getElem?_eq_getElem ha]
  congr 1
  rw[←ih (a+1) (by lia)]
  congr 1
  apply List.map_congr_left
  intro k _
  simp only[Function.comp]
  lia
theorem sliceRange_nat {a b:Int} {p q:Nat} (ha:a=p) (hb:b=q):sliceRange a b 1=(List.range (q - p)).map λk=>p+k:=by
 subst ha hb
 unfold sliceRange
 simp only[show (1:Int) > 0 by decide,if_true]
 have hc:(if (p:Int) < (q:Int) then ((q:Int) - (p:Int)+1 - 1) / 1 else 0).toNat=q - p:=by
  rw[Int.ediv_one]
  split<;>lia
 rw[hc]
 apply List.map_congr_left
 intro k _
 lia
theorem slice_indices (n:Nat) (lo hi:Option Int):strSliceIndices lo hi 1 n=(List.range (sIx n n hi - sIx n 0 lo)).map λk=>sIx n 0 lo+k:=by
 unfold strSliceIndices
 refine sliceRange_nat ?_ ?_
 ·cases lo with
  | none=>rfl
  | some v =>
   simp only[show (1:Int) > 0 by decide,if_true,sIx]
   split<;>lia
 ·cases hi with
  | none=>rfl
  | some v =>
   simp only[show (1:Int) > 0 by decide,if_true,sIx]
   split<;>lia
theorem sIx_le' (n d:Nat) (hd:d≤n) (o:Option Int):sIx n d o≤n:=by
 cases o with
 | none=>exact hd
 | some v =>
  simp only[sIx]
  split<;>lia
theorem slice_cut (x:Str) (lo hi:Option Int):Txt.slice x lo hi=strCut x lo hi:=by
 have hl:x.cps.toList.length=x.length:=by simp[Str.length]
 unfold Txt.slice
 rw[slice_indices]
 have e:(List.filterMap (x.cps[·]?) ((List.range (sIx x.length x.length hi - sIx x.length 0 lo)).map λk=>sIx x.length 0 lo+k))=cut x.cps.toList lo hi:=by
  have:=filterMap_range x.cps.toList (sIx x.length 0 lo) (sIx x.length x.length hi) (by rw[hl];exact sIx_le' _ _ (Nat.le_refl _) _)
  unfold cut
  rw[hl,←this]
  congr 1
  funext k
  simp
 split
 ·rename_i c
  simp only[beq_self_eq_true,Bool.true_and,List.length_map,List.length_range,beq_iff_eq] at c
  refine str_ext ?_
  show _=(cut x.cps.toList lo hi).toArray.toList
  have h1:=sIx_le' x.length x.length (Nat.le_refl _) hi
  unfold cut
  by_cases hz:x.length=0
  ·have:x.cps.toList=[]:=List.eq_nil_of_length_eq_zero (by lia)
   rw[this];simp
  ·have h0:sIx x.length 0 lo=0:=by lia
   have h2:sIx x.length x.length hi=x.length:=by lia
   rw[hl,h0,h2,List.drop_zero,Nat.sub_zero,←hl,List.take_of_length_le (Nat.le_refl _)]
 ·rw[e];rfl
theorem oneIn_ok {x y:Str} {b:Bool} (h:oneIn x y=.ok b):(!(occurrences y x 0 y.length 1).isEmpty)=b:=by
 unfold oneIn at h
 split at h
 ·rename_i c hc
  cases h
  have ex:x=⟨#[c]⟩:=str_ext (by rw[hc])
  rw[ex]
  exact StrLaws.found_one y c
 ·cases h
section
variable {X:Cx}
theorem isPart_str {v:Value} {o:Option Int} (h:IsPart v o):∃p:Option (Int×Tok),v=partValue p∧p.map (·.1)=o:=by
 cases h with
 | none=>exact⟨none,rfl,rfl⟩
 | int i t=>exact⟨some (i,t),rfl,rfl⟩
theorem sl_str:SlR X (λx lo hi H Q=>∃z,x=.str z∧z.length≤sizeLine∧Q (.str (strCut z lo hi)) H):=by
 intro pins s σ H x v vl vu lo hi sl Q I rx hs pl pu h
 obtain⟨z,rfl,hz,q⟩:=h
 obtain⟨t,rfl⟩:=rx
 obtain⟨p,rfl,rfl⟩:=isPart_str pl
 obtain⟨p',rfl,rfl⟩:=isPart_str pu
 refine⟨"str", _,PySem.F.slot_str_getitem.lookup,typeIs_str _ _ _,wpAny_getItem_str_slice (l:=p) (u:=p') (st:=none) hs rfl ?_⟩
 refine post_val_or_str ⟨Nat.le_trans (Txt.slice_le z _ _) hz,λt' k=>?_⟩
 refine⟨.str _,H,I.tok k,⟨t',?_⟩,q⟩
 rw[←slice_cut]
 rfl
theorem call_int_text:CallR X (.type "int") (λxs H Q=>∃z,xs=[.str z]∧isDigits z.cps.toList=true∧z.length≤640∧Q (.int (digitsN z.cps.toList)) H):=by
 intro pins s σ H xs us Q I r h
 obtain⟨z,rfl,hd,hl,q⟩:=h
 obtain⟨u,rfl,rx⟩:=vals1 r
 obtain⟨t,rfl⟩:=rx
 unfold isDigits at hd
 rw[Bool.and_eq_true,List.all_eq_true] at hd
 have had:PySem.NumText.AllDigits z.cps.toList:=λc hc=>by
  have:=hd.2 c hc
  simpa using this
 have hne:z.cps.toList≠[]:=by
  have:=hd.1
  intro e
  rw[e] at this
  cases this
 have hn:=PySem.intText_digits had hne (by lia)
 exact PySem.W.KIN.call_text (n:=((digitsN z.cps.toList:Nat):Int)) hn hl ⟨.int _,H,I.tok _,⟨_,rfl⟩,q⟩
noncomputable def Its (x:Str):It:=⟨λi _=>i < x.cps.size,λi H v H'=>H'=H∧∃c,x.cps[i]?=some c∧v=.str ⟨#[c]⟩,λi _=>x.cps.size≤i⟩
theorem turn_str {P:Program} {w:World} {K:PySem.W.Frag} {tg:Expr} (ty:String) (it:Addr) (x:Str) (t:Tok)
 (hty:["enumerate", "zip", "dict_itemiterator", "dict_reverseitemiterator", "odict_iterator", "itertools.zip_longest", "itertools.pairwise"].contains ty=false)
 (W:∀A:Around,A.handled=none→Walks P w A it [it] [it] x.cps.size (SignAt x) (λi h=>h.IsStrIter it ty x t i))
 (en:∀(A:Around) (s:Shared) (i:Nat) (Q:Option Value→Shared→Prop) (E:Value→Shared→Prop),A.handled=none→s.heap.IsStrIter it ty x t i→x.cps[i]?=none→(∀h',Heap.ExtBut it s.heap h'→Q none { s with heap:=h' })→wpAny (model P w) A (pyNext (.ref it)) Q E s)
 (sf:∀(A:Around) (s:Shared) (i:Nat) (Q:Value→Shared→Prop) (E:Value→Shared→Prop),s.heap.IsStrIter it ty x t i→Q (.ref it) s→wpAny (model P w) A (pyIter (.ref it)) Q E s) :
 Turn P w K tg (Its x) [it] it (λi h=>h.IsStrIter it ty x t i) where
 mem:=by simp
 obj:=λi h st b hb=>by
  have e:b=it:=by simpa using hb
  subst e
  obtain⟨o,e,c,d⟩:=st
  exact⟨o,e,λv z=>by rw[d] at z;cases z⟩
 keep:=λi h h' st k=>let ⟨o,e,c⟩:=st;⟨o,k it (by simp) o e,c⟩
 item:=by
  intro X hP hw hK hc i pins s σ H E I hf st hg
  subst hP hw hK
  obtain⟨f0,f1,f2,f3,f4,f5⟩:=hf it (by simp)
  refine (W X.A (I.ok.hd hc)).item i s _ _ hg st λv h' tk hv st' kk=>?_
  obtain⟨c,u,hx,rfl⟩:=hv
  have I1:Inv X pins σ H { s with heap:=h',toks:=tk }:=I.turned (λb o hb e=>kk b o (by simpa using hb) e) f0 f1 f3 f4 f5
  obtain⟨o,e,cc,d⟩:=id st'
  exact⟨_,rfl,go_of (s:={ s with heap:=h',toks:=tk }) e cc d hty ⟨.str ⟨#[c]⟩,H,I1,⟨u,rfl⟩,⟨rfl,c,hx,rfl⟩,st',λb hb=>(hf b hb).1⟩⟩
 done:=by
  intro X hP hw hK hc i pins s σ H E I hf st hg
  subst hP hw hK
  obtain⟨f0,f1,f2,f3,f4,f5⟩:=hf it (by simp)
  have hn:x.cps[i]?=none:=by
   have:x.cps.size≤i:=hg
   simpa using this
  exact en X.A s i _ _ (I.ok.hd hc) st hn λh' eb=>⟨rfl,I.turned (t':=s.toks) (λb o hb e=>eb b o hb e) f0 f1 f3 f4 f5⟩
 self:=λA i s Q E st h=>sf A s i Q E st h
theorem pi_str {pins:List (Addr×Obj)} {s:Shared} {σ:L2.St} {H:Hp} {tg:Expr} {R:It→Hp→Prop} {x:Str} {t:Tok} (I:Inv X pins σ H s) (h:R (Its x) H) :
 wpAny (model X.prog X.w) X.A (pyIter (.str x t)) (PIE X pins σ tg R) X.xe s:=by
 have fp:∀b∈[s.heap.objs.size],FpOk X pins H b:=λb hb=>by
  rcases List.mem_cons.mp hb with rfl | hb
  ·exact I.fpOk (Nat.le_refl _) (I.hok.fresh (Nat.le_refl _))
  ·cases hb
 cases ha:x.cps.all (· < 128)
 ·refine wpAny_pyIter_wide ha ?_
  exact⟨s.heap.objs.size,[s.heap.objs.size],_,Its x,H,rfl,I.kept (t':=s.toks) λb u e=>Heap.get?_push_of_some _ e,turn_str "str_iterator" _ x t (by decide) (λA hA=>Walks.strWide hA _ x t) (λA s i Q E hA st hx k=>wpAny_pyNext_wide_end hA st hx k) (λA s i Q E st k=>wpAny_pyIter_striter_wide st k),⟨_,Heap.get?_push_size _ rfl,rfl,rfl⟩,fp,h⟩
 ·refine wpAny_pyIter_ascii ha ?_
  exact⟨s.heap.objs.size,[s.heap.objs.size],_,Its x,H,rfl,I.kept (t':=s.toks) λb u e=>Heap.get?_push_of_some _ e,turn_str "str_ascii_iterator" _ x t (by decide) (λA hA=>Walks.strAscii hA _ x t) (λA s i Q E hA st hx k=>wpAny_pyNext_ascii_end hA st hx k) (λA s i Q E st k=>wpAny_pyIter_striter_ascii st k),⟨_,Heap.get?_push_size _ rfl,rfl,rfl⟩,fp,h⟩
end
end Tr
namespace Tr
open PySem PySem.Spec PyProof.Rows L2
section
variable {prog:Program} {w:World} {A:Around} {E:Value→Shared→Prop} {s:Shared}
end
end Tr
namespace Tr
open PySem PySem.Spec PyProof.Rows L2 PySem.SeqAt
noncomputable def ModS (K:PySem.W.Frag) (a:Addr) (ss:List Str):Prop:=∃(o:Obj) (its:Array Value) (n:Nat),K.lookup a=some o∧o.cls=.type "tuple" ∧ o.dict=none∧o.data=.seq its n∧Vals (ss.map V.str) its.toList
end Tr
namespace Tr
open PySem PySem.Spec PyProof.Rows L2
noncomputable def met (val:Nat→Key):Nat→List Key
 | 0=>[]
 | i+1=>if (met val i).any (λx=>decide (x=val i)) then met val i else met val i++[val i]
section
variable {prog:Program} {w:World} {A:Around} {R:Result→Shared→Prop} {I:Addr} {fp wr:List Addr} {G:Array GenState→Array GenState→Prop} {n:Nat} {P:Nat→Value→Prop} {St:Nat→Shared→Prop}
end
section
variable {prog:Program} {w:World} {A:Around} {E:Value→Shared→Prop} {s:Shared}
end
section
variable {prog:Program} {w:World} {A:Around} {E:Value→Shared→Prop} {s:Shared}
end
theorem vals_ints:∀ {ns:List Int} {its:List Value},Vals (ns.map V.int) its→∃xs:List (Int×Tok),its=xs.map (λp=>Value.int p.1 p.2)∧xs.map (·.1)=ns
 | [],_,h=>by cases h;exact⟨[],rfl,rfl⟩
 | n::ns,_,h=>by
  cases h with
  | cons r rr =>
   obtain⟨t,rfl⟩:=r
   obtain⟨xs,rfl,e⟩:=vals_ints rr
   exact⟨(n,t)::xs,rfl,by rw[List.map_cons,e]⟩
section
variable {prog:Program} {w:World} {A:Around} {R:Result→Shared→Prop} {it:Addr} {fp wr:List Addr} {n:Nat} {P:Nat→Value→Prop} {St:Nat→Heap→Prop}
end
section
variable {prog:Program} {w:World} {A:Around} {E:Value→Shared→Prop} {s:Shared}
end
section
variable {prog:Program} {w:World} {A:Around} {R:Result→Shared→Prop} {I:Addr} {fp wr:List Addr} {G:Array GenState→Array GenState→Prop} {n:Nat} {P:Nat→Value→Prop} {St:Nat→Shared→Prop}
end
section
variable {prog:Program} {w:World} {A:Around} {E:Value→Shared→Prop} {s:Shared}
end
section
variable {prog:Program} {w:World} {A:Around} {E:Value→Shared→Prop} {s:Shared}
end
section
variable {prog:Program} {w:World} {A:Around} {E:Value→Shared→Prop} {s:Shared}
end
section
variable {prog:Program} {w:World} {A:Around} {E:Value→Shared→Prop} {s:Shared}
end
section
variable {prog:Program} {w:World} {A:Around} {E:Value→Shared→Prop} {s:Shared}
end
section
variable {prog:Program} {w:World} {A:Around} {E:Value→Shared→Prop} {s:Shared} {l:Addr} {xs:Array (Int×Tok)}
end
theorem ints_of_are:∀ {vs:List Value} {ns:List Int},IntsAre vs ns→Vals (ns.map V.int) vs
 | _,_,.nil=>.nil
 | _,_,.cons n t h=>.cons ⟨t,rfl⟩ (ints_of_are h)
theorem noFill_tuple_mul:fillsNumberSlot (.type "tuple") "mul" = pure false :=
 PySem.fillsNumberSlot_seq (id := "tuple.__mul__") (r:=some (.builtin "tuple.__rmul__")) PySem.F.slot_tuple_mul.lookup (by decide +kernel) PySem.F.slot_tuple_rmul.lookup (by decide +kernel)
theorem repeat_tuple:seqRepeat? (.type "tuple")=pure (some (.builtin "tuple.__mul__")):=by
 unfold seqRepeat?
 rw[PySem.seqSlot_of (T := "tuple") (name := "__mul__") (id := "tuple.__mul__") PySem.F.slot_tuple_mul.lookup (by decide +kernel),PySem.seqSlot_of (T := "tuple") (name := "__rmul__") (id := "tuple.__rmul__") PySem.F.slot_tuple_rmul.lookup (by decide +kernel)]
 rfl
theorem int_rmul_tuple (a:Int) (t:Tok) (l:Addr) (o:Obj) :
 Meets (Builtin.«int.__rmul__» ⟨[.int a t,.ref l],[]⟩) (λ_ R s=>s.heap.get? l=some o∧o.cls=.type "tuple" ∧ (∃items n,o.data=.seq items n)∧R (.ok (.ret Value.notImplemented)) s) :=
 .of_wp λprog w A R s h=>by
  obtain⟨hp,g,d,tk,os⟩:=s
  obtain⟨hl,hc,⟨items,n,hd⟩,h⟩:=h
  obtain⟨c,dc,dt,sl⟩:=o
  dsimp only at hc hd
  subst hc;subst hd
  wp_walk
  exact⟨_,rfl,h⟩
section
variable {prog:Program} {w:World} {A:Around} {E:Value→Shared→Prop} {s:Shared} {l:Addr} {its:List Value}
theorem mul_tuple {k:Int} {t:Tok} {Q:Value→Shared→Prop} (hl:IsTup s.heap l its.toArray) (h1:its.length=1) (hk:0≤k∧k≤1000)
 (hs:k=1→Q (.ref l) s) (h:k≠1→Q (.ref s.heap.objs.size) { s with heap:=s.heap.push { cls:=.type "tuple", data:=.seq (List.replicate k.toNat its).flatten.toArray } }) :
 wpAny (model prog w) A (binaryOp .Mult (.ref l) (.int k t)) Q E s:=by
 obtain⟨o,e,hc,n,hd⟩:=id hl
 have hT:s.TypeIs (.ref l) "tuple" := ⟨o,e,hc⟩
 refine wpAny_binaryOp_repeat_ref (T := "tuple") (U := "int") (by decide) hT (λs'=>typeIs_int s' k t) noFill_tuple_mul PySem.F.fills_int_mul PySem.F.slot_int_rmul repeat_tuple PySem.F.slot_int_index.lookup
  (call_meets PySem.F.slot_int_rmul (typeIs_int s k t) PySem.F.entry_int_rmul (PySem.F.args_int_rmul_2 _ _) (int_rmul_tuple k t l o)
   ⟨e,hc,⟨_,n,hd⟩,rfl,hT,wpAny_call_entry PySem.F.slot_tuple_mul hT PySem.F.entry_tuple_mul ?_ (PySem.F.args_tuple_mul_2 _ _)⟩)
 show wpAny _ _ (asIndex (.int k t)>>=_) _ _ s
 refine wpAny_bind (m:=asIndex (.int k t)) (wpAny_pure ?_)
 rw[if_neg (by simp only[Bool.or_eq_true,decide_eq_true_eq,not_or];lia)]
 show wpAny _ _ (Builtin.Tuple.tupleItemsOf (.ref l)>>=_) _ _ s
 refine wpAny_bind (wpAny_tupleItemsOf e hd ?_)
 have hne:its.toArray.isEmpty=false:=by
  cases its with
  | nil=>cases h1
  | cons _ _=>rfl
 rw[hne]
 by_cases c1:k=1
 ·subst c1
  rw[if_pos (by decide)]
  refine wpAny_bind ?_
  unfold Builtin.Tuple.tupleIsExact
  refine wpAny_bind (wpAny_typeOf hT (wpAny_pure ?_))
  rw[if_pos (by decide)]
  exact wpAny_bind (wpAny_rule (wpAny_pure ⟨_,rfl,hs rfl⟩))
 ·have hb:(k==1)=false:=by simpa using c1
  rw[hb]
  simp only[Bool.or_false,Bool.false_eq_true,if_false]
  have hsz:its.toArray.size=1:=by rw[List.size_toArray];exact h1
  by_cases c0:k≤0
  ·have k0:k=0:=by lia
   subst k0
   simp only[Int.le_refl,decide_true,if_true]
   exact wpAny_bind (wpAny_newObj_type (wpAny_pure ⟨_,rfl,h c1⟩))
  ·rw[if_neg (by simpa using c0),hsz]
   rw[if_neg (by lia),if_neg (by
    simp only[Builtin.Tuple.tupleTooMany,decide_eq_true_eq]
    rw[sizeLine_eq];lia)]
   have hf:List.foldl (λx1 x2=>x1++x2) #[] (List.replicate k.toNat its.toArray)=(List.replicate k.toNat its).flatten.toArray:=by
    have:=foldl_rep its k.toNat []
    rw[List.nil_append] at this
    exact this
   show wpAny _ _ (Builtin.Tuple.tupleExact (List.foldl (λx1 x2=>x1++x2) #[] (List.replicate k.toNat its.toArray))>>=_) _ _ s
   rw[hf]
   refine wpAny_bind (wpAny_newObj_type (wpAny_pure ⟨_,rfl,h c1⟩) ?_)
   show (List.replicate k.toNat its).flatten.toArray.size≤_
   rw[List.size_toArray,len_rep,h1,sizeLine_eq];lia
end
end Tr
namespace Tr
open PySem
end Tr
namespace Tr
open PySem PySem.Spec PyProof.Rows L2
section
variable {prog:Program} {w:World} {A:Around} {E:Value→Shared→Prop} {s:Shared}
end
section
variable {prog:Program} {w:World} {A:Around} {E:Value→Shared→Prop} {s:Shared}
end
section
variable {prog:Program} {w:World} {A:Around} {E:Value→Shared→Prop} {s:Shared}
end
section
variable {prog:Program} {w:World} {A:Around} {R:Result→Shared→Prop} {I:Addr} {fp wr:List Addr} {G:Array GenState→Array GenState→Prop} {n:Nat} {P:Nat→Value→Prop} {St:Nat→Shared→Prop}
end
section
variable {prog:Program} {w:World} {A:Around} {E:Value→Shared→Prop} {s:Shared}
end
section
variable {prog:Program} {w:World} {A:Around} {E:Value→Shared→Prop} {s:Shared}
end
theorem vals_refs:∀ {as:List Addr} {its:List Value},Vals (as.map V.ref) its→its=as.map Value.ref
 | [],its,r=>by cases r;rfl
 | a::as,its,r=>by
  cases r with
  | cons r1 r=>rw[vals_refs r,show _=Value.ref a from r1];rfl
end Tr
namespace Tr
open PySem PySem.Spec PyProof.Rows L2 PySem.SeqAt
end Tr
namespace Tr
open PySem PySem.Spec PyProof.Rows L2
theorem are_of_ints:∀ {ns:List Int} {vs:List Value},Vals (ns.map V.int) vs→IntsAre vs ns
 | [],vs,r=>by cases r;exact .nil
 | n::ns,vs,r=>by
  cases r with
  | cons r1 r =>
   obtain⟨t,rfl⟩:=r1
   exact .cons _ _ (are_of_ints r)
theorem call_sortedL {X:Cx}:CallR X (.builtin "sorted") (λvs H Q=>∃(a:Addr) (ns:List Int),vs=[.ref a]∧SqL X.K H a (ns.map V.int)∧ns.length < 64∧∀(l:Addr) (ns':List Int),H l=none→ns'.Perm ns→ns'.Pairwise (·≤·)→Q (.ref l) (upd H l (.lst (ns'.map V.int)))):=by
 intro pins s σ H vs us Q I rv h
 obtain⟨a,ns,rfl,hS,h64,q⟩:=h
 obtain⟨u,rfl,ru⟩:=rv.one
 cases ru
 obtain⟨its,r,pl,hz⟩:=I.list hS
 have hI:=are_of_ints r
 have hl:its.length=ns.length:=by rw[←r.length,List.length_map]
 refine sorted_ints pl.isList hI (by lia) λout ns' a1 a2 a3=>?_
 obtain⟨e,he⟩:=sortedAll_at s.heap its out
 have hge:s.heap.objs.size≤s.heap.objs.size+1:=Nat.le_succ _
 refine⟨.ref (s.heap.objs.size+1),_,I.laid (t':=s.toks) (λb o x=>sortedAll_old x) hge ?_,rfl,q _ ns' (I.hok.fresh hge) a2 a3⟩
 have hv:=ints_of_are a1
 refine⟨by rw[List.length_map,a2.length_eq,sizeLine_eq];lia,out.toList,e,hv,by simpa using he⟩
theorem kv_get {ps:List (Key×V)} {vs:List (Key×Value)} (r:KV ps vs) {i:Nat} {k:Key} {v:V} (h:ps[i]?=some (k,v)):∃u,vs[i]?=some (k,u):=by
 have e:=congrArg (λl=>l[i]?) r.keys
 simp only[List.getElem?_map,h] at e
 cases hv:vs[i]? with
 | none=>rw[hv] at e;cases e
 | some q =>
  rw[hv] at e
  injection e with e
  exact⟨q.2,by rw[show k=q.1 from e]⟩
theorem key_rel {P:Program} {w:World} {k:Key} {u:Value} (h:(mixKind P w).is k u=true):RelV (kV k) u:=by
 rcases keyIs_shape h with ⟨i,t,rfl,rfl⟩ | ⟨x,t,rfl,rfl⟩
 ·exact⟨t,rfl⟩
 ·exact⟨t,rfl⟩
theorem freeze {X:Cx} {pins:List (Addr×Obj)} {σ:L2.St} {H:Hp} {s:Shared} {a:Addr} {ps:List (Key×V)} (I:Inv X pins σ H s) (h:H a=some (.dK ps)) :
 ∃o es ep,o.data=.dict es ep∧Inv X pins σ (L2.upd H a (.frz o (.dK ps))) s:=by
 have hk:=(show ObjOk X.prog X.w H s.heap a (.dK ps) from I.hok a _ h)
 obtain⟨e2,e3,vs,e4,o,es,ep,g1,g2,g3,g4⟩:=id hk
 have ne:∀ {b u},H b=some u→u≠.dK ps→b≠a:=λx1 x2 z=>by rw[z,h] at x1;cases x1;exact x2 rfl
 refine⟨o,es,ep,g3,?_⟩
 refine I.step (h':=s.heap) (g':=s.gens) (d':=s.drawn) (t':=s.toks) (ch:=[]) (λb hb=>by cases hb) (λb u _ _ _ x1 _=>x1) (λb u _ _ _ x1 _=>⟨u.slots,x1⟩) (λb u _ x1 x2=>?_) (λb u _ x1=>⟨u,x1⟩) (λb xs x1=>?_) (λb v w x1=>?_) (λb ps x1=>⟨#[],?_⟩) (λm x1=>x1) (λb v x1=>?_) I.bare
 ·rw[upd_ne (λz=>by rw[z,h] at x2;cases x2)];exact x2
 ·rw[upd_ne (ne x1 (λz=>by cases z))];exact x1
 ·rw[upd_ne (ne x1 (λz=>by cases z))];exact x1
 ·rw[upd_ne (ne x1 (λz=>by cases z))];simpa using x1
 ·by_cases z:b=a
  ·rw[z,upd_same] at x1
   cases x1
   rw[z]
   exact⟨g1,e2,e3,vs,e4,o,es,ep,g1,g2,g3,g4⟩
  ·rw[upd_ne z] at x1
   exact (I.hok b v x1).stay (λc u _ y1=>y1) (λc y1=>by rw[upd_ne (ne y1 (λz=>by cases z))];exact y1) λc xs y1=>by rw[upd_ne (ne y1 (λz=>by cases z))];exact y1
noncomputable def RawD (h:Heap) (d:Addr) (es:Array DictEntry) (ep:Nat):Prop:=∃o,h.get? d=some o∧o.ExactDict∧o.data=.dict es ep
section
variable {prog:Program} {w:World} {A:Around} {E:Value→Shared→Prop} {s:Shared} {d it:Addr} {es:Array DictEntry} {ep i:Nat}
theorem RawD.ty (h:RawD s.heap d es ep):s.TypeIs (.ref d) "dict" := let ⟨o,a,b,_⟩:=h;⟨o,a,b.1⟩
theorem raw_iter {Q:Value→Shared→Prop} (nd:(d==sysModules)=false) (h:RawD s.heap d es ep)
 (q:Q (.ref s.heap.objs.size) { s with heap:=s.heap.push { cls:=.type "dict_keyiterator", data:=.fields #[.ref d,.int 0 0,.int es.size 0,.int ep 0] } }):wpAny (model prog w) A (pyIter (.ref d)) Q E s:=by
 have ty:=h.ty
 obtain⟨o,g1,g2,g3⟩:=h
 apply wpAny_pyIter_slot ty F.slot_dict_iter
 apply wpAny_call_entry F.slot_dict_iter ty F.entry_dict_iter _ (F.args_dict_iter_1 _)
 unfold Builtin.«dict.__iter__»;apply wpAny_bind;unfold Builtin.Dict.dictSlotNone;apply wpAny_bind;apply wpAny_notOrdered_dict ty
 apply (wpAny_pure _:wpAny _ _ (pure (Value.ref d)) _ _ s);show wpAny _ _ (Builtin.Dict.showsAll d>>=_) _ _ s
 unfold Builtin.Dict.showsAll;rw[if_neg (by rw[nd];exact Bool.false_ne_true)];apply wpAny_bind;apply wpAny_pure
 apply wpAny_bind;apply wpAny_dictEntries g1 g3;apply wpAny_bind;apply wpAny_dictEpoch g1 g3
 refine wpAny_bind (wpAny_newObj_type ?_ (by size_fits));apply wpAny_pure
 exact⟨_,rfl, "dict_keyiterator", _,⟨_,Heap.get?_push_size _ rfl,rfl⟩,F.slot_dict_keyiterator_next.lookup,by simpa[rawInt] using q⟩
theorem raw_next {Q:Option Value→Shared→Prop} {en:DictEntry} (hi:s.heap.IsKeyIter it d i es.size ep) (h:RawD s.heap d es ep) (hx:es[i]?=some en)
 (q:∀h',h'.IsKeyIter it d (i+1) es.size ep→Heap.SameBut it s.heap h'→Q (some en.key) { s with heap:=h' }):wpAny (model prog w) A (pyNext (.ref it)) Q E s:=by
 obtain⟨u,k1,k2,k3⟩:=id hi
 obtain⟨o,g1,g2,g3⟩:=h
 unfold pyNext;apply wpAny_bind;apply wpAny_attempt;apply wpAny_callSpecial?_slot (name:=Str.ofString "__next__") hi.typeIs F.slot_dict_keyiterator_next
 apply wpAny_call_entry F.slot_dict_keyiterator_next hi.typeIs F.entry_dict_keyiterator_next _ (F.args_dict_keyiterator_next_1 _)
 apply wpAny_bind;apply wpAny_pure;apply wpAny_bind;apply wpAny_bind
 first | (apply wpAny_bind;apply wpAny_typeNameOfWhole_keyiter hi.typeIs;apply wpAny_pure) | (apply wpAny_bind;apply wpAny_typeNameOf_keyiter hi.typeIs;apply wpAny_pure)
 apply wpAny_bind;apply wpAny_fieldsOf k1 k3
 have no:Builtin.Dict_items.ownsTuple "dict_keyiterator" = false:=by decide
 simp only[no,Bool.false_eq_true,if_false];show wpAny _ _ (if (Value.ref d==Value.none)=true then _ else _) _ _ s
 rw[if_neg (show ¬((Value.ref d==Value.none)=true) from Bool.false_ne_true)];apply wpAny_bind;apply wpAny_pure
 apply wpAny_bind;apply wpAny_dictEntries g1 g3;rw[if_neg (by simp)];apply wpAny_bind;apply wpAny_pure
 apply wpAny_bind;apply wpAny_dictEpoch g1 g3;rw[if_neg (by simp)];apply wpAny_pure
 simp only[show ¬((i:Int) < 0) from by lia,if_false,Int.toNat_natCast,hx]
 apply wpAny_bind
 first | (apply wpAny_bind;apply wpAny_typeNameOfWhole_keyiter hi.typeIs;apply wpAny_pure) | (apply wpAny_bind;apply wpAny_typeNameOf_keyiter hi.typeIs;apply wpAny_pure)
 apply wpAny_bind;apply wpAny_isOneOf_keyiter hi.typeIs;show wpAny _ _ (setField (.ref it) 1 (rawInt ((i:Int)+1))>>=_) _ _ s
 apply wpAny_bind;apply wpAny_setField k1 k3 (by simp)
 have hi2:(s.heap.update it (Obj.mapFields (·.setIfInBounds 1 (rawInt ((i:Int)+1))))).IsKeyIter it d (i+1) es.size ep:=⟨_,Heap.get?_update_self _ k1 (Obj.isFreed_of_fields (Obj.data_mapFields k3 _)),(Obj.cls_mapFields ..).trans k2,by rw[Obj.data_mapFields k3];simp[rawInt]⟩
 apply wpAny_bind;apply wpAny_holding;apply wpAny_bind
 apply wpAny_isOneOf_keyiter (s:={ s with heap:=s.heap.update it (Obj.mapFields (·.setIfInBounds 1 (rawInt ((i:Int)+1)))) }) hi2.typeIs
 show wpAny _ _ (pure en.key) _ _ _;apply wpAny_pure;apply wpAny_pure;exact⟨_,rfl,wpAny_pure (q _ hi2 (Heap.SameBut.update ..))⟩
theorem raw_end {Q:Option Value→Shared→Prop} (hh:A.handled=none) (hi:s.heap.IsKeyIter it d i es.size ep) (h:RawD s.heap d es ep) (hx:es[i]?=none)
 (q:∀h',Heap.ExtBut it s.heap h'→Q none { s with heap:=h' }):wpAny (model prog w) A (pyNext (.ref it)) Q E s:=by
 obtain⟨u,k1,k2,k3⟩:=id hi
 obtain⟨o,g1,g2,g3⟩:=h
 unfold pyNext;apply wpAny_bind;apply wpAny_attempt;apply wpAny_callSpecial?_slot (name:=Str.ofString "__next__") hi.typeIs F.slot_dict_keyiterator_next
 apply wpAny_call_entry F.slot_dict_keyiterator_next hi.typeIs F.entry_dict_keyiterator_next _ (F.args_dict_keyiterator_next_1 _)
 apply wpAny_bind;apply wpAny_pure;apply wpAny_bind;apply wpAny_bind
 first | (apply wpAny_bind;apply wpAny_typeNameOfWhole_keyiter hi.typeIs;apply wpAny_pure) | (apply wpAny_bind;apply wpAny_typeNameOf_keyiter hi.typeIs;apply wpAny_pure)
 apply wpAny_bind;apply wpAny_fieldsOf k1 k3
 have no:Builtin.Dict_items.ownsTuple "dict_keyiterator" = false:=by decide
 simp only[no,Bool.false_eq_true,if_false];show wpAny _ _ (if (Value.ref d==Value.none)=true then _ else _) _ _ s
 rw[if_neg (show ¬((Value.ref d==Value.none)=true) from Bool.false_ne_true)];apply wpAny_bind;apply wpAny_pure
 apply wpAny_bind;apply wpAny_dictEntries g1 g3;rw[if_neg (by simp)];apply wpAny_bind;apply wpAny_pure
 apply wpAny_bind;apply wpAny_dictEpoch g1 g3;rw[if_neg (by simp)];apply wpAny_pure
 simp only[show ¬((i:Int) < 0) from by lia,if_false,Int.toNat_natCast,hx]
 apply wpAny_bind
 first | (apply wpAny_bind;apply wpAny_typeNameOfWhole_keyiter hi.typeIs;apply wpAny_pure) | (apply wpAny_bind;apply wpAny_typeNameOf_keyiter hi.typeIs;apply wpAny_pure)
 show wpAny _ _ (setField (.ref it) 0 .none>>=_) _ _ s;apply wpAny_bind;apply wpAny_setField k1 k3 (by simp)
 show wpAny _ _ (newExc (.type "StopIteration") []>>=_) _ _ _;apply wpAny_bind;simp only[newExc,newTuple]
 refine wpAny_bind (wpAny_newObj_type ?_ (by size_fits));refine wpAny_bind (m:=firstArgMember _ _) (wpAny_of_eq (a:=Value.none) (by first | rfl | (simp only[firstArgMember];rfl)) ?_)
 refine wpAny_newObj_type ?_ (by size_fits);simp only[raiseNew];apply wpAny_bind;apply wpAny_handled;rw[show A.in1.handled=none from hh]
 refine wpAny_bind (wpAny_pure (wpAny_throw ?_));refine wpAny_bind (wpAny_isInstance (b:=true) (T := "StopIteration") ⟨_,Heap.get?_push_size _ rfl,rfl⟩ isSubtype_stop ?_)
 exact wpAny_pure (q _ (((Heap.SameBut.update ..).extBut.push _).push _))
end
theorem freezeT {X:Cx} {pins:List (Addr×Obj)} {σ:L2.St} {H:Hp} {s:Shared} {a:Addr} {ps:List (List Key×V)} (I:Inv X pins σ H s) (h:H a=some (.dT ps)) :
 ∃o es ep,o.data=.dict es ep∧Inv X pins σ (L2.upd H a (.frz o (.dT ps))) s:=by
 have hk:=(show ObjOk X.prog X.w H s.heap a (.dT ps) from I.hok a _ h)
 obtain⟨e2,e3,xs,e4,o,es,ep,g1,g2,g3,g4⟩:=id hk
 have ne:∀ {b u},H b=some u→u≠.dT ps→b≠a:=λx1 x2 z=>by rw[z,h] at x1;cases x1;exact x2 rfl
 refine⟨o,es,ep,g3,?_⟩
 refine I.step (h':=s.heap) (g':=s.gens) (d':=s.drawn) (t':=s.toks) (ch:=[]) (λb hb=>by cases hb) (λb u _ _ _ x1 _=>x1) (λb u _ _ _ x1 _=>⟨u.slots,x1⟩) (λb u _ x1 x2=>?_) (λb u _ x1=>⟨u,x1⟩) (λb xs x1=>?_) (λb v w x1=>?_) (λb ps x1=>⟨#[],?_⟩) (λm x1=>x1) (λb v x1=>?_) I.bare
 ·rw[upd_ne (λz=>by rw[z,h] at x2;cases x2)];exact x2
 ·rw[upd_ne (ne x1 (λz=>by cases z))];exact x1
 ·rw[upd_ne (ne x1 (λz=>by cases z))];exact x1
 ·rw[upd_ne (ne x1 (λz=>by cases z))];simpa using x1
 ·by_cases z:b=a
  ·rw[z,upd_same] at x1
   cases x1
   rw[z]
   exact⟨g1,e2,e3,xs,KT.keeps e4 λc ys ec=>by rw[upd_ne (ne ec (λz=>by cases z))];exact ec,o,es,ep,g1,g2,g3,g4⟩
  ·rw[upd_ne z] at x1
   exact (I.hok b v x1).stay (λc u _ y1=>y1) (λc y1=>by rw[upd_ne (ne y1 (λz=>by cases z))];exact y1) λc xs y1=>by rw[upd_ne (ne y1 (λz=>by cases z))];exact y1
noncomputable def keysAt (H:Hp) (a:Addr) (o:Obj) (n:Nat) (i:Nat) (x:Option V):Prop :=
 (∃ps:List (Key×V),H a=some (.frz o (.dK ps))∧ps.length=n∧x=(ps[i]?).map λq=>kV q.1) ∨
 (∃ps:List (List Key×V),H a=some (.frz o (.dT ps))∧ps.length=n∧((ps[i]?=none∧x=none)∨∃q b,ps[i]?=some q∧x=some (.ref b)∧H b=some (.tup (q.1.map kV))))
noncomputable def Itk (a:Addr) (o:Obj) (n:Nat):It :=
 ⟨λi H=>(∃ps:List (Key×V),H a=some (.frz o (.dK ps))∧ps.length=n∧i < n)∨∃ps:List (List Key×V),H a=some (.frz o (.dT ps))∧ps.length=n∧i < n,λi H x H'=>H'=H∧keysAt H a o n i (some x),
  λi H=>((∃ps:List (Key×V),H a=some (.frz o (.dK ps))∧ps.length=n)∨∃ps:List (List Key×V),H a=some (.frz o (.dT ps))∧ps.length=n)∧n≤i⟩
section
variable {X:Cx} {pins:List (Addr×Obj)} {σ:L2.St} {H:Hp} {s:Shared} {a:Addr} {o:Obj} {es:Array DictEntry} {ep:Nat}
theorem raw_K {ps:List (Key×V)} (I:Inv X pins σ H s) (h:H a=some (.frz o (.dK ps))) (hd:o.data=.dict es ep):RawD s.heap a es ep∧(a==sysModules)=false∧es.size=ps.length∧∀(i:Nat) (q:Key×V),ps[i]?=some q→∃en:DictEntry,es[i]?=some en∧RelV (kV q.1) en.key:=by
 obtain⟨e1,e2,e3,vs,e4,o',es',ep',g1,g2,g3,g4,g5,g6⟩:=(show ObjOk X.prog X.w H s.heap a (.frz o (.dK ps)) from I.hok a _ h)
 rw[e1] at g1
 cases g1
 rw[hd] at g3
 cases g3
 have hl:=e4.length
 have hs:es.size=ps.length:=by rw[hl,←g5.length];simp
 refine⟨⟨o,e1,g2,hd⟩,e3,hs,λi q hq=>?_⟩
 obtain⟨u,hu⟩:=kv_get e4 (k:=q.1) (v:=q.2) hq
 have hi:i < es.size:=by
  rw[hs]
  by_cases z:i < ps.length
  ·exact z
  ·rw[List.getElem?_eq_none (by lia)] at hq;cases hq
 exact⟨es[i],Array.getElem?_eq_getElem hi,key_rel (g5.get? (e:=es[i]) (by simp[hi]) hu).1⟩
theorem raw_T {ps:List (List Key×V)} (I:Inv X pins σ H s) (h:H a=some (.frz o (.dT ps))) (hd:o.data=.dict es ep):RawD s.heap a es ep∧(a==sysModules)=false∧es.size=ps.length∧∀(i:Nat) (q:List Key×V),ps[i]?=some q→∃(en:DictEntry) (b:Addr),es[i]?=some en∧en.key=.ref b∧H b=some (.tup (q.1.map kV)):=by
 obtain⟨e1,e2,e3,xs,e4,o',es',ep',g1,g2,g3,g4,g5⟩:=(show ObjOk X.prog X.w H s.heap a (.frz o (.dT ps)) from I.hok a _ h)
 rw[e1] at g1
 cases g1
 rw[hd] at g3
 cases g3
 have hl:=Paired.length e4
 have hs:es.size=ps.length:=by rw[hl,←Array.length_toList,g4,List.length_map]
 refine⟨⟨o,e1,g2,hd⟩,e3,hs,λi q hq=>?_⟩
 have get:∀ {l:List (List Key×V)} {m:List (List Key×Addr×Value)},KT H l m→∀ {i:Nat} {q:List Key×V},l[i]?=some q→∃z,m[i]?=some z∧H z.2.1=some (.tup (q.1.map kV)):=by
  intro l m k
  induction k with
  | nil=>intro i q z;simp at z
  | cons hq t ih =>
   intro i q z
   cases i with
   | zero=>cases z;exact⟨_,rfl,hq.2.1⟩
   | succ j=>exact ih (by simpa using z)
 obtain⟨z,hz,ht⟩:=get e4 hq
 refine⟨entryOfKey (tupleKind (mixKind X.prog X.w)) z,z.2.1,?_,rfl,ht⟩
 rw[←Array.getElem?_toList,g4,List.getElem?_map,hz];rfl
end
theorem turn_keys {P:Program} {w:World} {K:PySem.W.Frag} {tg:Expr} {o:Obj} {es:Array DictEntry} {ep:Nat} (hd:o.data=.dict es ep) (a it:Addr) (n:Nat) (hn:es.size=n) :
 Turn P w K tg (Itk a o n) [it] it (λi h=>h.IsKeyIter it a i n ep) where
 mem:=by simp
 obj:=λi h st b hb=>by
  have e:b=it:=by simpa using hb
  subst e
  obtain⟨o,e,c,d⟩:=st
  exact⟨o,e,λv z=>by rw[d] at z;cases z⟩
 keep:=λi h h' st k=>by
  obtain⟨u,h1,h2⟩:=st
  exact⟨u,k it (by simp) u h1,h2⟩
 item:=by
  intro X hP hw hK hc i pins s σ H E I hf st hg
  subst hP hw hK hn
  obtain⟨f0,f1,f2,f3,f4,f5⟩:=hf it (by simp)
  have fin:∀en,RawD s.heap a es ep→es[i]?=some en→(∃x,RelV x en.key∧keysAt H a o es.size i (some x))→wpAny (model X.prog X.w) X.A (pyNext (.ref it)) (λr s1=>∃u,r=some u ∧
   wpAny (model X.prog X.w) X.A (letOwnedTupleGo tg (.ref it) u) (λ_ s2=>∃x H',Inv X pins σ H' s2∧RelV x u∧(Itk a o es.size).yld i H x H'∧s2.heap.IsKeyIter it a (i+1) es.size ep∧∀b∈[it],H' b=none) E s1) E s:=by
   intro en rw' hx ⟨x,r1,r2⟩
   refine raw_next st rw' hx λh' st2 sb=>?_
   have I1:Inv X pins σ H { s with heap:=h' }:=I.turned (t':=s.toks) (λb o hb e=>(sb.2 b hb).trans e) f0 f1 f3 f4 f5
   obtain⟨o',e,c,d⟩:=id st2
   exact⟨_,rfl,go_of (s:={ s with heap:=h' }) e c d (by decide) ⟨x,H,I1,r1,⟨rfl,r2⟩,st2,λb hb=>(hf b hb).1⟩⟩
  rcases hg with ⟨ps,h1,h2,h3⟩ | ⟨ps,h1,h2,h3⟩
  ·obtain⟨x1,x2,x3,x4⟩:=raw_K I h1 hd
   obtain⟨en,y1,y2⟩:=x4 i ps[i] (List.getElem?_eq_getElem (by lia))
   exact fin en x1 y1 ⟨_,y2,.inl ⟨ps,h1,h2,by rw[List.getElem?_eq_getElem (by lia)];rfl⟩⟩
  ·obtain⟨x1,x2,x3,x4⟩:=raw_T I h1 hd
   obtain⟨en,b,y1,y2,y3⟩:=x4 i ps[i] (List.getElem?_eq_getElem (by lia))
   exact fin en x1 y1 ⟨.ref b,by rw[y2];rfl,.inr ⟨ps,h1,h2,.inr ⟨_,b,List.getElem?_eq_getElem (by lia),rfl,y3⟩⟩⟩
 done:=by
  intro X hP hw hK hc i pins s σ H E I hf st hg
  subst hP hw hK hn
  obtain⟨f0,f1,f2,f3,f4,f5⟩:=hf it (by simp)
  obtain⟨hg,hi⟩:=hg
  have rw':RawD s.heap a es ep:=by
   rcases hg with ⟨ps,h1,h2⟩ | ⟨ps,h1,h2⟩
   ·exact (raw_K I h1 hd).1
   ·exact (raw_T I h1 hd).1
  exact raw_end (I.ok.hd hc) st rw' (Array.getElem?_eq_none hi) λh' eb=>⟨rfl,I.turned (t':=s.toks) (λb o hb e=>eb b o hb e) f0 f1 f3 f4 f5⟩
 self:=λ_ _ _ _ _ st h=>wpAny_pyIter_keyiter st h
section
variable {prog:Program} {w:World} {A:Around} {E:Value→Shared→Prop} {s:Shared} {l:Addr} {its:List Value} {n:Nat}
theorem mul_listP {k:Int} {t:Tok} {Q:Value→Shared→Prop} {dd:Option Addr} {sl:Array (Option Value)} (hl:s.heap.get? l=some { cls:=.type "list", dict:=dd,data:=.seq its.toArray n,slots:=sl }) (h1:its.length=1) (hk:0≤k∧k≤1000)
 (h:Q (.ref s.heap.objs.size) { s with heap:=s.heap.push { cls:=.type "list", data:=.seq (List.replicate k.toNat its).flatten.toArray } }):wpAny (model prog w) A (binaryOp .Mult (.ref l) (.int k t)) Q E s:=by
 have hsz:its.toArray.size=1:=by rw[List.size_toArray];exact h1
 have hne:its.toArray.isEmpty=false:=by
  cases its with
  | nil=>cases h1
  | cons _ _=>rfl
 have hf:List.foldl (λx1 x2=>x1++x2) #[] (List.replicate (if its.toArray.isEmpty=true then 0 else k.toNat) its.toArray)=(List.replicate k.toNat its).flatten.toArray:=by
  rw[hne,if_neg Bool.false_ne_true]
  have:=foldl_rep its k.toNat []
  rw[List.nil_append] at this
  exact this
 have ty:s.TypeIs (.ref l) "list" := ⟨_,hl,rfl⟩
 apply wpAny_binaryOp_repeat_ref (T := "list") (U := "int") (by decide) ty (λs'=>typeIs_int s' k t) PySem.noFill_list_mul PySem.F.fills_int_mul PySem.F.slot_int_rmul PySem.repeat_list PySem.F.slot_int_index.lookup
 apply call_meets PySem.F.slot_int_rmul (typeIs_int s k t) PySem.F.entry_int_rmul (PySem.F.args_int_rmul_2 _ _) (lm_int_rmul_list_any k t l its.toArray n dd sl)
 refine⟨hl,rfl,ty,call_meets PySem.F.slot_list_mul ty PySem.F.entry_list_mul (PySem.F.args_list_mul_2 _ _) (lm_list_mul_any l its.toArray n dd sl k t (by simp[Builtin.List.listFitsIndex];lia) (by rw[hsz];lia) (by rw[hsz];simp[Builtin.List.listTooLong,sizeLine];lia)) ⟨hl,?_⟩⟩
 rw[hf]
 exact h
end
section
variable {prog:Program} {w:World} {A:Around} {E:Value→Shared→Prop} {s:Shared} {r:Addr} {a b c:Int} {t u v:Tok} {n:Nat}
end
end Tr
namespace Tr
open PySem PySem.Spec PyProof.Rows L2 PySem.W
section
variable {α β:Type}
end
section
variable {P:Program} {w:World} {H H':Hp} {h h':Heap} {a:Addr} {o:HO}
end
noncomputable def CXE (P:Program) (w:World):CXT:=λouter H s E ev s'=>∃(ea:Addr) (cls a0:Value) (H':Hp) (B:Heap),ev=.ref ea∧s'.os=s.os∧AllBare s'.gens∧Un (frs outer) [] H H' s.heap s'.heap∧HOk P w H' s'.heap ∧
 s.heap.get? ea=none∧H' ea=none∧Heap.FlyingW B outer ea cls a0 s'.heap∧(∀b o,s.heap.get? b=some o→b∉frs outer→∃u,B.get? b=some u)∧(∀b o,H' b=some o→∃u,B.get? b=some u)∧∃od,(∃oe,s'.heap.get? ea=some oe∧oe.dict=od)∧E cls od H'
theorem passE0 {P:Program} {w:World} {X:Cx}:Passes (CXE P w) X E0:=by
 intro _ _ _ _ _ _ _ h
 obtain⟨_,_,_,_,_,_,_,_,_,_,_,_,_,_,_,_,_,z⟩:=h
 exact z.elim
section
variable {P:Program} {w:World} {K:PySem.W.Frag} {mg:Str→Option Value} {base:Heap} {N:List Str} {qual:Str} {scope:Scope} {f:Addr} {cd:Value} {A:Around} {outer:List Env} {s₀:Shared} {H₀:Hp} {E:XK}
end
noncomputable abbrev bmV:List Value:=[.type "ValueError", .type "Exception", .type "BaseException", .type "object"]
section
variable {M:Model} {A:Around} {E:Value→Shared→Prop} {h:Heap} {g:Array GenState} {d:Drawn} {t:Nat} {os:OsState}
variable {nm q:Str} {C N:Addr} {bs bm:List Value} {hdct:Bool} {sn:List Str} {sub:List Value} {ab:Bool} {col:Option Bool} {dd:Option Addr} {k0 k1 k2 k3 k5:Option Value} {newId:String}
variable {nm' q':Str} {C' N':Addr} {bs' bm':List Value} {hdct':Bool} {sn':List Str} {sub':List Value} {ab':Bool} {col':Option Bool} {dd':Option Addr} {k0' k1' k2' k3' k5':Option Value} {newId':String}
end
section
variable {X:Cx} {pins:List (Addr×Obj)} {σ:L2.St} {H:Hp} {s:Shared}
end
section
variable {X:Cx} {pins:List (Addr×Obj)} {σ:L2.St} {H:Hp} {s s':Shared}
end
noncomputable abbrev newV:String := "ValueError.__new__"
noncomputable def cvK (K:PySem.W.Frag) (c:Str):Value:=match nsIn K mainGlobals c with
 | some (some v)=>v
 | _=>.none
structure ClsIs (K:PySem.W.Frag) (mg:Str→Option Value) (c:Str) (C:Addr):Prop where
 bound:mg c=some (.ref C)
 cv:cvK K c=.ref C
 exc:excIn K C bmV newV=true
end Tr
namespace Tr
open PySem PySem.Spec PyProof.Rows L2 PySem.W Builtin Builtin.ObjectAttr Builtin.Getset_descriptor
section
variable {prog:Program} {w:World} {A:Around} {E:Value→Shared→Prop} {K:PySem.W.Frag} {a C:Addr} {o:Obj}
end
end Tr
namespace Tr
open PySem PySem.Spec PyProof.Rows L2 PySem.W
section
variable {X:Cx} {pins:List (Addr×Obj)} {σ:L2.St} {H:Hp} {s:Shared}
end
section
variable {X:Cx} {body:List Stmt} {pos:Pos} {h₀:ExceptHandler} {hs:List ExceptHandler}
end
section
variable {prog:Program} {w:World} {A:Around} {E:Value→Shared→Prop} {h:Heap} {g:Array GenState} {d:Drawn} {t:Nat} {os:OsState}
variable {nm q:Str} {C N:Addr} {bs bm bmB:List Value} {hdct:Bool} {sn:List Str} {sub:List Value} {ab:Bool} {col:Option Bool} {dd:Option Addr} {k0 k1 k2 k3 k5:Option Value} {B Bn newId nid initId inN:String} {bmN:List Value}
end
section
variable {prog:Program} {w:World} {A:Around} {E:Value→Shared→Prop} {s:Shared} {env:Env}
variable {nm q:Str} {C N:Addr} {bs bm bmB:List Value} {hdct:Bool} {sn:List Str} {sub:List Value} {ab:Bool} {col:Option Bool} {dd:Option Addr} {k0 k1 k2 k3 k5:Option Value} {B Bn newId nid initId inN:String} {bmN:List Value}
end
end Tr
namespace Tr
open PySem PySem.Spec PyProof.Rows L2 PySem.W Builtin Builtin.ObjectAttr
section
variable {prog:Program} {w:World} {A:Around} {E:Value→Shared→Prop} {K:PySem.W.Frag} {h:Heap} {g:Array GenState} {d:Drawn} {tok:Nat} {os:OsState}
variable {nm q:Str} {C N x t:Addr} {bs bm:List Value} {sn:List Str} {sub:List Value} {ab:Bool} {col:Option Bool} {dd:Option Addr} {k0 k1 k2 k3 k5:Option Value} {newId:String} {name:Str} {v:Value}
end
end Tr
namespace Tr
open PySem PySem.Spec PyProof.Rows L2 PySem.W Builtin Builtin.ObjectAttr Builtin.Getset_descriptor
section
variable {prog:Program} {w:World} {A:Around} {E:Value→Shared→Prop} {K:PySem.W.Frag} {a C dx:Addr} {o:Obj} {name:Str} {v:Value} {m:Str→Option Value}
variable {nm q:Str} {N:Addr} {bs bm:List Value} {sn:List Str} {sub:List Value} {ab:Bool} {col:Option Bool} {dd:Option Addr} {k0 k1 k2 k3 k5:Option Value} {newId:String}
end
end Tr
namespace Tr
open PySem PySem.Spec PyProof.Rows L2 PySem.W
noncomputable def initIn (K:PySem.W.Frag) (C fI:Addr):Bool:=match K.lookup C with
 | some ⟨.type "type", _,.cls cd,sl⟩=>(match cd.mro,sl.toList with
  | .ref C'::bm,[_,_,_,_,some (.builtin n),_]=>C'==C&&(n==newV&&(!cd.hasDel&&(tailIn K bmV bm&&(nsOkIn K cd.ns&&(nsIn K cd.ns "__init__" == some (some (.ref fI))&&cd.hasDict)))))
  | _,_=>false)
 | _=>false
structure InitCls (K:PySem.W.Frag) (C fI:Addr) (f:Str):Prop where
 obj:initIn K C fI=true
 sa:findIn K (.ref C) "__setattr__" = some (some (.builtin "object.__setattr__"))
 no:findIn K (.ref C) f=some none
section
variable {X:Cx}
end
end Tr
namespace Tr
open PySem PySem.Spec PyProof.Rows L2
noncomputable def ModL (K:PySem.W.Frag) (a:Addr) (xs:List V):Prop :=
 ∃(o:Obj) (its:Array Value) (n:Nat),K.lookup a=some o∧o.cls=.type "list" ∧ o.dict=none∧o.data=.seq its n∧its.size≤sizeLine∧Vals xs its.toList
noncomputable def ModT (K:PySem.W.Frag) (a:Addr) (xs:List V):Prop:=(∃ss:List Str,ss≠[]∧xs=ss.map V.str) ∧
 ∃(o:Obj) (its:Array Value) (n:Nat),K.lookup a=some o∧o.cls=.type "tuple" ∧ o.data=.seq its n∧its.size≤sizeLine∧Vals xs its.toList
noncomputable def TupV (K:PySem.W.Frag) (H:Hp) (a:Addr) (xs:List V):Prop:=H a=some (.tup xs)∨ModT K a xs
theorem TupV.sq {K:PySem.W.Frag} {H:Hp} {a:Addr} {xs:List V} (h:TupV K H a xs):SqT K H a xs:=h.imp (λq=>.inl q) λq=>q.2
mutual
noncomputable def RD (K:PySem.W.Frag) (H:Hp) (O:Addr→Prop):D→V→Prop
 | .non,v=>v=.non
 | .bl b,v=>v=.bl b
 | .int i,v=>v=.int i
 | .str x,v=>v=.str x
 | .tup ds,v=>∃a xs,v=.ref a∧TupV K H a xs∧RDs K H O ds xs
 | .lst ds,v=>∃a xs,v=.ref a∧((¬O a∧Rd H a (.lst xs))∨ModL K a xs)∧RDs K H O ds xs
 | .dct kvs,v=>∃a ps,v=.ref a∧(∃o,H a=some (.frz o (.dK ps)))∧RDk K H O kvs ps
 | .tdc kvs,v=>∃a ps,v=.ref a∧(∃o,H a=some (.frz o (.dT ps)))∧RDt K H O kvs ps
noncomputable def RDs (K:PySem.W.Frag) (H:Hp) (O:Addr→Prop):List D→List V→Prop
 | [],xs=>xs=[]
 | d::ds,xs=>∃v r,xs=v::r∧RD K H O d v∧RDs K H O ds r
noncomputable def RDk (K:PySem.W.Frag) (H:Hp) (O:Addr→Prop):List (Sum Int Str×D)→List (Key×V)→Prop
 | [],xs=>xs=[]
 | (k,d)::ds,xs=>∃v r,xs=(k,v)::r∧RD K H O d v∧RDk K H O ds r
noncomputable def RDt (K:PySem.W.Frag) (H:Hp) (O:Addr→Prop):List (List (Sum Int Str)×D)→List (List Key×V)→Prop
 | [],xs=>xs=[]
 | (k,d)::ds,xs=>∃v r,xs=(k,v)::r∧RD K H O d v∧RDt K H O ds r
end
noncomputable def OwnAt (K:PySem.W.Frag) (H:Hp) (O:Addr→Prop) (a:Addr):D→Prop
 | .lst ds=>∃xs,H a=some (.lst xs)∧RDs K H O ds xs
 | .dct kvs=>∃ps,H a=some (.dK ps)∧RDk K H O kvs ps
 | .tdc kvs=>∃ps,H a=some (.dT ps)∧RDt K H O kvs ps
 | _=>False
noncomputable def RR (K:PySem.W.Frag) (H:Hp) (O:Addr→Prop) (d:D) (v:V):Prop :=
 RD K H O d v∨∃a,v=.ref a∧OwnAt K H O a d
noncomputable def RRs (K:PySem.W.Frag) (H:Hp) (O:Addr→Prop):List D→List V→Prop
 | [],xs=>xs=[]
 | d::ds,xs=>∃v r,xs=v::r∧RR K H O d v∧RRs K H O ds r
section
variable {K:PySem.W.Frag} {H H':Hp} {O O':Addr→Prop}
mutual
theorem RD.map (ht:∀a xs,TupV K H a xs→TupV K H' a xs) (hl:∀a xs,¬O a→Rd H a (.lst xs)→¬O' a∧Rd H' a (.lst xs)) (hd:∀a o u,H a=some (.frz o u)→H' a=some (.frz o u)):∀ {d:D} {v:V},RD K H O d v→RD K H' O' d v
 | .non,_,h=>h
 | .bl _,_,h=>h
 | .int _,_,h=>h
 | .str _,_,h=>h
 | .tup ds,v,h=>by
  obtain⟨a,xs,e,s,r⟩:=h
  exact⟨a,xs,e,ht a xs s,RDs.map ht hl hd r⟩
 | .lst ds,v,h=>by
  obtain⟨a,xs,e,s,r⟩:=h
  refine⟨a,xs,e,?_,RDs.map ht hl hd r⟩
  rcases s with ⟨s1,s2⟩ | s
  ·exact .inl (hl a xs s1 s2)
  ·exact .inr s
 | .dct kvs,v,h=>by
  obtain⟨a,ps,e,⟨o,s⟩,r⟩:=h
  exact⟨a,ps,e,⟨o,hd a _ _ s⟩,RDk.map ht hl hd r⟩
 | .tdc kvs,v,h=>by
  obtain⟨a,ps,e,⟨o,s⟩,r⟩:=h
  exact⟨a,ps,e,⟨o,hd a _ _ s⟩,RDt.map ht hl hd r⟩
theorem RDs.map (ht:∀a xs,TupV K H a xs→TupV K H' a xs) (hl:∀a xs,¬O a→Rd H a (.lst xs)→¬O' a∧Rd H' a (.lst xs)) (hd:∀a o u,H a=some (.frz o u)→H' a=some (.frz o u)):∀ {ds:List D} {vs:List V},RDs K H O ds vs→RDs K H' O' ds vs
 | [],_,h=>h
 | d::ds,vs,h=>by
  obtain⟨v,r,e,h1,h2⟩:=h
  exact⟨v,r,e,RD.map ht hl hd h1,RDs.map ht hl hd h2⟩
theorem RDk.map (ht:∀a xs,TupV K H a xs→TupV K H' a xs) (hl:∀a xs,¬O a→Rd H a (.lst xs)→¬O' a∧Rd H' a (.lst xs)) (hd:∀a o u,H a=some (.frz o u)→H' a=some (.frz o u)):∀ {ds:List (Sum Int Str×D)} {vs:List (Key×V)},RDk K H O ds vs→RDk K H' O' ds vs
 | [],_,h=>h
 | (k,d)::ds,vs,h=>by
  obtain⟨v,r,e,h1,h2⟩:=h
  exact⟨v,r,e,RD.map ht hl hd h1,RDk.map ht hl hd h2⟩
theorem RDt.map (ht:∀a xs,TupV K H a xs→TupV K H' a xs) (hl:∀a xs,¬O a→Rd H a (.lst xs)→¬O' a∧Rd H' a (.lst xs)) (hd:∀a o u,H a=some (.frz o u)→H' a=some (.frz o u)):∀ {ds:List (List (Sum Int Str)×D)} {vs:List (List Key×V)},RDt K H O ds vs→RDt K H' O' ds vs
 | [],_,h=>h
 | (k,d)::ds,vs,h=>by
  obtain⟨v,r,e,h1,h2⟩:=h
  exact⟨v,r,e,RD.map ht hl hd h1,RDt.map ht hl hd h2⟩
end
theorem Rd.same (s:Same H H') {a:Addr} {u:HO} (h:Rd H a u):Rd H' a u:=by
 rcases h with h | ⟨o,h⟩
 ·exact .inl (s _ _ h)
 ·exact .inr ⟨o,s _ _ h⟩
theorem TupV.same (s:Same H H') {a:Addr} {xs:List V} (h:TupV K H a xs):TupV K H' a xs:=h.imp (λq=>s _ _ q) id
theorem RD.same (s:Same H H') {d:D} {v:V} (h:RD K H O d v):RD K H' O d v:=RD.map (λ_ _ q=>TupV.same s q) (λ_ _ n q=>⟨n,Rd.same s q⟩) (λ_ _ _ q=>s _ _ q) h
theorem RDk.same (s:Same H H') {d:List (Sum Int Str×D)} {v:List (Key×V)} (h:RDk K H O d v):RDk K H' O d v:=RDk.map (λ_ _ q=>TupV.same s q) (λ_ _ n q=>⟨n,Rd.same s q⟩) (λ_ _ _ q=>s _ _ q) h
theorem RDt.same (s:Same H H') {d:List (List (Sum Int Str)×D)} {v:List (List Key×V)} (h:RDt K H O d v):RDt K H' O d v:=RDt.map (λ_ _ q=>TupV.same s q) (λ_ _ n q=>⟨n,Rd.same s q⟩) (λ_ _ _ q=>s _ _ q) h
theorem RDs.same (s:Same H H') {d:List D} {v:List V} (h:RDs K H O d v):RDs K H' O d v:=RDs.map (λ_ _ q=>TupV.same s q) (λ_ _ n q=>⟨n,Rd.same s q⟩) (λ_ _ _ q=>s _ _ q) h
theorem RD.weak (s:∀a,O' a→O a) {d:D} {v:V} (h:RD K H O d v):RD K H O' d v:=RD.map (λ_ _ q=>q) (λa _ n q=>⟨λz=>n (s a z),q⟩) (λ_ _ _ q=>q) h
theorem RDk.weak (s:∀a,O' a→O a) {d:List (Sum Int Str×D)} {v:List (Key×V)} (h:RDk K H O d v):RDk K H O' d v:=RDk.map (λ_ _ q=>q) (λa _ n q=>⟨λz=>n (s a z),q⟩) (λ_ _ _ q=>q) h
theorem RDt.weak (s:∀a,O' a→O a) {d:List (List (Sum Int Str)×D)} {v:List (List Key×V)} (h:RDt K H O d v):RDt K H O' d v:=RDt.map (λ_ _ q=>q) (λa _ n q=>⟨λz=>n (s a z),q⟩) (λ_ _ _ q=>q) h
theorem RDs.weak (s:∀a,O' a→O a) {d:List D} {v:List V} (h:RDs K H O d v):RDs K H O' d v:=RDs.map (λ_ _ q=>q) (λa _ n q=>⟨λz=>n (s a z),q⟩) (λ_ _ _ q=>q) h
noncomputable def plus (O:Addr→Prop) (p:Addr):Addr→Prop:=λa=>O a∨a=p
noncomputable def minus (O:Addr→Prop) (p:Addr):Addr→Prop:=λa=>O a∧a≠p
theorem Rd.ne {p a:Addr} {u:HO} (hp:H p=none) (h:Rd H a u):a≠p:=by
 rcases h with h | ⟨o,h⟩<;>exact ne_of_none h hp
theorem RD.new {p:Addr} (hp:H p=none) {d:D} {v:V} (h:RD K H O d v):RD K H (plus O p) d v :=
 RD.map (λ_ _ q=>q) (λa _ n q=>⟨λz=>z.elim n (Rd.ne hp q),q⟩) (λ_ _ _ q=>q) h
theorem RDk.new {p:Addr} (hp:H p=none) {d:List (Sum Int Str×D)} {v:List (Key×V)} (h:RDk K H O d v):RDk K H (plus O p) d v :=
 RDk.map (λ_ _ q=>q) (λa _ n q=>⟨λz=>z.elim n (Rd.ne hp q),q⟩) (λ_ _ _ q=>q) h
theorem RDt.new {p:Addr} (hp:H p=none) {d:List (List (Sum Int Str)×D)} {v:List (List Key×V)} (h:RDt K H O d v):RDt K H (plus O p) d v :=
 RDt.map (λ_ _ q=>q) (λa _ n q=>⟨λz=>z.elim n (Rd.ne hp q),q⟩) (λ_ _ _ q=>q) h
theorem RDs.new {p:Addr} (hp:H p=none) {d:List D} {v:List V} (h:RDs K H O d v):RDs K H (plus O p) d v :=
 RDs.map (λ_ _ q=>q) (λa _ n q=>⟨λz=>z.elim n (Rd.ne hp q),q⟩) (λ_ _ _ q=>q) h
noncomputable def MutO:HO→Prop
 | .lst _=>True
 | .dK _=>True
 | .dT _=>True
 | _=>False
theorem upd_map {p:Addr} {o o':HO} (hO:O p) (hp:H p=some o) (hm:MutO o):(∀a xs,TupV K H a xs→TupV K (upd H p o') a xs)∧(∀a xs,¬O a→Rd H a (.lst xs)→¬O a∧Rd (upd H p o') a (.lst xs))∧∀a o1 u,H a=some (.frz o1 u)→upd H p o' a=some (.frz o1 u):=by
 refine⟨λa xs h=>?_,λa xs n h=>⟨n,?_⟩,λa o1 u h=>?_⟩
 ·rcases h with h | h
  ·exact .inl (by rw[upd_ne (ne_of h hp (by intro z;subst z;exact hm))];exact h)
  ·exact .inr h
 ·have e:a≠p:=λz=>n (z▸hO)
  rcases h with h | ⟨o,h⟩
  ·exact .inl (by rw[upd_ne e];exact h)
  ·exact .inr ⟨o,by rw[upd_ne e];exact h⟩
 ·rw[upd_ne (ne_of h hp (by intro z;subst z;exact hm))];exact h
theorem RD.updM {p:Addr} {o o':HO} (hO:O p) (hp:H p=some o) (hm:MutO o) {d:D} {v:V} (h:RD K H O d v):RD K (L2.upd H p o') O d v:=RD.map (upd_map (K:=K) hO hp hm).1 (upd_map (K:=K) hO hp hm).2.1 (upd_map (K:=K) hO hp hm).2.2 h
theorem RDs.updM {p:Addr} {o o':HO} (hO:O p) (hp:H p=some o) (hm:MutO o) {d:List D} {v:List V} (h:RDs K H O d v):RDs K (L2.upd H p o') O d v:=RDs.map (upd_map (K:=K) hO hp hm).1 (upd_map (K:=K) hO hp hm).2.1 (upd_map (K:=K) hO hp hm).2.2 h
theorem RDk.updM {p:Addr} {o o':HO} (hO:O p) (hp:H p=some o) (hm:MutO o) {d:List (Sum Int Str×D)} {v:List (Key×V)} (h:RDk K H O d v):RDk K (L2.upd H p o') O d v:=RDk.map (upd_map (K:=K) hO hp hm).1 (upd_map (K:=K) hO hp hm).2.1 (upd_map (K:=K) hO hp hm).2.2 h
theorem RDt.updM {p:Addr} {o o':HO} (hO:O p) (hp:H p=some o) (hm:MutO o) {d:List (List (Sum Int Str)×D)} {v:List (List Key×V)} (h:RDt K H O d v):RDt K (L2.upd H p o') O d v:=RDt.map (upd_map (K:=K) hO hp hm).1 (upd_map (K:=K) hO hp hm).2.1 (upd_map (K:=K) hO hp hm).2.2 h
theorem RD.upd {p:Addr} {ys zs:List V} (hO:O p) (hp:H p=some (.lst ys)) {d:D} {v:V} (h:RD K H O d v):RD K (L2.upd H p (.lst zs)) O d v:=RD.updM hO hp trivial h
theorem RDs.upd {p:Addr} {ys zs:List V} (hO:O p) (hp:H p=some (.lst ys)) {d:List D} {v:List V} (h:RDs K H O d v):RDs K (L2.upd H p (.lst zs)) O d v:=RDs.updM hO hp trivial h
mutual
theorem RD.flat:∀ {d:D} {v:V},d.flat=true→RD K H O d v→RD K H O' d v
 | .non,_,_,h=>h
 | .bl _,_,_,h=>h
 | .int _,_,_,h=>h
 | .str _,_,_,h=>h
 | .tup ds,v,f,h=>by
  obtain⟨a,xs,e,s,r⟩:=h
  rw[D.flat] at f
  exact⟨a,xs,e,s,RDs.flat f r⟩
 | .lst ds,v,f,_=>by rw[D.flat] at f;cases f
 | .dct _,_,f,_=>by rw[D.flat] at f;cases f
 | .tdc _,_,f,_=>by rw[D.flat] at f;cases f
theorem RDs.flat:∀ {ds:List D} {vs:List V},D.flats ds=true→RDs K H O ds vs→RDs K H O' ds vs
 | [],_,_,h=>h
 | d::ds,vs,f,h=>by
  obtain⟨v,r,e,h1,h2⟩:=h
  rw[D.flats,Bool.and_eq_true] at f
  exact⟨v,r,e,RD.flat f.1 h1,RDs.flat f.2 h2⟩
end
theorem RDs.length:∀ {ds:List D} {vs:List V},RDs K H O ds vs→vs.length=ds.length
 | [],_,h=>by rw[RDs] at h;rw[h];rfl
 | d::ds,vs,h=>by
  obtain⟨v,r,e,_,h2⟩:=h
  rw[e,List.length_cons,List.length_cons,RDs.length h2]
theorem RDs.get:∀ {ds:List D} {vs:List V} {i:Nat} {d:D},RDs K H O ds vs→ds[i]?=some d→∃v,vs[i]?=some v∧RD K H O d v
 | [],_,_,_,_,e=>by simp at e
 | d::ds,vs,0,d',h,e=>by
  obtain⟨v,r,rfl,h1,_⟩:=h
  simp at e;subst e
  exact⟨v,rfl,h1⟩
 | d::ds,vs,i+1,d',h,e=>by
  obtain⟨v,r,rfl,_,h2⟩:=h
  obtain⟨w,h3,h4⟩:=RDs.get (i:=i) h2 (by simpa using e)
  exact⟨w,by simpa using h3,h4⟩
theorem RDs.append:∀ {ds es:List D} {vs ws:List V},RDs K H O ds vs→RDs K H O es ws→RDs K H O (ds++es) (vs++ws)
 | [],_,_,_,h,g=>by rw[RDs] at h;subst h;exact g
 | d::ds,es,vs,ws,h,g=>by
  obtain⟨v,r,rfl,h1,h2⟩:=h
  exact⟨v,r++ws,rfl,h1,RDs.append h2 g⟩
theorem RDs.drop:∀ {ds:List D} {vs:List V} (n:Nat),RDs K H O ds vs→RDs K H O (ds.drop n) (vs.drop n)
 | _,_,0,h=>h
 | [],_,n+1,h=>by rw[RDs] at h;subst h;exact rfl
 | d::ds,vs,n+1,h=>by
  obtain⟨v,r,rfl,_,h2⟩:=h
  exact RDs.drop n h2
theorem RDs.take:∀ {ds:List D} {vs:List V} (n:Nat),RDs K H O ds vs→RDs K H O (ds.take n) (vs.take n)
 | _,_,0,_=>by simp[RDs]
 | [],_,n+1,h=>by rw[RDs] at h;subst h;simp[RDs]
 | d::ds,vs,n+1,h=>by
  obtain⟨v,r,rfl,h1,h2⟩:=h
  exact⟨v,r.take n,rfl,h1,RDs.take n h2⟩
theorem RDs.cut {ds:List D} {vs:List V} (lo hi:Option Int) (h:RDs K H O ds vs):RDs K H O (Tr.cut ds lo hi) (cutV vs lo hi):=by
 have e:=RDs.length h
 unfold Tr.cut cutV
 rw[e]
 exact RDs.take _ (RDs.drop _ h)
theorem RDs.cons {d:D} {v:V} {ds:List D} {vs:List V} (h:RD K H O d v) (r:RDs K H O ds vs):RDs K H O (d::ds) (v::vs):=⟨v,vs,rfl,h,r⟩
theorem RDs.nil:RDs K H O [] []:=rfl
theorem RDk.length:∀ {ds:List (Sum Int Str×D)} {vs:List (Key×V)},RDk K H O ds vs→vs.length=ds.length
 | [],_,h=>by rw[RDk] at h;rw[h];rfl
 | (k,d)::ds,vs,h=>by
  obtain⟨v,r,e,_,h2⟩:=h
  rw[e,List.length_cons,List.length_cons,RDk.length h2]
theorem RDt.length:∀ {ds:List (List (Sum Int Str)×D)} {vs:List (List Key×V)},RDt K H O ds vs→vs.length=ds.length
 | [],_,h=>by rw[RDt] at h;rw[h];rfl
 | (k,d)::ds,vs,h=>by
  obtain⟨v,r,e,_,h2⟩:=h
  rw[e,List.length_cons,List.length_cons,RDt.length h2]
theorem RD.rr {d:D} {v:V} (h:RD K H O d v):RR K H O d v:=.inl h
theorem RDs.rr:∀ {ds:List D} {vs:List V},RDs K H O ds vs→RRs K H O ds vs
 | [],_,h=>h
 | d::ds,vs,h=>by
  obtain⟨v,r,e,h1,h2⟩:=h
  exact⟨v,r,e,.inl h1,RDs.rr h2⟩
theorem OwnAt.map (hs:∀ {d v},RDs K H O d v→RDs K H' O' d v) (hk:∀ {d v},RDk K H O d v→RDk K H' O' d v) (hk2:∀ {d v},RDt K H O d v→RDt K H' O' d v) {a:Addr} (ho:∀o,MutO o→H a=some o→H' a=some o):∀ {d:D},OwnAt K H O a d→OwnAt K H' O' a d
 | .lst ds,⟨xs,h1,h2⟩=>⟨xs,ho _ trivial h1,hs h2⟩
 | .dct ds,⟨xs,h1,h2⟩=>⟨xs,ho _ trivial h1,hk h2⟩
 | .tdc ds,⟨xs,h1,h2⟩=>⟨xs,ho _ trivial h1,hk2 h2⟩
 | .non,h | .bl _,h | .int _,h | .str _,h | .tup _,h=>h.elim
theorem OwnAt.same (s:Same H H') {a:Addr} {d:D} (h:OwnAt K H O a d):OwnAt K H' O a d:=OwnAt.map (λq=>q.same s) (λq=>q.same s) (λq=>q.same s) (λ_ _ q=>s _ _ q) h
theorem OwnAt.new {p:Addr} (hp:H p=none) {a:Addr} {d:D} (h:OwnAt K H O a d):OwnAt K H (plus O p) a d:=OwnAt.map (λq=>q.new hp) (λq=>q.new hp) (λq=>q.new hp) (λ_ _ q=>q) h
theorem OwnAt.weak (s:∀a,O' a→O a) {a:Addr} {d:D} (h:OwnAt K H O a d):OwnAt K H O' a d:=OwnAt.map (λq=>q.weak s) (λq=>q.weak s) (λq=>q.weak s) (λ_ _ q=>q) h
theorem OwnAt.updM {p:Addr} {o o':HO} (hO:O p) (hp:H p=some o) (hm:MutO o) {a:Addr} (hne:a≠p) {d:D} (h:OwnAt K H O a d):OwnAt K (L2.upd H p o') O a d:=OwnAt.map (λq=>q.updM hO hp hm) (λq=>q.updM hO hp hm) (λq=>q.updM hO hp hm) (λ_ _ q=>by rw[upd_ne hne];exact q) h
theorem OwnAt.obj {a:Addr}:∀ {d:D},OwnAt K H O a d→∃o,H a=some o∧MutO o
 | .lst ds,⟨xs,h1,h2⟩=>⟨_,h1,trivial⟩
 | .dct ds,⟨xs,h1,h2⟩=>⟨_,h1,trivial⟩
 | .tdc ds,⟨xs,h1,h2⟩=>⟨_,h1,trivial⟩
 | .non,h | .bl _,h | .int _,h | .str _,h | .tup _,h=>h.elim
theorem OwnAt.rd {a:Addr} (hn:¬O a):∀ {d:D},d.isDct=false→OwnAt K H O a d→RD K H O d (.ref a)
 | .lst ds,_,⟨xs,h1,h2⟩=>⟨a,xs,rfl,.inl ⟨hn,.inl h1⟩,h2⟩
 | .dct ds,z,_=>by cases z
 | .tdc ds,z,_=>by cases z
 | .non,_,h | .bl _,_,h | .int _,_,h | .str _,_,h | .tup _,_,h=>h.elim
theorem RR.same (s:Same H H') {d:D} {v:V} (h:RR K H O d v):RR K H' O d v:=by
 rcases h with h | ⟨a,e,h⟩
 ·exact .inl (h.same s)
 ·exact .inr ⟨a,e,h.same s⟩
theorem RR.lst {ds:List D} {v:V} (h:RR K H O (.lst ds) v):∃a xs,v=.ref a∧SqL K H a xs∧RDs K H O ds xs:=by
 rcases h with ⟨a,xs,e,s,r⟩ | ⟨a,e,xs,h1,h2⟩
 ·refine⟨a,xs,e,?_,r⟩
  rcases s with ⟨_,s⟩ | s
  ·exact .inl s
  ·exact .inr s
 ·exact⟨a,xs,e,.of h1,h2⟩
theorem RR.dct {kvs:List (Sum Int Str×D)} {v:V} (h:RR K H O (.dct kvs) v):∃a ps,v=.ref a∧Rd H a (.dK ps)∧RDk K H O kvs ps:=by
 rcases h with ⟨a,ps,e,s,r⟩ | ⟨a,e,ps,h1,h2⟩
 ·exact⟨a,ps,e,.inr s,r⟩
 ·exact⟨a,ps,e,.inl h1,h2⟩
theorem RR.tdc {kvs:List (List (Sum Int Str)×D)} {v:V} (h:RR K H O (.tdc kvs) v):∃a ps,v=.ref a∧Rd H a (.dT ps)∧RDt K H O kvs ps:=by
 rcases h with ⟨a,ps,e,s,r⟩ | ⟨a,e,ps,h1,h2⟩
 ·exact⟨a,ps,e,.inr s,r⟩
 ·exact⟨a,ps,e,.inl h1,h2⟩
theorem RR.tupV {ds:List D} {v:V} (h:RR K H O (.tup ds) v):∃a xs,v=.ref a∧TupV K H a xs∧RDs K H O ds xs:=by
 rcases h with h | ⟨a,e,h⟩
 ·exact h
 ·exact h.elim
theorem RR.tup {ds:List D} {v:V} (h:RR K H O (.tup ds) v):∃a xs,v=.ref a∧SqT K H a xs∧RDs K H O ds xs:=by
 obtain⟨a,xs,e,q,r⟩:=h.tupV
 exact⟨a,xs,e,q.sq,r⟩
noncomputable def D.still:D→Bool
 | .lst _=>false
 | .dct _=>false
 | .tdc _=>false
 | _=>true
theorem RR.rd {d:D} {v:V} (h:RR K H O d v) (n:d.still=true):RD K H O d v:=by
 rcases h with h | ⟨a,e,h⟩
 ·exact h
 ·cases d with
  | lst _=>cases n
  | dct _=>cases n
  | tdc _=>cases n
  | non=>exact h.elim
  | bl _=>exact h.elim
  | int _=>exact h.elim
  | str _=>exact h.elim
  | tup _=>exact h.elim
end
noncomputable def NV (K:PySem.W.Frag) (H:Hp) (O:Addr→Prop) (d:D) (v:V):Prop:=(d=.non∧v=.non)∨∃ds a xs,d=.lst ds∧D.flats ds=true∧v=.ref a∧H a=some (.lst xs)∧¬O a∧RDs K H O ds xs
theorem NV.map {K:PySem.W.Frag} {H H':Hp} {O O':Addr→Prop} (hs:∀ {d v},RDs K H O d v→RDs K H' O' d v) (hn:∀a xs,¬O a→H a=some (.lst xs)→¬O' a∧H' a=some (.lst xs)) {d:D} {v:V} (h:NV K H O d v):NV K H' O' d v:=by
 rcases h with h | ⟨ds,a,xs,h1,h2,h3,h4,h5,h6⟩
 ·exact .inl h
 ·obtain⟨h7,h8⟩:=hn a xs h5 h4
  exact .inr ⟨ds,a,xs,h1,h2,h3,h8,h7,hs h6⟩
theorem NV.rd {K:PySem.W.Frag} {H:Hp} {O:Addr→Prop} {d:D} {v:V} (h:NV K H O d v):RD K H O d v:=by
 rcases h with ⟨rfl,rfl⟩ | ⟨ds,a,xs,rfl,h2,rfl,h4,h5,h6⟩
 ·exact rfl
 ·exact⟨a,xs,rfl,.inl ⟨h5,.inl h4⟩,h6⟩
noncomputable def RS (K:PySem.W.Frag) (H:Hp) (O:Addr→Prop) (own:Option Addr):Sl→Option V→Prop
 | .no,_=>True
 | .v d,ov=>∃v,ov=some v∧RD K H O d v
 | .o d,ov=>∃a,own=some a∧ov=some (.ref a)∧OwnAt K H O a d
 | .t ds,ov=>∃t p ys vs a r,own=some p∧ov=some (.ref t)∧(∃ks:List Int,ds=ks.map D.int++.lst a::r∧TupV K H t (ks.map V.int++.ref p::vs))∧H p=some (.lst ys)∧RDs K H O a ys∧RDs K H O r vs
 | .n d,ov=>∃v,ov=some v∧NV K H O d v
 | .r a d,ov=>own=some a∧ov=some (.ref a)∧OwnAt K H O a d
noncomputable def stAt (σ:L2.St) (i:Nat):Option V:=(σ[i]?).join
set_option genInjectivity false in
structure Fm (K:PySem.W.Frag) (H₀:Hp) (O₀:Addr→Prop) (H:Hp) (O:Addr→Prop) (own:Nat→Option Addr) (e:Nv) (σ:L2.St):Prop where
 len:e.length=σ.length
 sl:∀i,RS K H O (own i) (e.at i) (stAt σ i)
 inj:∀i j a,own i=some a→own j=some a→i=j
 same:Same H₀ H
 sub:∀a,O₀ a→O a
 trk0:∀a,O₀ a→∃o,H₀ a=some o
 trk:∀a,O a→∃o,H a=some o
 new:∀i a,own i=some a→O a∧H₀ a=none
 nw:∀i d a,e.at i=.n d→stAt σ i=some (.ref a)→H₀ a=none
section
variable {K:PySem.W.Frag} {H₀ H H':Hp} {O₀ O O':Addr→Prop} {own:Nat→Option Addr} {e:Nv} {σ:L2.St}
theorem RS.same (s:Same H H') {o:Option Addr} {x:Sl} {ov:Option V} (h:RS K H O o x ov):RS K H' O o x ov:=by
 cases x with
 | no=>trivial
 | v d=>obtain⟨v,e,r⟩:=h;exact⟨v,e,r.same s⟩
 | o d=>obtain⟨a,e1,e2,h⟩:=h;exact⟨a,e1,e2,h.same s⟩
 | r a d=>exact⟨h.1,h.2.1,h.2.2.same s⟩
 | t ds=>obtain⟨t,p,ys,vs,a,r,e1,e2,⟨ks,e3,h1⟩,h2,h3,h4⟩:=h;exact⟨t,p,ys,vs,a,r,e1,e2,⟨ks,e3,TupV.same s h1⟩,s _ _ h2,h3.same s,h4.same s⟩
 | n d=>obtain⟨v,e,r⟩:=h;exact⟨v,e,r.map (λq=>q.same s) λa xs z q=>⟨z,s _ _ q⟩⟩
theorem Fm.grow (F:Fm K H₀ O₀ H O own e σ) (s:Same H H'):Fm K H₀ O₀ H' O own e σ :=
 ⟨F.len,λi=>(F.sl i).same s,F.inj,F.same.trans s,F.sub,F.trk0,λa h=>let ⟨xs,q⟩:=F.trk a h;⟨xs,s _ _ q⟩,F.new,F.nw⟩
end
section
variable {K:PySem.W.Frag} {H₀ H H':Hp} {O₀ O O':Addr→Prop} {own:Nat→Option Addr} {e:Nv} {σ:L2.St}
theorem at_set_same {e:Nv} {i:Nat} {x:Sl} (h:i < e.length):Nv.at (e.set i x) i=x:=by
 unfold Nv.at;rw[List.getElem?_set_self h];rfl
theorem at_set_ne {e:Nv} {i j:Nat} {x:Sl} (h:i≠j):Nv.at (e.set i x) j=Nv.at e j:=by
 unfold Nv.at;rw[List.getElem?_set_ne h]
theorem at_out {e:Nv} {i:Nat} (h:¬i < e.length):Nv.at e i=.no:=by
 unfold Nv.at;rw[List.getElem?_eq_none (by lia)];rfl
theorem st_set_same {σ:L2.St} {i:Nat} {v:V} (h:i < σ.length):stAt (σ.set i (some v)) i=some v:=by
 unfold stAt;rw[List.getElem?_set_self h];rfl
theorem st_set_ne {σ:L2.St} {i j:Nat} {v:Option V} (h:i≠j):stAt (σ.set i v) j=stAt σ j:=by
 unfold stAt;rw[List.getElem?_set_ne h]
theorem nw_set {H₀:Hp} {e:Nv} {σ:L2.St} {i:Nat} {x:Sl} {ov:Option V} (hx:∀d,x≠.n d) (h:∀j d a,e.at j=.n d→stAt σ j=some (.ref a)→H₀ a=none):∀j d a,Nv.at (e.set i x) j=.n d→stAt (σ.set i ov) j=some (.ref a)→H₀ a=none:=λj d a h1 h2=>by
 by_cases z:i=j
 ·subst z
  by_cases hi:i < e.length
  ·rw[at_set_same hi] at h1;exact absurd h1 (hx d)
  ·rw[at_out (by rw[List.length_set];exact hi)] at h1;cases h1
 ·rw[at_set_ne z] at h1;rw[st_set_ne z] at h2;exact h j d a h1 h2
theorem nw_put {H₀:Hp} {e:Nv} {σ:L2.St} {i:Nat} {x:Sl} (hx:∀d,x≠.n d) (h:∀j d a,e.at j=.n d→stAt σ j=some (.ref a)→H₀ a=none):∀j d a,Nv.at (e.set i x) j=.n d→stAt σ j=some (.ref a)→H₀ a=none:=λj d a h1 h2=>by
 by_cases z:i=j
 ·subst z
  by_cases hi:i < e.length
  ·rw[at_set_same hi] at h1;exact absurd h1 (hx d)
  ·rw[at_out (by rw[List.length_set];exact hi)] at h1;cases h1
 ·rw[at_set_ne z] at h1;exact h j d a h1 h2
theorem st_get {σ:L2.St} {i:Nat} {v:V} (h:stAt σ i=some v):σ[i]?=some (some v):=by
 unfold stAt at h
 cases q:σ[i]? with
 | none=>rw[q] at h;cases h
 | some o=>rw[q] at h;cases o with
  | none=>cases h
  | some w=>cases h;rfl
theorem RS.map (ht:∀ {d v},RD K H O d v→RD K H' O' d v) (hs:∀ {d v},RDs K H O d v→RDs K H' O' d v) (hk:∀ {d v},RDk K H O d v→RDk K H' O' d v) (hk2:∀ {d v},RDt K H O d v→RDt K H' O' d v) {o:Option Addr} (ho:∀a u,o=some a→MutO u→H a=some u→H' a=some u) {x:Sl} {ov:Option V} (h:RS K H O o x ov) (hn:∀a xs,¬O a→H a=some (.lst xs)→¬O' a∧H' a=some (.lst xs)) (hq:∀a xs,TupV K H a xs→TupV K H' a xs:=by first | exact λ_ _ q=>q | exact λ_ _ q=>TupV.same (by assumption) q):RS K H' O' o x ov:=by
 cases x with
 | no=>trivial
 | v d=>obtain⟨v,e,r⟩:=h;exact⟨v,e,ht r⟩
 | o d=>obtain⟨a,e1,e2,h⟩:=h;exact⟨a,e1,e2,h.map hs hk hk2 λu hm q=>ho a u e1 hm q⟩
 | t ds=>obtain⟨t,p,ys,vs,a,r,e1,e2,⟨ks,e3,h1⟩,h2,h3,h4⟩:=h;exact⟨t,p,ys,vs,a,r,e1,e2,⟨ks,e3,hq _ _ h1⟩,ho p _ e1 trivial h2,hs h3,hs h4⟩
 | n d=>obtain⟨v,e,r⟩:=h;exact⟨v,e,r.map hs hn⟩
 | r a d=>exact⟨h.1,h.2.1,h.2.2.map hs hk hk2 λu hm q=>ho a u h.1 hm q⟩
theorem nn_new {p:Addr} (hp:H p=none) (s:Same H H'):∀a xs,¬O a→H a=some (.lst xs)→¬plus O p a∧H' a=some (.lst xs):=λa xs n q=>⟨λz=>z.elim n (ne_of_none q hp),s _ _ q⟩
theorem nn_upd {p:Addr} {o':HO} (hO:O p):∀a xs,¬O a→H a=some (.lst xs)→¬O a∧upd H p o' a=some (.lst xs):=λa xs n q=>⟨n,by
 have ne:a≠p:=λz=>n (z▸hO)
 rw[upd_ne ne];exact q⟩
theorem nn_weak (w:∀a,O' a→O a):∀a xs,¬O a→H a=some (.lst xs)→¬O' a∧H a=some (.lst xs):=λa xs n q=>⟨λz=>n (w a z),q⟩
theorem Fm.setV (F:Fm K H₀ O₀ H O own e σ) (i:Nat) {d:D} {v:V} (r:RD K H O d v):Fm K H₀ O₀ H O (λj=>if j=i then none else own j) (e.set i (.v d)) (σ.set i (some v)) where
 len:=by rw[List.length_set,List.length_set];exact F.len
 sl:=λj=>by
  by_cases h:i=j
  ·subst h
   by_cases hi:i < e.length
   ·rw[at_set_same hi,st_set_same (by rw[←F.len];exact hi)];exact⟨v,rfl,r⟩
   ·rw[at_out (by rw[List.length_set];exact hi)];trivial
  ·rw[at_set_ne h,st_set_ne h,if_neg (Ne.symm h)];exact F.sl j
 inj:=λj k a h1 h2=>by
  by_cases h:j=i
  ·rw[if_pos h] at h1;cases h1
  ·by_cases h':k=i
   ·rw[if_pos h'] at h2;cases h2
   ·rw[if_neg h] at h1;rw[if_neg h'] at h2;exact F.inj j k a h1 h2
 same:=F.same
 sub:=F.sub
 trk0:=F.trk0
 trk:=F.trk
 new:=λj a h1=>by
  by_cases h:j=i
  ·rw[if_pos h] at h1;cases h1
  ·rw[if_neg h] at h1;exact F.new j a h1
 nw:=nw_set (λ_ z=>by cases z) F.nw
theorem Fm.setN (F:Fm K H₀ O₀ H O own e σ) (i:Nat) {d:D} {v:V} (r:NV K H O d v) (h0:∀a,v=.ref a→H₀ a=none):Fm K H₀ O₀ H O (λj=>if j=i then none else own j) (e.set i (.n d)) (σ.set i (some v)) where
 len:=by rw[List.length_set,List.length_set];exact F.len
 sl:=λj=>by
  by_cases h:i=j
  ·subst h
   by_cases hi:i < e.length
   ·rw[at_set_same hi,st_set_same (by rw[←F.len];exact hi)];exact⟨v,rfl,r⟩
   ·rw[at_out (by rw[List.length_set];exact hi)];trivial
  ·rw[at_set_ne h,st_set_ne h,if_neg (Ne.symm h)];exact F.sl j
 inj:=(F.setV i r.rd).inj
 same:=F.same
 sub:=F.sub
 trk0:=F.trk0
 trk:=F.trk
 new:=(F.setV i r.rd).new
 nw:=λj d' a h1 h2=>by
  by_cases z:i=j
  ·subst z
   by_cases hi:i < e.length
   ·rw[st_set_same (by rw[←F.len];exact hi)] at h2
    exact h0 a (Option.some.inj h2)
   ·rw[at_out (by rw[List.length_set];exact hi)] at h1;cases h1
  ·rw[at_set_ne z] at h1;rw[st_set_ne z] at h2;exact F.nw j d' a h1 h2
theorem Fm.setO (F:Fm K H₀ O₀ H O own e σ) (s:Same H H') (i:Nat) {d:D} {p:Addr} (hp:H p=none) (r:OwnAt K H' (plus O p) p d) :
 Fm K H₀ O₀ H' (plus O p) (λj=>if j=i then some p else own j) (e.set i (.o d)) (σ.set i (some (.ref p))) where
 len:=by rw[List.length_set,List.length_set];exact F.len
 sl:=λj=>by
  by_cases h:i=j
  ·subst h
   rw[if_pos rfl]
   by_cases hi:i < e.length
   ·rw[at_set_same hi,st_set_same (by rw[←F.len];exact hi)];exact⟨p,rfl,rfl,r⟩
   ·rw[at_out (by rw[List.length_set];exact hi)];trivial
  ·rw[at_set_ne h,st_set_ne h,if_neg (Ne.symm h)]
   exact RS.map (λq=>(q.new hp).same s) (λq=>(q.new hp).same s) (λq=>(q.new hp).same s) (λq=>(q.new hp).same s) (λa u _ _ q=>s _ _ q) (F.sl j) (nn_new hp s)
 inj:=λj k a h1 h2=>by
  have no:∀j,own j≠some p:=λj q=>by
   obtain⟨xs,w⟩:=F.trk p (F.new j p q).1
   rw[hp] at w;cases w
  by_cases h:j=i
  ·rw[if_pos h] at h1
   cases h1
   by_cases h':k=i
   ·rw[h,h']
   ·rw[if_neg h'] at h2;exact absurd h2 (no k)
  ·rw[if_neg h] at h1
   by_cases h':k=i
   ·rw[if_pos h'] at h2;cases h2;exact absurd h1 (no j)
   ·rw[if_neg h'] at h2;exact F.inj j k a h1 h2
 same:=F.same.trans s
 sub:=λa h=>.inl (F.sub a h)
 trk0:=F.trk0
 trk:=λa h=>by
  rcases h with h | h
  ·obtain⟨ys,q⟩:=F.trk a h
   exact⟨ys,s _ _ q⟩
  ·subst h
   obtain⟨o,h1,_⟩:=r.obj
   exact⟨o,h1⟩
 new:=λj a h1=>by
  by_cases h:j=i
  ·rw[if_pos h] at h1;cases h1;exact⟨.inr rfl,F.same.free hp⟩
  ·rw[if_neg h] at h1;exact⟨.inl (F.new j a h1).1,(F.new j a h1).2⟩
 nw:=nw_set (λ_ z=>by cases z) F.nw
theorem Fm.mutA (F:Fm K H₀ O₀ H O own e σ) (i:Nat) {d:D} (hi:e.at i=.o d):∃p,stAt σ i=some (.ref p)∧OwnAt K H O p d∧O p ∧
 ∀d' o',(∀o,H p=some o→OwnAt K (upd H p o') O p d')→Fm K H₀ O₀ (upd H p o') O own (e.set i (.o d')) σ:=by
 have q:=F.sl i
 rw[hi] at q
 obtain⟨p,e1,e2,h1⟩:=q
 obtain⟨o,ho,hm⟩:=h1.obj
 have hn:=F.new i p e1
 refine⟨p,e2,h1,hn.1,λd' o' r=>?_⟩
 have hlen:i < e.length:=by
  by_cases h:i < e.length
  ·exact h
  ·rw[at_out h] at hi;cases hi
 refine⟨by rw[List.length_set];exact F.len,λj=>?_,F.inj,λb u hb=>?_,F.sub,F.trk0,λa ha=>?_,F.new,nw_put (λ_ z=>by cases z) F.nw⟩
 ·by_cases h:i=j
  ·subst h
   rw[at_set_same hlen,e2]
   exact⟨p,e1,rfl,r o ho⟩
  ·rw[at_set_ne h]
   refine RS.map (λq=>q.updM hn.1 ho hm) (λq=>q.updM hn.1 ho hm) (λq=>q.updM hn.1 ho hm) (λq=>q.updM hn.1 ho hm) (λa u ea _ q=>?_) (F.sl j) (nn_upd hn.1) (upd_map (K:=K) hn.1 ho hm).1
   have:a≠p:=λz=>h (F.inj i j p e1 (z▸ea))
   rw[upd_ne this];exact q
 ·rw[upd_ne (λz=>by rw[z,hn.2] at hb;cases hb)];exact F.same b u hb
 ·by_cases h:a=p
  ·subst h;exact⟨_,upd_same⟩
  ·obtain⟨ys,q⟩:=F.trk a ha
   exact⟨ys,by rw[upd_ne h];exact q⟩
theorem Fm.mut (F:Fm K H₀ O₀ H O own e σ) (i:Nat) {ds:List D} (hi:e.at i=.o (.lst ds)):∃p xs,stAt σ i=some (.ref p)∧H p=some (.lst xs)∧RDs K H O ds xs∧O p ∧
 ∀ds' xs',RDs K H O ds' xs'→Fm K H₀ O₀ (upd H p (.lst xs')) O own (e.set i (.o (.lst ds'))) σ:=by
 obtain⟨p,e2,⟨xs,h1,h2⟩,hO,k⟩:=F.mutA i hi
 exact⟨p,xs,e2,h1,h2,hO,λds' xs' r=>k (.lst ds') (.lst xs') λ_ _=>⟨xs',upd_same,r.upd hO h1⟩⟩
theorem Fm.mutT (F:Fm K H₀ O₀ H O own e σ) (i:Nat) {ds:List (List (Sum Int Str)×D)} (hi:e.at i=.o (.tdc ds)):∃p xs,stAt σ i=some (.ref p)∧H p=some (.dT xs)∧RDt K H O ds xs∧O p ∧
 ∀ds' xs',RDt K H O ds' xs'→Fm K H₀ O₀ (upd H p (.dT xs')) O own (e.set i (.o (.tdc ds'))) σ:=by
 obtain⟨p,e2,⟨xs,h1,h2⟩,hO,k⟩:=F.mutA i hi
 exact⟨p,xs,e2,h1,h2,hO,λds' xs' r=>k (.tdc ds') (.dT xs') λ_ _=>⟨xs',upd_same,r.updM hO h1 trivial⟩⟩
theorem Fm.seal (F:Fm K H₀ O₀ H O own e σ) (i:Nat) {d:D} (hi:e.at i=.o d) (hd:d.isDct=false):∃O' own',Fm K H₀ O₀ H O' own' (e.set i (.v d)) σ∧∀a,O' a→O a:=by
 have q:=F.sl i
 rw[hi] at q
 obtain⟨p,e1,e2,h1⟩:=q
 have hn:=F.new i p e1
 have hlen:i < e.length:=by
  by_cases h:i < e.length
  ·exact h
  ·rw[at_out h] at hi;cases hi
 refine⟨minus O p,λj=>if j=i then none else own j,⟨by rw[List.length_set];exact F.len,λj=>?_,λj k a q1 q2=>?_,F.same,λa ha=>⟨F.sub a ha,λz=>?_⟩,F.trk0,λa ha=>F.trk a ha.1,λj a q1=>?_,nw_put (λ_ z=>by cases z) F.nw⟩,λa ha=>ha.1⟩
 ·by_cases h:i=j
  ·subst h
   rw[at_set_same hlen,e2]
   exact⟨.ref p,rfl,OwnAt.rd (λz=>z.2 rfl) hd (h1.weak λ_ z=>z.1)⟩
  ·rw[at_set_ne h,if_neg (Ne.symm h)]
   exact RS.map (λq=>q.weak λ_ z=>z.1) (λq=>q.weak λ_ z=>z.1) (λq=>q.weak λ_ z=>z.1) (λq=>q.weak λ_ z=>z.1) (λa ys _ _ q=>q) (F.sl j) (nn_weak λ_ z=>z.1)
 ·by_cases h:j=i
  ·rw[if_pos h] at q1;cases q1
  ·by_cases h':k=i
   ·rw[if_pos h'] at q2;cases q2
   ·rw[if_neg h] at q1;rw[if_neg h'] at q2;exact F.inj j k a q1 q2
 ·obtain⟨o,w⟩:=F.trk0 a ha
  rw[z,hn.2] at w;cases w
 ·by_cases h:j=i
  ·rw[if_pos h] at q1;cases q1
  ·rw[if_neg h] at q1
   exact⟨⟨(F.new j a q1).1,λz=>h (F.inj j i p (z▸q1) e1)⟩,(F.new j a q1).2⟩
theorem Fm.sealD (F:Fm K H₀ O₀ H O own e σ) (i:Nat) {d:D} (hi:e.at i=.o d) (hd:d.isDct=true):∃p u,H p=some u∧((∃ps,u=.dK ps)∨∃ps,u=.dT ps)∧stAt σ i=some (.ref p)∧(O p∧MutO u) ∧
 ∀ob,(∃own',Fm K H₀ O₀ (upd H p (.frz ob u)) (minus O p) own' (e.set i (.v d)) σ)∧RD K (upd H p (.frz ob u)) (minus O p) d (.ref p):=by
 have q:=F.sl i
 rw[hi] at q
 obtain⟨p,e1,e2,h1⟩:=q
 have hn:=F.new i p e1
 have hlen:i < e.length:=by
  by_cases h:i < e.length
  ·exact h
  ·rw[at_out h] at hi;cases hi
 obtain⟨u,hu,hm⟩:=h1.obj
 have hk:((∃ps,u=.dK ps)∨∃ps,u=.dT ps)∧∀ob,RD K (upd H p (.frz ob u)) (minus O p) d (.ref p):=by
  cases d with
  | dct kvs =>
   obtain⟨ps,g1,g2⟩:=h1
   rw[g1] at hu
   cases hu
   exact⟨.inl ⟨ps,rfl⟩,λob=>⟨p,ps,rfl,⟨ob,upd_same⟩,(g2.updM hn.1 g1 trivial).weak λ_ z=>z.1⟩⟩
  | tdc kvs =>
   obtain⟨ps,g1,g2⟩:=h1
   rw[g1] at hu
   cases hu
   exact⟨.inr ⟨ps,rfl⟩,λob=>⟨p,ps,rfl,⟨ob,upd_same⟩,(g2.updM hn.1 g1 trivial).weak λ_ z=>z.1⟩⟩
  | _=>cases hd
 refine⟨p,u,hu,hk.1,e2,⟨hn.1,hm⟩,λob=>⟨⟨λj=>if j=i then none else own j,⟨by rw[List.length_set];exact F.len,λj=>?_,λj k a q1 q2=>?_,λb w hb=>?_,λa ha=>⟨F.sub a ha,λz=>?_⟩,F.trk0,λa ha=>?_,λj a q1=>?_,nw_put (λ_ z=>by cases z) F.nw⟩⟩,hk.2 ob⟩⟩
 ·by_cases h:i=j
  ·subst h
   rw[at_set_same hlen,e2]
   exact⟨.ref p,rfl,hk.2 ob⟩
  ·rw[at_set_ne h,if_neg (Ne.symm h)]
   refine RS.map (λq=>(q.updM hn.1 hu hm).weak λ_ z=>z.1) (λq=>(q.updM hn.1 hu hm).weak λ_ z=>z.1) (λq=>(q.updM hn.1 hu hm).weak λ_ z=>z.1) (λq=>(q.updM hn.1 hu hm).weak λ_ z=>z.1) (λa w ea _ q=>?_) (F.sl j) (λa xs n q=>?_) (upd_map (K:=K) hn.1 hu hm).1
   ·have:a≠p:=λz=>h (F.inj i j p e1 (z▸ea))
    rw[upd_ne this];exact q
   ·obtain⟨_,z2⟩:=nn_upd (o':=.frz ob u) hn.1 a xs n q
    exact⟨λz=>n z.1,z2⟩
 ·by_cases h:j=i
  ·rw[if_pos h] at q1;cases q1
  ·by_cases h':k=i
   ·rw[if_pos h'] at q2;cases q2
   ·rw[if_neg h] at q1;rw[if_neg h'] at q2;exact F.inj j k a q1 q2
 ·rw[upd_ne (λz=>by rw[z,hn.2] at hb;cases hb)];exact F.same b w hb
 ·obtain⟨o,w⟩:=F.trk0 a ha
  rw[z,hn.2] at w;cases w
 ·obtain⟨o,w⟩:=F.trk a ha.1
  exact⟨o,by rw[upd_ne ha.2];exact w⟩
 ·by_cases h:j=i
  ·rw[if_pos h] at q1;cases q1
  ·rw[if_neg h] at q1
   exact⟨⟨(F.new j a q1).1,λz=>h (F.inj j i p (z▸q1) e1)⟩,(F.new j a q1).2⟩
theorem Fm.val (F:Fm K H₀ O₀ H O own e σ) {i:Nat} {d:D} (h:(e.at i).val=.ok d):∃v,σ[i]?=some (some v)∧RD K H O d v:=by
 have q:=F.sl i
 cases z:e.at i with
 | no=>rw[z] at h;cases h
 | o d=>rw[z] at h;cases h
 | t d=>rw[z] at h;cases h
 | r a d=>rw[z] at h;cases h
 | n d' =>
  rw[z] at h q
  cases h
  obtain⟨v,e1,r⟩:=q
  exact⟨v,st_get e1,r.rd⟩
 | v d' =>
  rw[z] at h q
  cases h
  obtain⟨v,e1,r⟩:=q
  exact⟨v,st_get e1,r⟩
theorem Fm.any (F:Fm K H₀ O₀ H O own e σ) {i:Nat} {d:D} (h:(e.at i).any=.ok d):∃v,σ[i]?=some (some v)∧RR K H O d v:=by
 have q:=F.sl i
 cases z:e.at i with
 | no=>rw[z] at h;cases h
 | t d=>rw[z] at h;cases h
 | o d' =>
  rw[z] at h q
  cases h
  obtain⟨a,e1,e2,h1⟩:=q
  exact⟨.ref a,st_get e2,.inr ⟨a,rfl,h1⟩⟩
 | r a d' =>
  rw[z] at h q
  cases h
  exact⟨.ref a,st_get q.2.1,.inr ⟨a,rfl,q.2.2⟩⟩
 | n d' =>
  rw[z] at h q
  cases h
  obtain⟨v,e1,r⟩:=q
  exact⟨v,st_get e1,.inl r.rd⟩
 | v d' =>
  rw[z] at h q
  cases h
  obtain⟨v,e1,r⟩:=q
  exact⟨v,st_get e1,.inl r⟩
theorem Sl.own_ok {x:Sl} {a:List D} (h:x.own=.ok a):x=.o (.lst a):=by
 unfold Sl.own at h
 split at h
 ·cases h;rfl
 ·cases h
theorem Sl.ownT_ok {x:Sl} {a:List (List (Sum Int Str)×D)} (h:x.ownT=.ok a):x=.o (.tdc a):=by
 unfold Sl.ownT at h
 split at h
 ·cases h;rfl
 ·cases h
theorem Sl.ownA_ok {x:Sl} {a:D} (h:x.ownA=.ok a):x=.o a:=by
 unfold Sl.ownA at h
 split at h
 ·cases h;rfl
 ·cases h
end
noncomputable def NewL (K:PySem.W.Frag) (H H':Hp) (O:Addr→Prop) (d:D) (v:V):Prop:=d.still=false→∃a,v=.ref a∧H a=none∧OwnAt K H' (plus O a) a d
theorem NewL.back {K:PySem.W.Frag} {H1 H H':Hp} {O:Addr→Prop} {d:D} {v:V} (s:Same H1 H) (n:NewL K H H' O d v):NewL K H1 H' O d v:=λz=>by
 obtain⟨a,h1,h2,h3⟩:=n z
 exact⟨a,h1,s.free h2,h3⟩
theorem NewL.same {K:PySem.W.Frag} {H H1 H':Hp} {O:Addr→Prop} {d:D} {v:V} (s:Same H1 H') (n:NewL K H H1 O d v):NewL K H H' O d v:=λz=>by
 obtain⟨a,h1,h2,h3⟩:=n z
 exact⟨a,h1,h2,h3.same s⟩
theorem NewL.weak {K:PySem.W.Frag} {H H':Hp} {O O':Addr→Prop} {d:D} {v:V} (s:∀a,O' a→O a) (n:NewL K H H' O d v):NewL K H H' O' d v:=λz=>by
 obtain⟨a,h1,h2,h3⟩:=n z
 exact⟨a,h1,h2,h3.weak λb hb=>hb.imp (s b) id⟩
theorem NewL.still {K:PySem.W.Frag} {H H':Hp} {O:Addr→Prop} {d:D} {v:V} (h:d.still=true):NewL K H H' O d v:=λz=>by rw[h] at z;cases z
noncomputable def NewR (K:PySem.W.Frag) (H H':Hp) (O:Addr→Prop) (d:D) (v:V):Prop:=NewL K H H' O d v∧∀(ks:List Int) (a r:List D),d=.tup (ks.map D.int++.lst a::r)→∃t p ys vs,v=.ref t∧TupV K H' t (ks.map V.int++.ref p::vs)∧H p=none∧H' p=some (.lst ys)∧RDs K H' (plus O p) a ys∧RDs K H' (plus O p) r vs
theorem hasL_of (ks:List Int) (a r:List D):hasL (ks.map D.int++.lst a::r)=true:=by
 induction ks with
 | nil=>rfl
 | cons k ks ih=>exact ih
theorem NewR.of {K:PySem.W.Frag} {H H':Hp} {O:Addr→Prop} {d:D} {v:V} (n:NewL K H H' O d v) (h:tupL d=false):NewR K H H' O d v:=⟨n,λks a r z=>by
 subst z
 have h:hasL _=false:=h
 rw[hasL_of] at h;cases h⟩
section
variable (T:Tab) (cf:Nat→List D→Res D) (K:PySem.W.Frag) (H₀:Hp) (O₀:Addr→Prop)
noncomputable def tE (x:E):TE:=λσ H Q=>∃O own e d,Fm K H₀ O₀ H O own e σ∧evE T cf x e=.ok d∧∀v H',Same H H'→RD K H' O d v→(freshE T x=true→NewL K H H' O d v)→Q v H'
noncomputable def tR (x:E):TE:=λσ H Q=>∃O own e d,Fm K H₀ O₀ H O own e σ∧evE T cf x e=.ok d∧∀v H',Same H H'→RR K H' O d v→Q v H'
noncomputable def tT (x:E):TT:=λσ H Q=>∃O own e d k,Fm K H₀ O₀ H O own e σ∧evE T cf x e=.ok d∧d.truth=.ok k∧∀H',Same H H'→Q k H'
noncomputable def NewAs (H H':Hp) (O:Addr→Prop) (x:E) (ds:List D) (vs:List V):Prop:=∀j d v,freshE T (argAt x j)=true→ds[j]?=some d→vs[j]?=some v→NewL K H H' O d v
noncomputable def tAv (x:E):TA:=λσ H Q=>∃O own e ds,Fm K H₀ O₀ H O own e σ∧evA T cf x e=.ok ds∧∀vs H',Same H H'→RDs K H' O ds vs→NewAs T K H H' O x ds vs→Q vs H'
noncomputable def tAr (x:E):TA:=λσ H Q=>∃O own e ds,Fm K H₀ O₀ H O own e σ∧evA T cf x e=.ok ds∧∀vs H',Same H H'→RRs K H' O ds vs→Q vs H'
end
section
variable (T:Tab) (cf:Nat→List D→Res D) (X:Cx)
noncomputable def SE (x:E) (p:Expr):Prop:=∀H₀ O₀,PE X p (tE T cf X.K H₀ O₀ x)
noncomputable def SR (x:E) (p:Expr):Prop:=∀H₀ O₀,PE X p (tR T cf X.K H₀ O₀ x)
noncomputable def ST (x:E) (p:Expr):Prop:=∀H₀ O₀,PT X p (tT T cf X.K H₀ O₀ x)
noncomputable def SAv (x:E) (p:List Expr):Prop:=∀H₀ O₀,PA X p (tAv T cf X.K H₀ O₀ x)
noncomputable def SAr (x:E) (p:List Expr):Prop:=∀H₀ O₀,PA X p (tAr T cf X.K H₀ O₀ x)
end
section
variable {T:Tab} {cf:Nat→List D→Res D} {X:Cx} {x y z:E} {p q r:Expr} {pos:Pos}
theorem PE.imp {t t':TE} (h:∀σ H Q,t' σ H Q→t σ H Q) (hp:PE X p t):PE X p t':=λpins s σ H Q I q=>hp pins s σ H Q I (h σ H Q q)
theorem PT.imp {t t':TT} (h:∀σ H Q,t' σ H Q→t σ H Q) (hp:PT X p t):PT X p t':=λpins s σ H Q I q=>hp pins s σ H Q I (h σ H Q q)
theorem SE.sr (h:SE T cf X x p):SR T cf X x p:=λH₀ O₀=>PE.imp (λσ H Q ⟨O,own,e,d,F,ev,q⟩=>⟨O,own,e,d,F,ev,λv H' s r _=>q v H' s r.rr⟩) (h H₀ O₀)
theorem SAv.sr {ps:List Expr} (h:SAv T cf X x ps):SAr T cf X x ps:=λH₀ O₀ pos pins s σ H Q I ⟨O,own,e,ds,F,ev,q⟩=>h H₀ O₀ pos pins s σ H Q I ⟨O,own,e,ds,F,ev,λvs H' s r _=>q vs H' s r.rr⟩
theorem se_var {i:Nat} {n:Str} (hN:X.N[i]?=some n) (hv:Vis X.env.scope n) (hd:(n==("__debug__" : Str))=false) (hc:(n==("__classdict__" : Str))=false):SE T cf X (.var i) (.Name n pos):=λH₀ O₀ =>
 PE.imp (λσ H Q ⟨O,own,e,d,F,ev,q⟩=>by
  obtain⟨v,h1,h2⟩:=F.val (i:=i) (by rw[xE_var] at ev;exact ev)
  exact⟨v,h1,q v H (Same.refl H) h2 (λz=>by cases z)⟩) (pe_var hN hv hd hc)
theorem sr_rd {i:Nat} {n:Str} (hN:X.N[i]?=some n) (hv:Vis X.env.scope n) (hd:(n==("__debug__" : Str))=false) (hc:(n==("__classdict__" : Str))=false):SR T cf X (.rd i) (.Name n pos):=λH₀ O₀ =>
 PE.imp (λσ H Q ⟨O,own,e,d,F,ev,q⟩=>by
  obtain⟨v,h1,h2⟩:=F.any (i:=i) (by rw[xE_rd] at ev;exact ev)
  exact⟨v,h1,q v H (Same.refl H) h2⟩) (pe_var hN hv hd hc)
noncomputable def cstIs:D→Const→Bool
 | .non,.none=>true
 | .bl a,.bool b=>a==b
 | .int i,.int j=>i==j
 | .str a,.str b=>a==b
 | _,_=>false
theorem se_con {d:D} {c:Const} {k:Nat} (h:cstIs d c=true):SE T cf X (.con d) (.Constant c k pos):=λH₀ O₀=>by
 have fin:∀ {v:V} {σ:L2.St} {H:Hp} {Q:VK},(∀H O,RD X.K H O d v)→tE T cf X.K H₀ O₀ (.con d) σ H Q→Q v H:=λhv ⟨O,own,e,d',F,ev,q⟩=>by
  rw[xE_con] at ev;cases ev
  exact q _ _ (Same.refl _) (hv _ _) (λz=>by cases z)
 cases d<;>cases c<;>first
  | (exact absurd (show false=true from h) Bool.false_ne_true)
  | (exact PE.imp (λσ H Q w=>fin (v:=.non) (λ_ _=>rfl) w) pe_non)
  | (have e:=eq_of_beq (show _==_ from h);subst e;first
   | exact PE.imp (λσ H Q w=>fin (λ_ _=>rfl) w) pe_bl
   | exact PE.imp (λσ H Q w=>fin (λ_ _=>rfl) w) pe_int
   | exact PE.imp (λσ H Q w=>fin (λ_ _=>rfl) w) pe_str)
noncomputable def GlobIs (X:Cx) (n:Str) (d:D):Prop:=∃v u,X.mg n=some u∧RelV v u∧∀H O,RD X.K H O d v
theorem se_glob {g:Nat} {n:Str} (hg:Gl X n) (h:GlobIs X n (T.glob g)) (hd:(n==("__debug__" : Str))=false):SE T cf X (.glob g) (.Name n pos):=λH₀ O₀=>by
 obtain⟨v,u,hm,r,hv⟩:=h
 refine PE.imp (λσ H Q hq=>?_) (pe_glob (v:=v) hg hm r hd)
 obtain⟨O,own,e,d,F,ev,q⟩:=hq
 rw[xE_glob] at ev;cases ev
 exact q v H (Same.refl H) (hv H O) (λz=>by cases z)
noncomputable def rD2 (K:PySem.W.Frag) (f:D→D→Res D) (fr:Bool):R2:=λx y H Q=>∃O d1 d2 d,RR K H O d1 x∧RR K H O d2 y∧f d1 d2=.ok d∧(∀a,O a→∃o,H a=some o)∧∀v H',Same H H'→RD K H' O d v→(fr=true→NewL K H H' O d v)→Q v H'
theorem se_op2 {w:E} {pe:Expr} {f:D→D→Res D} (hw:∀e,evE T cf w e=(do let a ←evE T cf x e;let b ←evE T cf y e;f a b))
 (hop:∀ {ta tb:TE},PE X p ta→PE X q tb→PE X pe (tOp (rD2 X.K f (freshE T w)) ta tb)) (ha:SR T cf X x p) (hb:SR T cf X y q):SE T cf X w pe:=λH₀ O₀=>by
 refine PE.imp (λσ H Q hq=>?_) (hop (ha H₀ O₀) (hb H₀ O₀))
 obtain⟨O,own,e,d,F,ev,k⟩:=hq
 rw[hw] at ev
 obtain⟨d1,e1,ev⟩:=Res.bind_ok ev
 obtain⟨d2,e2,ev⟩:=Res.bind_ok ev
 refine⟨O,own,e,d1,F,e1,λv1 H1 s1 r1=>?_⟩
 refine⟨O,own,e,d2,F.grow s1,e2,λv2 H2 s2 r2=>?_⟩
 refine⟨O,d1,d2,d,r1.same s2,r2,ev,λa ha=>?_,λv H' s3 r3 n3=>?_⟩
 ·exact (F.grow (s1.trans s2)).trk a ha
 ·exact k v H' ((s1.trans s2).trans s3) r3 λfr=>(n3 fr).back (s1.trans s2)
end
noncomputable abbrev no:Addr→Prop:=λ_=>False
section
variable {X:Cx} {pins:List (Addr×Obj)} {σ:L2.St} {H:Hp} {s:Shared}
theorem sq_apart (I:Inv X pins σ H s) {a:Addr} {xs ys:List V} (h1:SqL X.K H a xs) (h2:SqT X.K H a ys):False:=by
 obtain⟨its,_,pl,_⟩:=I.list h1
 obtain⟨its',_,pt,_⟩:=I.tuple h2
 exact SeqAt.ne_of_list_tuple pl.isList pt rfl
theorem RD.sql {K:PySem.W.Frag} {O:Addr→Prop} {ds:List D} {v:V} (h:RD K H O (.lst ds) v):∃a xs,v=.ref a∧SqL K H a xs∧RDs K H O ds xs:=RR.lst (.inl h)
theorem dk_class (I:Inv X pins σ H s) {a:Addr} {ps:List (Key×V)} (h:Rd H a (.dK ps)):∃o,s.heap.get? a=some o∧o.cls=.type "dict" := by
 obtain⟨_,_,vs,_,o,es,ep,e,c,_⟩:=(show ObjOk X.prog X.w H s.heap a (.dK ps) from rd_of I.hok h)
 exact⟨o,e,c.1⟩
theorem dk_lst (I:Inv X pins σ H s) {a:Addr} {ps:List (Key×V)} {xs:List V} (h:Rd H a (.dK ps)) (h2:SqL X.K H a xs):False:=by
 obtain⟨its,_,pl,_⟩:=I.list h2
 obtain⟨o,e,c⟩:=dk_class I h
 obtain⟨o',e',c',_⟩:=pl.isList
 rw[e] at e';cases e'
 rw[c] at c'
 injection c' with z
 exact absurd z (by decide)
theorem dk_tup (I:Inv X pins σ H s) {a:Addr} {ps:List (Key×V)} {xs:List V} (h:Rd H a (.dK ps)) (h2:SqT X.K H a xs):False:=by
 obtain⟨its,_,pl,_⟩:=I.tuple h2
 obtain⟨o,e,c⟩:=dk_class I h
 obtain⟨o',e',c',_⟩:=pl
 rw[e] at e';cases e'
 rw[c] at c'
 injection c' with z
 exact absurd z (by decide)
theorem dt_class (I:Inv X pins σ H s) {a:Addr} {ps:List (List Key×V)} (h:Rd H a (.dT ps)):∃o,s.heap.get? a=some o∧o.cls=.type "dict" := by
 obtain⟨_,_,vs,_,o,es,ep,e,c,_⟩:=(show ObjOk X.prog X.w H s.heap a (.dT ps) from rd_of I.hok h)
 exact⟨o,e,c.1⟩
theorem dt_lst (I:Inv X pins σ H s) {a:Addr} {ps:List (List Key×V)} {xs:List V} (h:Rd H a (.dT ps)) (h2:SqL X.K H a xs):False:=by
 obtain⟨its,_,pl,_⟩:=I.list h2
 obtain⟨o,e,c⟩:=dt_class I h
 obtain⟨o',e',c',_⟩:=pl.isList
 rw[e] at e';cases e'
 rw[c] at c'
 injection c' with z
 exact absurd z (by decide)
theorem dt_tup (I:Inv X pins σ H s) {a:Addr} {ps:List (List Key×V)} {xs:List V} (h:Rd H a (.dT ps)) (h2:SqT X.K H a xs):False:=by
 obtain⟨its,_,pl,_⟩:=I.tuple h2
 obtain⟨o,e,c⟩:=dt_class I h
 obtain⟨o',e',c',_⟩:=pl
 rw[e] at e';cases e'
 rw[c] at c'
 injection c' with z
 exact absurd z (by decide)
mutual
theorem RD.inj (I:Inv X pins σ H s):∀ {d d':D} {v:V},RD X.K H no d v→RD X.K H no d' v→d=d'
 | .non,d',v,h,h'=>by cases (show v=.non from h);cases d'<;>first | (obtain⟨a,xs,e,_⟩:=h';cases e;done) | rfl | (cases h';done)
 | .bl b,d',v,h,h'=>by cases (show v=.bl b from h);cases d'<;>first | (obtain⟨a,xs,e,_⟩:=h';cases e;done) | rfl | (cases h';rfl) | (cases h';done)
 | .int b,d',v,h,h'=>by cases (show v=.int b from h);cases d'<;>first | (obtain⟨a,xs,e,_⟩:=h';cases e;done) | rfl | (cases h';rfl) | (cases h';done)
 | .str b,d',v,h,h'=>by cases (show v=.str b from h);cases d'<;>first | (obtain⟨a,xs,e,_⟩:=h';cases e;done) | rfl | (cases h';rfl) | (cases h';done)
 | .tup ds,d',v,h,h'=>by
  obtain⟨a,xs,e,q,r⟩:=h
  subst e
  cases d' with
  | tup ds' =>
   obtain⟨a',xs',e,q',r'⟩:=h'
   cases e
   have:=I.tuple_inj q.sq q'.sq
   subst this
   rw[RDs.inj I r r']
  | lst ds' =>
   obtain⟨a',xs',e,q',r'⟩:=RD.sql h'
   cases e
   exact (sq_apart I q' q.sq).elim
  | non=>cases h'
  | bl _=>cases h'
  | int _=>cases h'
  | str _=>cases h'
  | dct _ =>
   obtain⟨a',xs',e,q',r'⟩:=h'
   cases e
   exact (dk_tup I (.inr q') q.sq).elim
  | tdc _ =>
   obtain⟨a',xs',e,q',r'⟩:=h'
   cases e
   exact (dt_tup I (.inr q') q.sq).elim
 | .lst ds,d',v,h,h'=>by
  obtain⟨a,xs,e,q,r⟩:=RD.sql h
  subst e
  cases d' with
  | lst ds' =>
   obtain⟨a',xs',e,q',r'⟩:=RD.sql h'
   cases e
   have:=I.list_inj q q'
   subst this
   rw[RDs.inj I r r']
  | tup ds' =>
   obtain⟨a',xs',e,q',r'⟩:=h'
   cases e
   exact (sq_apart I q q'.sq).elim
  | non=>cases h'
  | bl _=>cases h'
  | int _=>cases h'
  | str _=>cases h'
  | dct _ =>
   obtain⟨a',xs',e,q',r'⟩:=h'
   cases e
   exact (dk_lst I (.inr q') q).elim
  | tdc _ =>
   obtain⟨a',xs',e,q',r'⟩:=h'
   cases e
   exact (dt_lst I (.inr q') q).elim
 | .dct kvs,d',v,h,h'=>by
  obtain⟨a,xs,e,q,r⟩:=h
  subst e
  cases d' with
  | dct kvs' =>
   obtain⟨a',xs',e,q',r'⟩:=h'
   cases e
   obtain⟨o1,q⟩:=q
   obtain⟨o2,q'⟩:=q'
   have:=q.symm.trans q'
   cases this
   rw[RDk.inj I r r']
  | tup ds' =>
   obtain⟨a',xs',e,q',r'⟩:=h'
   cases e
   exact (dk_tup I (.inr q) q'.sq).elim
  | lst ds' =>
   obtain⟨a',xs',e,q',r'⟩:=RD.sql h'
   cases e
   exact (dk_lst I (.inr q) q').elim
  | non=>cases h'
  | bl _=>cases h'
  | int _=>cases h'
  | str _=>cases h'
  | tdc _ =>
   obtain⟨a',xs',e,q',r'⟩:=h'
   cases e
   obtain⟨o1,q⟩:=q
   obtain⟨o2,q'⟩:=q'
   have:=q.symm.trans q'
   cases this
 | .tdc kvs,d',v,h,h'=>by
  obtain⟨a,xs,e,q,r⟩:=h
  subst e
  cases d' with
  | tdc kvs' =>
   obtain⟨a',xs',e,q',r'⟩:=h'
   cases e
   obtain⟨o1,q⟩:=q
   obtain⟨o2,q'⟩:=q'
   have:=q.symm.trans q'
   cases this
   rw[RDt.inj I r r']
  | tup ds' =>
   obtain⟨a',xs',e,q',r'⟩:=h'
   cases e
   exact (dt_tup I (.inr q) q'.sq).elim
  | lst ds' =>
   obtain⟨a',xs',e,q',r'⟩:=RD.sql h'
   cases e
   exact (dt_lst I (.inr q) q').elim
  | non=>cases h'
  | bl _=>cases h'
  | int _=>cases h'
  | str _=>cases h'
  | dct _ =>
   obtain⟨a',xs',e,q',r'⟩:=h'
   cases e
   obtain⟨o1,q⟩:=q
   obtain⟨o2,q'⟩:=q'
   have:=q.symm.trans q'
   cases this
theorem RDs.inj (I:Inv X pins σ H s):∀ {ds ds':List D} {vs:List V},RDs X.K H no ds vs→RDs X.K H no ds' vs→ds=ds'
 | [],[],_,_,_=>rfl
 | [],_::_,_,h,h'=>by
  rw[RDs] at h;subst h
  obtain⟨_,_,e,_⟩:=h';cases e
 | _::_,[],_,h,h'=>by
  rw[RDs] at h';subst h'
  obtain⟨_,_,e,_⟩:=h;cases e
 | d::ds,d'::ds',vs,h,h'=>by
  obtain⟨v,r,rfl,h1,h2⟩:=h
  obtain⟨v',r',e,h1',h2'⟩:=h'
  cases e
  rw[RD.inj I h1 h1',RDs.inj I h2 h2']
theorem RDk.inj (I:Inv X pins σ H s):∀ {ds ds':List (Sum Int Str×D)} {vs:List (Key×V)},RDk X.K H no ds vs→RDk X.K H no ds' vs→ds=ds'
 | [],[],_,_,_=>rfl
 | [],_::_,_,h,h'=>by
  rw[RDk] at h;subst h
  obtain⟨_,_,e,_⟩:=h';cases e
 | _::_,[],_,h,h'=>by
  rw[RDk] at h';subst h'
  obtain⟨_,_,e,_⟩:=h;cases e
 | (k,d)::ds,(k',d')::ds',vs,h,h'=>by
  obtain⟨v,r,rfl,h1,h2⟩:=h
  obtain⟨v',r',e,h1',h2'⟩:=h'
  cases e
  rw[RD.inj I h1 h1',RDk.inj I h2 h2']
theorem RDt.inj (I:Inv X pins σ H s):∀ {ds ds':List (List (Sum Int Str)×D)} {vs:List (List Key×V)},RDt X.K H no ds vs→RDt X.K H no ds' vs→ds=ds'
 | [],[],_,_,_=>rfl
 | [],_::_,_,h,h'=>by
  rw[RDt] at h;subst h
  obtain⟨_,_,e,_⟩:=h';cases e
 | _::_,[],_,h,h'=>by
  rw[RDt] at h';subst h'
  obtain⟨_,_,e,_⟩:=h;cases e
 | (k,d)::ds,(k',d')::ds',vs,h,h'=>by
  obtain⟨v,r,rfl,h1,h2⟩:=h
  obtain⟨v',r',e,h1',h2'⟩:=h'
  cases e
  rw[RD.inj I h1 h1',RDt.inj I h2 h2']
end
noncomputable def pairEq (xs ys:List D) (j:Nat):Bool:=match xs[j]?,ys[j]? with
 | some x,some y=>D.eqb x y
 | _,_=>false
theorem pairEq_succ (x y:D) (xs ys:List D) (j:Nat):pairEq (x::xs) (y::ys) (j+1)=pairEq xs ys j:=by simp[pairEq]
theorem eqs_all:∀xs ys:List D,xs.length=ys.length→(List.range xs.length).all (pairEq xs ys)=D.eqs xs ys
 | [],[],_=>by simp[D.eqs]
 | [],_::_,h=>by simp at h
 | _::_,[],h=>by simp at h
 | x::xs,y::ys,h=>by
  rw[List.length_cons,List.range_succ_eq_map,List.all_cons,List.all_map,D.eqs,←eqs_all xs ys (by simpa using h)]
  congr 1
theorem eqs_len:∀xs ys:List D,xs.length≠ys.length→D.eqs xs ys=false
 | [],[],h=>by simp at h
 | [],_::_,_=>by simp[D.eqs]
 | _::_,[],_=>by simp[D.eqs]
 | x::xs,y::ys,h=>by rw[D.eqs,eqs_len xs ys (by simpa using h),Bool.and_false]
theorem min_len {xs ys:List D}:((List.range (min xs.length ys.length)).all (pairEq xs ys)&&xs.length==ys.length)=D.eqs xs ys:=by
 by_cases h:xs.length=ys.length
 ·rw[←eqs_all xs ys h,h,Nat.min_self];simp
 ·rw[eqs_len xs ys h];simp[h]
class Fr1 (u:HO):Prop where
 no:∀o v,u≠.frz o v
noncomputable instance {ps:List (Key×V)}:Fr1 (.dK ps):=⟨λo v z=>by cases z⟩
noncomputable instance {ps:List (List Key×V)}:Fr1 (.dT ps):=⟨λo v z=>by cases z⟩
inductive Sees (X:Cx) (H:Hp) (s:Shared):D→Value→Prop
 | non:Sees X H s .non .none
 | bl (b):Sees X H s (.bl b) (.bool b)
 | int (i t):Sees X H s (.int i) (.int i t)
 | str (x t):Sees X H s (.str x) (.str x t)
 | tup (ds:List D) (a:Addr) (xs:List V) (its:List Value):SqT X.K H a xs→RDs X.K H no ds xs→Vals xs its→IsTup s.heap a its.toArray→Sees X H s (.tup ds) (.ref a)
 | lst (ds:List D) (a:Addr) (xs:List V) (its:List Value):SqL X.K H a xs→RDs X.K H no ds xs→Vals xs its→PlainL s.heap a its.toArray→Sees X H s (.lst ds) (.ref a)
 | dct (ds:List (Sum Int Str×D)) (a:Addr) (ps:List (Key×V)):Rd H a (.dK ps)→RDk X.K H no ds ps→Sees X H s (.dct ds) (.ref a)
 | tdc (ds:List (List (Sum Int Str)×D)) (a:Addr) (ps:List (List Key×V)):Rd H a (.dT ps)→RDt X.K H no ds ps→Sees X H s (.tdc ds) (.ref a)
theorem sees (I:Inv X pins σ H s) {d:D} {v:V} {u:Value} (h:RD X.K H no d v) (r:RelV v u):Sees X H s d u:=by
 cases d with
 | non=>cases (show v=.non from h);cases r;exact .non
 | bl b=>cases (show v=.bl b from h);cases r;exact .bl b
 | int i=>cases (show v=.int i from h);obtain⟨t,rfl⟩:=r;exact .int i t
 | str x=>cases (show v=.str x from h);obtain⟨t,rfl⟩:=r;exact .str x t
 | tup ds =>
  obtain⟨a,xs,rfl,q,w⟩:=h
  cases r
  obtain⟨its,r1,p1,_⟩:=I.tuple q.sq
  exact .tup ds a xs its q.sq w r1 p1
 | lst ds =>
  obtain⟨a,xs,rfl,q,w⟩:=RD.sql h
  cases r
  obtain⟨its,r1,p1,_⟩:=I.list q
  exact .lst ds a xs its q w r1 p1
 | dct ds =>
  obtain⟨a,ps,rfl,q,w⟩:=h
  cases r
  exact .dct ds a ps (.inr q) w
 | tdc ds =>
  obtain⟨a,ps,rfl,q,w⟩:=h
  cases r
  exact .tdc ds a ps (.inr q) w
theorem seesR (I:Inv X pins σ H s) {O:Addr→Prop} {d:D} {v:V} {u:Value} (h:RR X.K H O d v) (r:RelV v u):Sees X H s d u:=by
 have w:∀ {a:Addr},no a→O a:=λz=>z.elim
 rcases h with h | ⟨a,rfl,h⟩
 ·exact sees I (h.weak λ_ z=>z.elim) r
 ·cases r
  cases d with
  | lst ds=>exact sees I (OwnAt.rd (O:=no) (λz=>z) rfl (h.weak λ_ z=>z.elim)) rfl
  | dct ds =>
   obtain⟨ps,h1,h2⟩:=h
   exact .dct ds a ps (.inl h1) (h2.weak λ_ z=>z.elim)
  | tdc ds =>
   obtain⟨ps,h1,h2⟩:=h
   exact .tdc ds a ps (.inl h1) (h2.weak λ_ z=>z.elim)
  | _=>exact h.elim
theorem rd_one {a:Addr} {u u':HO} [Fr1 u] [Fr1 u'] (h:Rd H a u) (h':Rd H a u'):u=u':=by
 rcases h with h | ⟨o,h⟩
 ·rcases h' with h' | ⟨o',h'⟩
  ·exact Option.some.inj (h.symm.trans h')
  ·have e:=Option.some.inj (h.symm.trans h')
   exact (Fr1.no (u:=u) o' u' e).elim
 ·rcases h' with h' | ⟨o',h'⟩
  ·have e:=Option.some.inj (h'.symm.trans h)
   exact (Fr1.no (u:=u') o u e).elim
  ·have e:=Option.some.inj (h.symm.trans h')
   cases e;rfl
theorem rds_at {ds:List D} {xs:List V} {its:List Value} (w:RDs X.K H no ds xs) (r:Vals xs its):its.length=ds.length:=by rw[←r.length,w.length]
noncomputable def EqItems (X:Cx) (H:Hp) (s:Shared) (n:Nat):Prop:=∀(ds1 ds2:List D) (A:Around) (us1 us2:List Value) (xs1 xs2:List V),RDs X.K H no ds1 xs1→Vals xs1 us1→RDs X.K H no ds2 xs2→Vals xs2 us2→D.pls n ds1=true→D.pls n ds2=true→A.units+n < cLine →
 ∀j (h1:j < us1.length) (h2:j < us2.length),SeqAt.EqAt A.in1 s us1[j] us2[j] (pairEq ds1 ds2 j)
noncomputable def EqData (X:Cx) (H:Hp) (s:Shared) (n:Nat):Prop:=∀(d1 d2:D) (A:Around) (u1 u2:Value),Sees X H s d1 u1→Sees X H s d2 u2→D.pl n d1=true→D.pl n d2=true→A.units+n < cLine→SeqAt.EqAt A s u1 u2 (D.eqb d1 d2)
theorem eqData_of (I:Inv X pins σ H s) {n:Nat} (it:EqItems X H s n):EqData X H s n:=by
 intro d1 d2 A u1 u2 h1 h2 f1 f2 hu
 have hu':A.units < cLine:=by lia
 have nd2:∀ds,d2≠.dct ds:=λds z=>by rw[z,D.pl] at f2;cases f2
 have nt2:∀ds,d2≠.tdc ds:=λds z=>by rw[z,D.pl] at f2;cases f2
 cases h1 with
 | dct ds a ps q w=>rw[D.pl] at f1;cases f1
 | tdc ds a ps q w=>rw[D.pl] at f1;cases f1
 | non=>cases h2 with
  | non=>exact SeqAt.EqAt.same _
  | bl b=>exact SeqAt.EqAt.none_bool b
  | int b t=>exact SeqAt.EqAt.none_int b t
  | str b t=>exact SeqAt.EqAt.none_str b t
  | tup ds a xs its q w r p=>exact SeqAt.EqAt.none_tuple p hu'
  | lst ds a xs its q w r p=>exact SeqAt.EqAt.none_list p.isList hu'
  | dct ds a ps q w=>exact absurd rfl (nd2 ds)
  | tdc ds a ps q w=>exact absurd rfl (nt2 ds)
 | bl x=>cases h2 with
  | non=>exact SeqAt.EqAt.bool_none x
  | bl b=>exact SeqAt.EqAt.bool_bool x b
  | int b t=>exact SeqAt.EqAt.bool_int x b t
  | str b t=>exact SeqAt.EqAt.bool_str x b t
  | tup ds a xs its q w r p=>exact SeqAt.EqAt.bool_tuple x p hu'
  | lst ds a xs its q w r p=>exact SeqAt.EqAt.bool_list x p.isList hu'
  | dct ds a ps q w=>exact absurd rfl (nd2 ds)
  | tdc ds a ps q w=>exact absurd rfl (nt2 ds)
 | int x t'=>cases h2 with
  | non=>exact SeqAt.EqAt.int_none x t'
  | bl b=>exact SeqAt.EqAt.int_bool x t' b
  | int b t=>exact SeqAt.EqAt.int_int x t' b t
  | str b t=>exact SeqAt.EqAt.int_str x t' b t
  | tup ds a xs its q w r p=>exact SeqAt.EqAt.int_tuple x t' p hu'
  | lst ds a xs its q w r p=>exact SeqAt.EqAt.int_list x t' p.isList hu'
  | dct ds a ps q w=>exact absurd rfl (nd2 ds)
  | tdc ds a ps q w=>exact absurd rfl (nt2 ds)
 | str x t'=>cases h2 with
  | non=>exact SeqAt.EqAt.str_none x t'
  | bl b=>exact SeqAt.EqAt.str_bool x t' b
  | int b t=>exact SeqAt.EqAt.str_int x t' b t
  | str b t=>exact SeqAt.EqAt.str_str x t' b t
  | tup ds a xs its q w r p=>exact SeqAt.EqAt.str_tuple x t' p hu'
  | lst ds a xs its q w r p=>exact SeqAt.EqAt.str_list x t' p.isList hu'
  | dct ds a ps q w=>exact absurd rfl (nd2 ds)
  | tdc ds a ps q w=>exact absurd rfl (nt2 ds)
 | tup ds1 a1 xs1 its1 q1 w1 r1 p1=>cases h2 with
  | non=>exact SeqAt.EqAt.tuple_none p1 hu'
  | bl b=>exact SeqAt.EqAt.tuple_bool b p1 hu'
  | int b t=>exact SeqAt.EqAt.tuple_int b t p1 hu'
  | str b t=>exact SeqAt.EqAt.tuple_str b t p1 hu'
  | lst ds a xs its q w r p=>exact SeqAt.EqAt.tuple_list p1 p.isList hu'
  | dct ds a ps q w=>exact absurd rfl (nd2 ds)
  | tdc ds a ps q w=>exact absurd rfl (nt2 ds)
  | tup ds2 a2 xs2 its2 q2 w2 r2 p2 =>
   by_cases ha:a1=a2
   ·subst ha
    have:=I.tuple_inj q1 q2
    subst this
    have:=RDs.inj I w1 w2
    subst this
    rw[D.eqb_refl n _ f1]
    exact SeqAt.EqAt.same _
   ·rw[D.eqb,←min_len,←rds_at w1 r1,←rds_at w2 r2]
    have z:=SeqAt.EqAt.of_refs ha (SeqAt.RcAt.tuples (A:=A) (e:=pairEq ds1 ds2) p1 p2 hu' λj j1 j2=>by
     have:=it ds1 ds2 A its1 its2 xs1 xs2 w1 r1 w2 r2 (by rw[D.pl] at f1;exact f1) (by rw[D.pl] at f2;exact f2) hu j (by simpa using j1) (by simpa using j2)
     simpa using this)
    simpa using z
 | lst ds1 a1 xs1 its1 q1 w1 r1 p1=>cases h2 with
  | non=>exact SeqAt.EqAt.list_none p1.isList hu'
  | bl b=>exact SeqAt.EqAt.list_bool b p1.isList hu'
  | int b t=>exact SeqAt.EqAt.list_int b t p1.isList hu'
  | str b t=>exact SeqAt.EqAt.list_str b t p1.isList hu'
  | tup ds a xs its q w r p=>exact SeqAt.EqAt.list_tuple p1.isList p hu'
  | dct ds a ps q w=>exact absurd rfl (nd2 ds)
  | tdc ds a ps q w=>exact absurd rfl (nt2 ds)
  | lst ds2 a2 xs2 its2 q2 w2 r2 p2 =>
   by_cases ha:a1=a2
   ·subst ha
    have:=I.list_inj q1 q2
    subst this
    have:=RDs.inj I w1 w2
    subst this
    rw[D.eqb_refl n _ f1]
    exact SeqAt.EqAt.same _
   ·have l1:=rds_at w1 r1
    have l2:=rds_at w2 r2
    rw[D.eqb]
    by_cases hl:ds1.length=ds2.length
    ·rw[←eqs_all ds1 ds2 hl,←l1]
     have z:=SeqAt.EqAt.of_refs ha (SeqAt.RcAt.lists (A:=A) (e:=pairEq ds1 ds2) p1.isList p2.isList (by simp only[List.size_toArray];lia) hu' λj j1 j2=>by
      have:=it ds1 ds2 A its1 its2 xs1 xs2 w1 r1 w2 r2 (by rw[D.pl] at f1;exact f1) (by rw[D.pl] at f2;exact f2) hu j (by simpa using j1) (by simpa using j2)
      simpa using this)
     simpa using z
    ·rw[eqs_len ds1 ds2 hl]
     exact SeqAt.EqAt.of_refs ha (SeqAt.RcAt.lists_lengths p1.isList p2.isList (by simp only[List.size_toArray,bne_iff_ne,ne_eq];lia) hu')
theorem eqItems_zero:EqItems X H s 0:=by
 intro ds1 ds2 A us1 us2 xs1 xs2 w1 r1 w2 r2 f1 f2 hu j h1 h2
 cases ds1 with
 | nil =>
  rw[RDs] at w1;subst w1
  cases r1
  exact absurd h1 (Nat.not_lt_zero _)
 | cons d ds=>rw[D.pls] at f1;cases f1
theorem eqItems_succ (I:Inv X pins σ H s) {n:Nat} (ih:EqData X H s n):EqItems X H s (n+1):=by
 intro ds1
 induction ds1 with
 | nil =>
  intro ds2 A us1 us2 xs1 xs2 w1 r1 w2 r2 f1 f2 hu j h1 h2
  rw[RDs] at w1;subst w1
  cases r1
  exact absurd h1 (Nat.not_lt_zero _)
 | cons d1 ds1 ih2 =>
  intro ds2 A us1 us2 xs1 xs2 w1 r1 w2 r2 f1 f2 hu j h1 h2
  cases ds2 with
  | nil =>
   rw[RDs] at w2;subst w2
   cases r2
   exact absurd h2 (Nat.not_lt_zero _)
  | cons d2 ds2 =>
   obtain⟨v1,y1,rfl,e1,w1⟩:=w1
   obtain⟨v2,y2,rfl,e2,w2⟩:=w2
   cases r1 with
   | cons a1 r1 =>
    cases r2 with
    | cons a2 r2 =>
     rw[D.pls,Bool.and_eq_true] at f1 f2
     cases j with
     | zero=>exact ih d1 d2 A.in1 _ _ (sees I e1 a1) (sees I e2 a2) f1.1 f2.1 (by show A.units+1+n < cLine;lia)
     | succ j =>
      rw[pairEq_succ]
      exact ih2 ds2 A _ _ _ _ w1 r1 w2 r2 f1.2 f2.2 hu j (Nat.lt_of_succ_lt_succ h1) (Nat.lt_of_succ_lt_succ h2)
theorem eqItems (I:Inv X pins σ H s):∀n,EqItems X H s n
 | 0=>eqItems_zero
 | n+1=>eqItems_succ I (eqData_of I (eqItems I n))
theorem eqAt_D (I:Inv X pins σ H s) (n:Nat):EqData X H s n:=eqData_of I (eqItems I n)
theorem eqAt_Ds (I:Inv X pins σ H s) (n:Nat):EqItems X H s n:=eqItems I n
end
theorem same_upd {H:Hp} {p:Addr} (h:H p=none) (o:HO):Same H (upd H p o):=λb u q=>by rw[upd_ne (ne_of_none q h)];exact q
section
variable {K:PySem.W.Frag} {H:Hp} {O:Addr→Prop} {p:Addr} {ds:List D} {xs:List V}
theorem new_lst (w:RDs K H O ds xs) (hp:H p=none) (tr:∀a,O a→∃o,H a=some o):RD K (upd H p (.lst xs)) O (.lst ds) (.ref p)∧NewL K H (upd H p (.lst xs)) O (.lst ds) (.ref p):=by
 have nO:¬O p:=λz=>by
  obtain⟨o,q⟩:=tr p z
  rw[hp] at q;cases q
 exact⟨⟨p,xs,rfl,.inl ⟨nO,.inl upd_same⟩,w.same (same_upd hp _)⟩,λ_=>⟨p,rfl,hp,xs,upd_same,(w.new hp).same (same_upd hp _)⟩⟩
theorem new_dct {ds:List (Sum Int Str×D)} {ps:List (Key×V)} (w:RDk K H O ds ps) (hp:H p=none):OwnAt K (upd H p (.dK ps)) (plus O p) p (.dct ds):=⟨ps,upd_same,(w.new hp).same (same_upd hp _)⟩
theorem new_tdc {ds:List (List (Sum Int Str)×D)} {ps:List (List Key×V)} (w:RDt K H O ds ps) (hp:H p=none):OwnAt K (upd H p (.dT ps)) (plus O p) p (.tdc ds):=⟨ps,upd_same,(w.new hp).same (same_upd hp _)⟩
theorem new_tup (w:RDs K H O ds xs) (hp:H p=none):RD K (upd H p (.tup xs)) O (.tup ds) (.ref p):=⟨p,xs,rfl,.inl upd_same,w.same (same_upd hp _)⟩
end
section
variable {X:Cx} {pins:List (Addr×Obj)} {σ:L2.St} {H:Hp} {s:Shared}
theorem rcAt_D (I:Inv X pins σ H s) {n:Nat} {d1 d2:D} {A:Around} {u1 u2:Value} (h1:Sees X H s d1 u1) (h2:Sees X H s d2 u2) (f1:D.pl n d1=true) (f2:D.pl n d2=true) (hu:A.units+n < cLine):SeqAt.RcAt A s u1 u2 (D.eqb d1 d2):=by
 have hu':A.units < cLine:=by lia
 have nd2:∀ds,d2≠.dct ds:=λds z=>by rw[z,D.pl] at f2;cases f2
 have nt2:∀ds,d2≠.tdc ds:=λds z=>by rw[z,D.pl] at f2;cases f2
 cases h1 with
 | dct ds a ps q w=>rw[D.pl] at f1;cases f1
 | tdc ds a ps q w=>rw[D.pl] at f1;cases f1
 | non=>cases h2 with
  | non=>exact SeqAt.RcAt.none_none
  | bl b=>exact SeqAt.RcAt.none_bool b
  | int b t=>exact SeqAt.RcAt.none_int b t
  | str b t=>exact SeqAt.RcAt.none_str b t
  | tup ds a xs its q w r p=>exact SeqAt.RcAt.none_tuple p hu'
  | lst ds a xs its q w r p=>exact SeqAt.RcAt.none_list p.isList hu'
  | dct ds a ps q w=>exact absurd rfl (nd2 ds)
  | tdc ds a ps q w=>exact absurd rfl (nt2 ds)
 | bl x=>cases h2 with
  | non=>exact SeqAt.RcAt.bool_none x
  | bl b=>exact SeqAt.RcAt.bool_bool x b
  | int b t=>exact SeqAt.RcAt.bool_int x b t
  | str b t=>exact SeqAt.RcAt.bool_str x b t
  | tup ds a xs its q w r p=>exact SeqAt.RcAt.bool_tuple x p hu'
  | lst ds a xs its q w r p=>exact SeqAt.RcAt.bool_list x p.isList hu'
  | dct ds a ps q w=>exact absurd rfl (nd2 ds)
  | tdc ds a ps q w=>exact absurd rfl (nt2 ds)
 | int x t'=>cases h2 with
  | non=>exact SeqAt.RcAt.int_none x t'
  | bl b=>exact SeqAt.RcAt.int_bool x t' b
  | int b t=>exact SeqAt.RcAt.int_int x t' b t
  | str b t=>exact SeqAt.RcAt.int_str x t' b t
  | tup ds a xs its q w r p=>exact SeqAt.RcAt.int_tuple x t' p hu'
  | lst ds a xs its q w r p=>exact SeqAt.RcAt.int_list x t' p.isList hu'
  | dct ds a ps q w=>exact absurd rfl (nd2 ds)
  | tdc ds a ps q w=>exact absurd rfl (nt2 ds)
 | str x t'=>cases h2 with
  | non=>exact SeqAt.RcAt.str_none x t'
  | bl b=>exact SeqAt.RcAt.str_bool x t' b
  | int b t=>exact SeqAt.RcAt.str_int x t' b t
  | str b t=>exact SeqAt.RcAt.str_str x t' b t
  | tup ds a xs its q w r p=>exact SeqAt.RcAt.str_tuple x t' p hu'
  | lst ds a xs its q w r p=>exact SeqAt.RcAt.str_list x t' p.isList hu'
  | dct ds a ps q w=>exact absurd rfl (nd2 ds)
  | tdc ds a ps q w=>exact absurd rfl (nt2 ds)
 | tup ds1 a1 xs1 its1 q1 w1 r1 p1=>cases h2 with
  | non=>exact SeqAt.RcAt.tuple_none p1 hu'
  | bl b=>exact SeqAt.RcAt.tuple_bool b p1 hu'
  | int b t=>exact SeqAt.RcAt.tuple_int b t p1 hu'
  | str b t=>exact SeqAt.RcAt.tuple_str b t p1 hu'
  | lst ds a xs its q w r p=>exact SeqAt.RcAt.tuple_list p1 p.isList hu'
  | dct ds a ps q w=>exact absurd rfl (nd2 ds)
  | tdc ds a ps q w=>exact absurd rfl (nt2 ds)
  | tup ds2 a2 xs2 its2 q2 w2 r2 p2 =>
   rw[D.eqb,←min_len,←rds_at w1 r1,←rds_at w2 r2]
   have z:=SeqAt.RcAt.tuples (A:=A) (e:=pairEq ds1 ds2) p1 p2 hu' λj j1 j2=>by
    have:=eqAt_Ds I n ds1 ds2 A its1 its2 xs1 xs2 w1 r1 w2 r2 (by rw[D.pl] at f1;exact f1) (by rw[D.pl] at f2;exact f2) hu j (by simpa using j1) (by simpa using j2)
    simpa using this
   simpa using z
 | lst ds1 a1 xs1 its1 q1 w1 r1 p1=>cases h2 with
  | non=>exact SeqAt.RcAt.list_none p1.isList hu'
  | bl b=>exact SeqAt.RcAt.list_bool b p1.isList hu'
  | int b t=>exact SeqAt.RcAt.list_int b t p1.isList hu'
  | str b t=>exact SeqAt.RcAt.list_str b t p1.isList hu'
  | tup ds a xs its q w r p=>exact SeqAt.RcAt.list_tuple p1.isList p hu'
  | dct ds a ps q w=>exact absurd rfl (nd2 ds)
  | tdc ds a ps q w=>exact absurd rfl (nt2 ds)
  | lst ds2 a2 xs2 its2 q2 w2 r2 p2 =>
   have l1:=rds_at w1 r1
   have l2:=rds_at w2 r2
   rw[D.eqb]
   by_cases hl:ds1.length=ds2.length
   ·rw[←eqs_all ds1 ds2 hl,←l1]
    have z:=SeqAt.RcAt.lists (A:=A) (e:=pairEq ds1 ds2) p1.isList p2.isList (by simp only[List.size_toArray];lia) hu' λj j1 j2=>by
     have:=eqAt_Ds I n ds1 ds2 A its1 its2 xs1 xs2 w1 r1 w2 r2 (by rw[D.pl] at f1;exact f1) (by rw[D.pl] at f2;exact f2) hu j (by simpa using j1) (by simpa using j2)
     simpa using this
    simpa using z
   ·rw[eqs_len ds1 ds2 hl]
    exact SeqAt.RcAt.lists_lengths p1.isList p2.isList (by simp only[List.size_toArray,bne_iff_ne,ne_eq];lia) hu'
theorem rcNeAt_D (I:Inv X pins σ H s) {n:Nat} {d1 d2:D} {A:Around} {u1 u2:Value} (h1:Sees X H s d1 u1) (h2:Sees X H s d2 u2) (f1:D.pl n d1=true) (f2:D.pl n d2=true) (hu:A.units+n < cLine):SeqAt.RcNeAt A s u1 u2 (!D.eqb d1 d2):=by
 have hu':A.units < cLine:=by lia
 have nd2:∀ds,d2≠.dct ds:=λds z=>by rw[z,D.pl] at f2;cases f2
 have nt2:∀ds,d2≠.tdc ds:=λds z=>by rw[z,D.pl] at f2;cases f2
 cases h1 with
 | dct ds a ps q w=>rw[D.pl] at f1;cases f1
 | tdc ds a ps q w=>rw[D.pl] at f1;cases f1
 | non=>cases h2 with
  | non=>exact SeqAt.RcNeAt.none_none
  | bl b=>exact SeqAt.RcNeAt.none_bool b
  | int b t=>exact SeqAt.RcNeAt.none_int b t
  | str b t=>exact SeqAt.RcNeAt.none_str b t
  | tup ds a xs its q w r p=>exact SeqAt.RcNeAt.none_tuple p hu'
  | lst ds a xs its q w r p=>exact SeqAt.RcNeAt.none_list p.isList hu'
  | dct ds a ps q w=>exact absurd rfl (nd2 ds)
  | tdc ds a ps q w=>exact absurd rfl (nt2 ds)
 | bl x=>cases h2 with
  | non=>exact SeqAt.RcNeAt.bool_none x
  | bl b=>exact SeqAt.RcNeAt.bool_bool x b
  | int b t=>exact SeqAt.RcNeAt.bool_int x b t
  | str b t=>exact SeqAt.RcNeAt.bool_str x b t
  | tup ds a xs its q w r p=>exact SeqAt.RcNeAt.bool_tuple x p hu'
  | lst ds a xs its q w r p=>exact SeqAt.RcNeAt.bool_list x p.isList hu'
  | dct ds a ps q w=>exact absurd rfl (nd2 ds)
  | tdc ds a ps q w=>exact absurd rfl (nt2 ds)
 | int x t'=>cases h2 with
  | non=>exact SeqAt.RcNeAt.int_none x t'
  | bl b=>exact SeqAt.RcNeAt.int_bool x t' b
  | int b t=>exact SeqAt.RcNeAt.int_int x t' b t
  | str b t=>exact SeqAt.RcNeAt.int_str x t' b t
  | tup ds a xs its q w r p=>exact SeqAt.RcNeAt.int_tuple x t' p hu'
  | lst ds a xs its q w r p=>exact SeqAt.RcNeAt.int_list x t' p.isList hu'
  | dct ds a ps q w=>exact absurd rfl (nd2 ds)
  | tdc ds a ps q w=>exact absurd rfl (nt2 ds)
 | str x t'=>cases h2 with
  | non=>exact SeqAt.RcNeAt.str_none x t'
  | bl b=>exact SeqAt.RcNeAt.str_bool x t' b
  | int b t=>exact SeqAt.RcNeAt.str_int x t' b t
  | str b t=>exact SeqAt.RcNeAt.str_str x t' b t
  | tup ds a xs its q w r p=>exact SeqAt.RcNeAt.str_tuple x t' p hu'
  | lst ds a xs its q w r p=>exact SeqAt.RcNeAt.str_list x t' p.isList hu'
  | dct ds a ps q w=>exact absurd rfl (nd2 ds)
  | tdc ds a ps q w=>exact absurd rfl (nt2 ds)
 | tup ds1 a1 xs1 its1 q1 w1 r1 p1=>cases h2 with
  | non=>exact SeqAt.RcNeAt.tuple_none p1 hu'
  | bl b=>exact SeqAt.RcNeAt.tuple_bool b p1 hu'
  | int b t=>exact SeqAt.RcNeAt.tuple_int b t p1 hu'
  | str b t=>exact SeqAt.RcNeAt.tuple_str b t p1 hu'
  | lst ds a xs its q w r p=>exact SeqAt.RcNeAt.tuple_list p1 p.isList hu'
  | dct ds a ps q w=>exact absurd rfl (nd2 ds)
  | tdc ds a ps q w=>exact absurd rfl (nt2 ds)
  | tup ds2 a2 xs2 its2 q2 w2 r2 p2 =>
   rw[D.eqb,←min_len,←rds_at w1 r1,←rds_at w2 r2]
   have z:=SeqAt.RcNeAt.tuples (A:=A) (e:=pairEq ds1 ds2) p1 p2 hu' λj j1 j2=>by
    have:=eqAt_Ds I n ds1 ds2 A its1 its2 xs1 xs2 w1 r1 w2 r2 (by rw[D.pl] at f1;exact f1) (by rw[D.pl] at f2;exact f2) hu j (by simpa using j1) (by simpa using j2)
    simpa using this
   simpa using z
 | lst ds1 a1 xs1 its1 q1 w1 r1 p1=>cases h2 with
  | non=>exact SeqAt.RcNeAt.list_none p1.isList hu'
  | bl b=>exact SeqAt.RcNeAt.list_bool b p1.isList hu'
  | int b t=>exact SeqAt.RcNeAt.list_int b t p1.isList hu'
  | str b t=>exact SeqAt.RcNeAt.list_str b t p1.isList hu'
  | tup ds a xs its q w r p=>exact SeqAt.RcNeAt.list_tuple p1.isList p hu'
  | dct ds a ps q w=>exact absurd rfl (nd2 ds)
  | tdc ds a ps q w=>exact absurd rfl (nt2 ds)
  | lst ds2 a2 xs2 its2 q2 w2 r2 p2 =>
   have l1:=rds_at w1 r1
   have l2:=rds_at w2 r2
   rw[D.eqb]
   by_cases hl:ds1.length=ds2.length
   ·rw[←eqs_all ds1 ds2 hl,←l1]
    have z:=SeqAt.RcNeAt.lists (A:=A) (e:=pairEq ds1 ds2) p1.isList p2.isList (by simp only[List.size_toArray];lia) hu' λj j1 j2=>by
     have:=eqAt_Ds I n ds1 ds2 A its1 its2 xs1 xs2 w1 r1 w2 r2 (by rw[D.pl] at f1;exact f1) (by rw[D.pl] at f2;exact f2) hu j (by simpa using j1) (by simpa using j2)
     simpa using this
    simpa using z
   ·rw[eqs_len ds1 ds2 hl]
    exact SeqAt.RcNeAt.lists_lengths p1.isList p2.isList (by simp only[List.size_toArray,bne_iff_ne,ne_eq];lia) hu'
end
section
variable {X:Cx}
theorem big_line:big=sizeLine:=by rw[sizeLine_eq];rfl
theorem op_catS:OpR X (binaryOp .Add) (λx y H Q=>∃l b xs zs,x=.ref l∧y=.ref b∧SqL X.K H l xs∧SqL X.K H b zs∧xs.length+zs.length≤sizeLine∧∀p,H p=none→Q (.ref p) (upd H p (.lst (xs++zs)))):=by
 intro pins s σ H x y v u Q I rx ry h
 obtain⟨l,b,xs,zs,rfl,rfl,hH,hB,hz,q⟩:=h
 cases rx
 cases ry
 obtain⟨its,r,pl,z⟩:=I.list hH
 obtain⟨its2,r2,pl2,z2⟩:=I.list hB
 have hl:=r.length
 have hl2:=r2.length
 obtain⟨⟨cls,dd,data,sl⟩,ho,hc,n,hd⟩:=pl.isList
 obtain⟨⟨cls2,dd2,data2,sl2⟩,ho2,hc2,n2,hd2⟩:=pl2.isList
 simp only at hc hd hc2 hd2
 subst hc hd hc2 hd2
 have ea:its.toArray++its2.toArray=(its++its2).toArray:=by simp
 refine concat_meets ⟨_,ho,rfl⟩ ⟨_,ho2,rfl⟩ noFill_list_add seq_list_add PySem.F.slot_list_add PySem.F.entry_list_add (PySem.F.args_list_add_2 _ _) (list_addW l b its.toArray its2.toArray n n2 dd dd2 sl sl2 (by simp only[List.size_toArray];lia)) ⟨ho,ho2,?_⟩
 rw[ea]
 exact⟨.ref _,_,I.lnew (t':=s.toks) (r.append r2) (by rw[List.length_append];lia),rfl,q _ I.fresh⟩
theorem op_catT0:OpR X (binaryOp .Add) (λx y H Q=>∃a b xs ys,x=.ref a∧y=.ref b∧SqT X.K H a xs∧SqT X.K H b ys∧xs.length+ys.length≤sizeLine ∧
 (xs=[]→Q (.ref b) H)∧(ys=[]→Q (.ref a) H)∧∀p,H p=none→Q (.ref p) (upd H p (.tup (xs++ys)))):=by
 intro pins s σ H x y v u Q I rx ry h
 obtain⟨a,b,xs,ys,rfl,rfl,ha,hb,hz,q0,q1,q2⟩:=h
 by_cases hx:xs=[]
 ·cases rx
  cases ry
  obtain⟨its,r1,p1,_⟩:=I.tuple ha
  obtain⟨its2,r2,p2,_⟩:=I.tuple hb
  obtain⟨⟨cls,dd,data,sl⟩,ho,hc,n,hd⟩:=id p1
  obtain⟨⟨cls2,dd2,data2,sl2⟩,ho2,hc2,n2,hd2⟩:=id p2
  simp only at hc hd hc2 hd2
  subst hc hd hc2 hd2
  have hv:its=[]:=r1.nil_iff.mpr hx
  exact concat_meets ⟨_,ho,rfl⟩ ⟨_,ho2,rfl⟩ noFill_tuple_add seq_tuple_add PySem.F.slot_tuple_add PySem.F.entry_tuple_add (PySem.F.args_tuple_add_2 _ _)
   (tuple_addW0 a b its.toArray its2.toArray n n2 dd dd2 sl sl2 (by simp[hv])) ⟨ho,ho2,⟨.ref b,H,I,rfl,q0 hx⟩⟩
 ·exact op_catT pins s σ H _ _ v u Q I rx ry ⟨a,b,xs,ys,rfl,rfl,ha,hb,hx,hz,q1,λ_=>q2⟩
end
section
variable {X:Cx}
noncomputable def Roomy (X:Cx):Prop:=X.A.units+64 < cLine
theorem RDs.rep {K:PySem.W.Frag} {H:Hp} {O:Addr→Prop} {ds:List D} {vs:List V} (h:RDs K H O ds vs):∀n:Nat,RDs K H O (List.replicate n ds).flatten (List.replicate n vs).flatten
 | 0=>rfl
 | n+1=>by
  rw[List.replicate_succ,List.replicate_succ,List.flatten_cons,List.flatten_cons]
  exact RDs.append h (RDs.rep h n)
theorem opr_bin (o:Operator) (fr:Bool) (hfr:fr=true→o=.Add):OpR X (binaryOp o) (rD2 X.K (D.bin o) fr):=by
 intro pins s σ H x y v u Q I rx ry h
 obtain⟨O,d1,d2,d,r1,r2,ev,tr,k⟩:=h
 have kk:∀w,d.still=true→RD X.K H O d w→Q w H:=λw n r=>k w H (Same.refl H) r λ_=>NewL.still n
 unfold D.bin at ev
 split at ev
 ·cases ev
  cases (show x=_ from r1.rd rfl)
  cases (show y=_ from r2.rd rfl)
  exact op_add pins s σ H _ _ v u Q I rx ry ⟨_,_,rfl,rfl,kk _ rfl rfl⟩
 ·obtain⟨c,ev⟩:=when_ok ev
  cases ev
  cases (show x=_ from r1.rd rfl)
  cases (show y=_ from r2.rd rfl)
  exact op_add_str pins s σ H _ _ v u Q I rx ry ⟨_,_,rfl,rfl,by rw[←big_line];exact of_decide_eq_true c,kk _ rfl rfl⟩
 ·obtain⟨c,ev⟩:=when_ok ev
  cases ev
  obtain⟨a1,xs1,rfl,q1,w1⟩:=r1.lst
  obtain⟨a2,xs2,rfl,q2,w2⟩:=r2.lst
  refine op_catS pins s σ H _ _ v u Q I rx ry ⟨a1,a2,xs1,xs2,rfl,rfl,q1,q2,by rw[←big_line,w1.length,w2.length];exact of_decide_eq_true c,λp hp=>?_⟩
  have z:=new_lst (w1.append w2) hp tr
  exact k _ _ (same_upd hp _) z.1 λ_=>z.2
 ·obtain⟨c,ev⟩:=when_ok ev
  cases ev
  obtain⟨a1,xs1,rfl,q1,w1⟩:=r1.tupV
  obtain⟨a2,xs2,rfl,q2,w2⟩:=r2.tupV
  refine op_catT0 pins s σ H _ _ v u Q I rx ry ⟨a1,a2,xs1,xs2,rfl,rfl,q1.sq,q2.sq,by rw[←big_line,w1.length,w2.length];exact of_decide_eq_true c,λz=>?_,λz=>?_,λp hp=>?_⟩
  ·subst z
   have e:=w1.length
   have e':_=[]:=List.eq_nil_of_length_eq_zero e.symm
   subst e'
   exact kk _ rfl ⟨a2,xs2,rfl,q2,by simpa using w2⟩
  ·subst z
   have e:=w2.length
   have e':_=[]:=List.eq_nil_of_length_eq_zero e.symm
   subst e'
   exact kk _ rfl ⟨a1,xs1,rfl,q1,by simpa using w1⟩
  ·have z:=new_tup (w1.append w2) hp
   exact k _ _ (same_upd hp _) z λ_=>NewL.still rfl
 ·cases ev
  cases (show x=_ from r1.rd rfl)
  cases (show y=_ from r2.rd rfl)
  exact op_sub pins s σ H _ _ v u Q I rx ry ⟨_,_,rfl,rfl,kk _ rfl rfl⟩
 ·obtain⟨c,ev⟩:=when_ok ev
  cases ev
  cases (show x=_ from r1.rd rfl)
  cases (show y=_ from r2.rd rfl)
  refine op_mul pins s σ H _ _ v u Q I rx ry ⟨_,_,rfl,rfl,?_,kk _ rfl rfl⟩
  simp only[small64,Bool.or_eq_true,Bool.and_eq_true,decide_eq_true_eq] at c
  exact c
 ·rename_i aa jj
  obtain⟨c,ev⟩:=when_ok ev
  cases ev
  simp only[Bool.and_eq_true,decide_eq_true_eq] at c
  obtain⟨a1,xs1,rfl,q1,w1⟩:=r1.lst
  cases (show y=_ from r2.rd rfl)
  cases rx
  obtain⟨t,rfl⟩:=ry
  obtain⟨its,r,⟨⟨cls0,dd0,dat0,sl0⟩,n0,pl,pc,_,pd⟩,hz⟩:=I.list q1
  dsimp only at pc pd
  subst pc pd
  have hl1:its.length=1:=by rw[←r.length,w1.length];exact c.1.1
  refine mul_listP pl hl1 ⟨c.1.2,c.2⟩ ?_
  have hp:=I.hok.fresh (Nat.le_refl s.heap.objs.size)
  have hlen:(List.replicate jj.toNat xs1).flatten.length≤sizeLine:=by
   rw[len_rep,w1.length,c.1.1,sizeLine_eq]
   have:=c.2
   lia
  refine⟨.ref s.heap.objs.size,_,I.laid (o:=.lst (List.replicate jj.toNat xs1).flatten) (t':=s.toks) (λb u e=>Heap.get?_push_of_some _ e) (Nat.le_refl _) ⟨hlen,_,0,r.rep _,Heap.get?_push_size _ rfl⟩,rfl,?_⟩
  have z:=new_lst (w1.rep jj.toNat) hp tr
  exact k _ _ (same_upd hp _) z.1 λ_=>z.2
 ·rename_i aa jj
  obtain⟨c,ev⟩:=when_ok ev
  cases ev
  simp only[Bool.and_eq_true,decide_eq_true_eq] at c
  obtain⟨a1,xs1,rfl,q1,w1⟩:=r1.tupV
  cases (show y=_ from r2.rd rfl)
  cases rx
  obtain⟨t,rfl⟩:=ry
  obtain⟨its,r,pl,hz⟩:=I.tuple q1.sq
  have hl1:its.length=1:=by rw[←r.length,w1.length];exact c.1.1
  refine mul_tuple pl hl1 ⟨c.1.2,c.2⟩ (λz=>?_) (λz=>?_)
  ·subst z
   refine⟨.ref a1,H,I,rfl,kk _ rfl ⟨a1,xs1,rfl,q1,?_⟩⟩
   simpa using w1
  ·have hp:=I.hok.fresh (Nat.le_refl s.heap.objs.size)
   have hlen:(List.replicate jj.toNat xs1).flatten.length≤sizeLine:=by
    rw[len_rep,w1.length,c.1.1,sizeLine_eq]
    have:=c.2
    lia
   refine⟨.ref s.heap.objs.size,_,I.laid (o:=.tup (List.replicate jj.toNat xs1).flatten) (t':=s.toks) (λb u e=>Heap.get?_push_of_some _ e) (Nat.le_refl _) ⟨hlen,_,r.rep _,⟨_,Heap.get?_push_size _ rfl,rfl,_,rfl⟩⟩,rfl,?_⟩
   exact k _ _ (same_upd hp _) (new_tup (w1.rep _) hp) λ_=>NewL.still rfl
 ·obtain⟨c,ev⟩:=when_ok ev
  cases ev
  cases (show x=_ from r1.rd rfl)
  cases (show y=_ from r2.rd rfl)
  refine op_fdiv pins s σ H _ _ v u Q I rx ry ⟨_,_,rfl,rfl,?_,kk _ rfl rfl⟩
  simp only[Bool.and_eq_true,decide_eq_true_eq] at c
  exact c
 ·obtain⟨c,ev⟩:=when_ok ev
  cases ev
  cases (show x=_ from r1.rd rfl)
  cases (show y=_ from r2.rd rfl)
  exact op_mod pins s σ H _ _ v u Q I rx ry ⟨_,_,rfl,rfl,of_decide_eq_true c,kk _ rfl rfl⟩
 ·obtain⟨c,ev⟩:=when_ok ev
  cases ev
  cases (show x=_ from r1.rd rfl)
  cases (show y=_ from r2.rd rfl)
  refine op_pow pins s σ H _ _ v u Q I rx ry ⟨_,_,rfl,rfl,?_,kk _ rfl rfl⟩
  simp only[Bool.and_eq_true,decide_eq_true_eq] at c
  exact⟨c.1.1,c.1.2,c.2⟩
 ·cases ev
theorem rdk_val {K:PySem.W.Frag} {H:Hp} {O:Addr→Prop} {k:Key}:∀ {ds:List (Sum Int Str×D)} {ps:List (Key×V)},RDk K H O ds ps→(∀d,valK ds k=some d→∃v,valV ps k=some v∧RD K H O d v)∧(valK ds k).isSome=(valV ps k).isSome
 | [],ps,h=>by
  rw[RDk] at h;subst h
  exact⟨λd e=>(by cases e),rfl⟩
 | (k',d')::ds,ps,h=>by
  obtain⟨v,r,rfl,h1,h2⟩:=h
  have ih:=rdk_val (k:=k) h2
  by_cases e:k'=k
  ·subst e
   have e1:valK ((k',d')::ds) k'=some d':=by simp[valK,List.find?_cons]
   rw[e1,valV_pos (p:=(k',v)) rfl]
   exact⟨λd z=>(by cases z;exact⟨v,rfl,h1⟩),rfl⟩
  ·have e1:valK ((k',d')::ds) k=valK ds k:=by simp[valK,List.find?_cons,e]
   rw[e1,valV_neg (p:=(k',v)) e]
   exact ih
theorem rdk_put {K:PySem.W.Frag} {H:Hp} {O:Addr→Prop} {k:Key} {d:D} {v:V} (hv:RD K H O d v) {ds:List (Sum Int Str×D)} {ps:List (Key×V)} (h:RDk K H O ds ps):RDk K H O (putKD ds k d) (putK ps k v):=by
 have any:∀ {ds:List (Sum Int Str×D)} {ps:List (Key×V)},RDk K H O ds ps→(ds.any λkv=>decide (kv.1=k))=(ps.any λkv=>decide (kv.1=k)):=by
  intro ds
  induction ds with
  | nil=>intro ps h;rw[RDk] at h;subst h;rfl
  | cons p ds ih =>
   intro ps h
   obtain⟨k',d'⟩:=p
   obtain⟨v',r,rfl,h1,h2⟩:=h
   rw[List.any_cons,List.any_cons,ih h2]
 have mp:∀ {ds:List (Sum Int Str×D)} {ps:List (Key×V)},RDk K H O ds ps→RDk K H O (ds.map (λkv=>if kv.1=k then (kv.1,d) else kv)) (ps.map (λkv=>if kv.1=k then (kv.1,v) else kv)):=by
  intro ds
  induction ds with
  | nil=>intro ps h;rw[RDk] at h;subst h;exact rfl
  | cons p ds ih =>
   intro ps h
   obtain⟨k',d'⟩:=p
   obtain⟨v',r,rfl,h1,h2⟩:=h
   rw[List.map_cons,List.map_cons]
   by_cases e:k'=k
   ·rw[if_pos e,if_pos e];exact⟨v,_,rfl,hv,ih h2⟩
   ·rw[if_neg e,if_neg e];exact⟨v',_,rfl,h1,ih h2⟩
 have ap:∀ {ds:List (Sum Int Str×D)} {ps:List (Key×V)},RDk K H O ds ps→RDk K H O (ds++[(k,d)]) (ps++[(k,v)]):=by
  intro ds
  induction ds with
  | nil=>intro ps h;rw[RDk] at h;subst h;exact⟨v,[],rfl,hv,rfl⟩
  | cons p ds ih =>
   intro ps h
   obtain⟨k',d'⟩:=p
   obtain⟨v',r,rfl,h1,h2⟩:=h
   exact⟨v',_,rfl,h1,ih h2⟩
 unfold putKD putK
 rw[any h]
 split
 ·exact mp h
 ·exact ap h
theorem rdt_val {K:PySem.W.Frag} {H:Hp} {O:Addr→Prop} {k:List Key}:∀ {ds:List (List (Sum Int Str)×D)} {ps:List (List Key×V)},RDt K H O ds ps→(∀d,valT ds k=some d→∃v,valV ps k=some v∧RD K H O d v)∧(valT ds k).isSome=(valV ps k).isSome
 | [],ps,h=>by
  rw[RDt] at h;subst h
  exact⟨λd e=>(by cases e),rfl⟩
 | (k',d')::ds,ps,h=>by
  obtain⟨v,r,rfl,h1,h2⟩:=h
  have ih:=rdt_val (k:=k) h2
  by_cases e:k'=k
  ·subst e
   have e1:valT ((k',d')::ds) k'=some d':=by simp[valT,List.find?_cons]
   rw[e1,valV_pos (p:=(k',v)) rfl]
   exact⟨λd z=>(by cases z;exact⟨v,rfl,h1⟩),rfl⟩
  ·have e1:valT ((k',d')::ds) k=valT ds k:=by simp[valT,List.find?_cons,e]
   rw[e1,valV_neg (p:=(k',v)) e]
   exact ih
theorem rdt_put {K:PySem.W.Frag} {H:Hp} {O:Addr→Prop} {k:List Key} {d:D} {v:V} (hv:RD K H O d v) {ds:List (List (Sum Int Str)×D)} {ps:List (List Key×V)} (h:RDt K H O ds ps):RDt K H O (putTD ds k d) (putK ps k v):=by
 have any:∀ {ds:List (List (Sum Int Str)×D)} {ps:List (List Key×V)},RDt K H O ds ps→(ds.any λkv=>decide (kv.1=k))=(ps.any λkv=>decide (kv.1=k)):=by
  intro ds
  induction ds with
  | nil=>intro ps h;rw[RDt] at h;subst h;rfl
  | cons p ds ih =>
   intro ps h
   obtain⟨k',d'⟩:=p
   obtain⟨v',r,rfl,h1,h2⟩:=h
   rw[List.any_cons,List.any_cons,ih h2]
 have mp:∀ {ds:List (List (Sum Int Str)×D)} {ps:List (List Key×V)},RDt K H O ds ps→RDt K H O (ds.map (λkv=>if kv.1=k then (kv.1,d) else kv)) (ps.map (λkv=>if kv.1=k then (kv.1,v) else kv)):=by
  intro ds
  induction ds with
  | nil=>intro ps h;rw[RDt] at h;subst h;exact rfl
  | cons p ds ih =>
   intro ps h
   obtain⟨k',d'⟩:=p
   obtain⟨v',r,rfl,h1,h2⟩:=h
   rw[List.map_cons,List.map_cons]
   by_cases e:k'=k
   ·rw[if_pos e,if_pos e];exact⟨v,_,rfl,hv,ih h2⟩
   ·rw[if_neg e,if_neg e];exact⟨v',_,rfl,h1,ih h2⟩
 have ap:∀ {ds:List (List (Sum Int Str)×D)} {ps:List (List Key×V)},RDt K H O ds ps→RDt K H O (ds++[(k,d)]) (ps++[(k,v)]):=by
  intro ds
  induction ds with
  | nil=>intro ps h;rw[RDt] at h;subst h;exact⟨v,[],rfl,hv,rfl⟩
  | cons p ds ih =>
   intro ps h
   obtain⟨k',d'⟩:=p
   obtain⟨v',r,rfl,h1,h2⟩:=h
   exact⟨v',_,rfl,h1,ih h2⟩
 unfold putTD putK
 rw[any h]
 split
 ·exact mp h
 ·exact ap h
theorem key_val {K:PySem.W.Frag} {H:Hp} {O:Addr→Prop} {d:D} {v:V} {k:Key} (h:keyOf d=some k) (r:RR K H O d v):v=kV k:=by
 cases d with
 | int i=>cases h;exact r.rd rfl
 | str i=>cases h;exact r.rd rfl
 | non=>cases h
 | bl _=>cases h
 | tup _=>cases h
 | lst _=>cases h
 | dct _=>cases h
 | tdc _=>cases h
theorem keysI_T:∀ {ds:List D} {ks:List Key},keysI ds=some ks→keysT ds=some ks∧∀k∈ks,∃i,k=.inl i
 | [],ks,h=>by cases h;exact⟨rfl,λk hk=>by cases hk⟩
 | .int i::r,ks,h=>by
  rw[keysI] at h
  cases e:keysI r with
  | none=>rw[e] at h;cases h
  | some q =>
   rw[e] at h
   cases h
   obtain⟨h1,h2⟩:=keysI_T e
   refine⟨by rw[keysT,h1];rfl,λk hk=>?_⟩
   rcases List.mem_cons.mp hk with rfl | hk
   ·exact⟨i,rfl⟩
   ·exact h2 k hk
 | .non::_,_,h | .bl _::_,_,h | .str _::_,_,h | .tup _::_,_,h | .lst _::_,_,h | .dct _::_,_,h | .tdc _::_,_,h=>by cases h
theorem keys_valT {K:PySem.W.Frag} {H:Hp} {O:Addr→Prop}:∀ {ds:List D} {ks:List Key} {vs:List V},keysT ds=some ks→RDs K H O ds vs→vs=ks.map kV
 | [],ks,vs,h,r=>by
  cases h
  rw[RDs] at r;subst r;rfl
 | d::ds,ks,vs,h,r=>by
  obtain⟨v,q,rfl,r1,r2⟩:=r
  rw[keysT] at h
  cases e1:keyOf d with
  | none=>rw[e1] at h;cases h
  | some k =>
   rw[e1] at h
   cases e2:keysT ds with
   | none=>rw[e2] at h;cases h
   | some ks' =>
    rw[e2] at h
    cases h
    rw[key_val e1 r1.rr,keys_valT e2 r2];rfl
theorem tup_key {K:PySem.W.Frag} {H:Hp} {O:Addr→Prop} {ds:List D} {ks:List Key} {xs:List V} {b:Addr} (h:keysI ds=some ks) (w:RDs K H O ds xs) (q:TupV K H b xs):H b=some (.tup (ks.map kV)):=by
 obtain⟨h1,h2⟩:=keysI_T h
 have e:=keys_valT h1 w
 subst e
 rcases q with q | ⟨⟨ss,hne,e⟩,_⟩
 ·exact q
 ·exfalso
  cases ss with
  | nil=>exact hne rfl
  | cons x ss =>
   cases ks with
   | nil=>cases e
   | cons k ks =>
    obtain⟨i,rfl⟩:=h2 k List.mem_cons_self
    injection e with e _
    cases e
theorem of_ok {α:Type} {o:Option α} {a:α} (h:Res.of o=.ok a):o=some a:=by
 cases o with
 | none=>cases h
 | some b=>cases h;rfl
theorem Sees.inj {H:Hp} {s:Shared} {pins:List (Addr×Obj)} {σ:L2.St} (I:Inv X pins σ H s) {d d':D} {w:Value} (h:Sees X H s d w) (h':Sees X H s d' w):d=d':=by
 cases h with
 | non=>cases h';rfl
 | bl b=>cases h';rfl
 | int i t=>cases h';rfl
 | str x t=>cases h';rfl
 | tup ds a xs its q w r p =>
  cases h' with
  | tup ds' _ xs' its' q' w' r' p'=>have:=I.tuple_inj q q';subst this;rw[RDs.inj I w w']
  | lst ds' _ xs' its' q' w' r' p'=>exact (sq_apart I q' q).elim
  | dct ds' _ ps' q' w'=>exact (dk_tup I q' q).elim
  | tdc ds' _ ps' q' w'=>exact (dt_tup I q' q).elim
 | dct ds a ps q w =>
  cases h' with
  | dct ds' _ ps' q' w'=>have:=rd_one q q';cases this;rw[RDk.inj I w w']
  | tup ds' _ xs' its' q' w' r' p'=>exact (dk_tup I q q').elim
  | lst ds' _ xs' its' q' w' r' p'=>exact (dk_lst I q q').elim
  | tdc ds' _ ps' q' w'=>have:=rd_one q q';cases this
 | tdc ds a ps q w =>
  cases h' with
  | tdc ds' _ ps' q' w'=>have:=rd_one q q';cases this;rw[RDt.inj I w w']
  | tup ds' _ xs' its' q' w' r' p'=>exact (dt_tup I q q').elim
  | lst ds' _ xs' its' q' w' r' p'=>exact (dt_lst I q q').elim
  | dct ds' _ ps' q' w'=>have:=rd_one q q';cases this
 | lst ds a xs its q w r p =>
  cases h' with
  | lst ds' _ xs' its' q' w' r' p'=>have:=I.list_inj q q';subst this;rw[RDs.inj I w w']
  | tup ds' _ xs' its' q' w' r' p'=>exact (sq_apart I q q').elim
  | dct ds' _ ps' q' w'=>exact (dk_lst I q' q).elim
  | tdc ds' _ ps' q' w'=>exact (dt_lst I q' q).elim
open Classical in
noncomputable def seen (X:Cx) (H:Hp) (s:Shared) (x:D) (w:Value):Bool:=decide (∃d,Sees X H s d w∧D.eqb d x=true)
theorem seen_eq {H:Hp} {s:Shared} {pins:List (Addr×Obj)} {σ:L2.St} (I:Inv X pins σ H s) {d x:D} {w:Value} (sd:Sees X H s d w):seen X H s x w=D.eqb d x:=by
 classical
 unfold seen
 by_cases h:D.eqb d x=true
 ·rw[h];simp only[decide_eq_true_eq];exact⟨d,sd,h⟩
 ·have h':D.eqb d x=false:=by simpa using h
  rw[h']
  simp only[decide_eq_false_iff_not]
  rintro⟨d',sd',h''⟩
  rw[Sees.inj I sd' sd] at h''
  exact h h''
theorem in_tab {H:Hp} {s:Shared} {pins:List (Addr×Obj)} {σ:L2.St} (I:Inv X pins σ H s) {x:D} {ux:Value} {n:Nat} {A:Around} (hx:Sees X H s x ux) (fx:D.pl n x=true) (hu:A.units+n < cLine) :
 ∀ {ds:List D} {xs:List V} {us:List Value},RDs X.K H no ds xs→Vals xs us→D.pls (n+1) ds=true→(∀w∈us,SeqAt.EqAt A s w ux (seen X H s x w))∧us.any (seen X H s x)=D.mem x ds
 | [],xs,us,w,r,f=>by
  rw[RDs] at w;subst w;cases r
  exact⟨λw h=>absurd h List.not_mem_nil,rfl⟩
 | d::ds,xs,us,w,r,f=>by
  obtain⟨v,ys,rfl,e1,e2⟩:=w
  rw[D.pls,Bool.and_eq_true] at f
  cases r with
  | cons a1 r1 =>
   have ih:=in_tab I hx fx hu e2 r1 f.2
   have sd:=sees I e1 a1
   refine⟨λw hw=>?_,?_⟩
   ·rcases List.mem_cons.mp hw with rfl | hw
    ·rw[seen_eq I sd]
     exact eqAt_D I n d x A w ux sd hx f.1 fx hu
    ·exact ih.1 w hw
   ·rw[List.any_cons,D.mem,ih.2,seen_eq I sd]
theorem isNon_eq {K:PySem.W.Frag} {H:Hp} {d:D} {x:V} (r:RD K H no d x):decide (x=.non)=D.isNon d:=by
 cases d with
 | non=>cases (show x=.non from r);rfl
 | bl b=>cases (show x=.bl b from r);rfl
 | int b=>cases (show x=.int b from r);rfl
 | str b=>cases (show x=.str b from r);rfl
 | tup ds=>obtain⟨a,xs,rfl,_⟩:=r;rfl
 | lst ds=>obtain⟨a,xs,rfl,_⟩:=r;rfl
 | dct ds=>obtain⟨a,xs,rfl,_⟩:=r;rfl
 | tdc ds=>obtain⟨a,xs,rfl,_⟩:=r;rfl
theorem isNon_eqR {K:PySem.W.Frag} {H:Hp} {O:Addr→Prop} {d:D} {x:V} (r:RR K H O d x):decide (x=.non)=D.isNon d:=by
 rcases r with r | ⟨a,rfl,h⟩
 ·exact isNon_eq (r.weak λ_ z=>z.elim)
 ·cases d<;>first | rfl | exact h.elim
theorem opr_cmp (o:CmpOp) (hroom:Roomy X):OpR X (compareOp o) (rD2 X.K (D.cmp o) false):=by
 intro pins s σ H x y v u Q I rx ry h
 obtain⟨O,d1,d2,d,r1,r2,ev,tr,k⟩:=h
 have hroom':X.A.units+64 < cLine:=hroom
 have kk:∀b,d=.bl b→Q (.bl b) H:=λb e=>k _ H (Same.refl H) (by subst e;exact rfl) λz=>by cases z
 have s1:=seesR I r1 rx
 have s2:=seesR I r2 ry
 unfold D.cmp at ev
 split at ev
 ·obtain⟨c,ev⟩:=when_ok ev
  cases ev
  unfold D.eqOk at c
  rw[Bool.and_eq_true] at c
  exact rcAt_D I s1 s2 c.1 c.2 (by lia) X.prog X.w X.xe _ ⟨.bl _,H,I,rfl,kk _ rfl⟩
 ·obtain⟨c,ev⟩:=when_ok ev
  cases ev
  unfold D.eqOk at c
  rw[Bool.and_eq_true] at c
  exact rcNeAt_D I s1 s2 c.1 c.2 (by lia) X.prog X.w X.xe _ ⟨.bl _,H,I,rfl,kk _ rfl⟩
 ·cases ev
  cases (show x=_ from r1.rd rfl)
  cases (show y=_ from r2.rd rfl)
  exact op_lt pins s σ H _ _ v u Q I rx ry ⟨_,_,rfl,rfl,kk _ rfl⟩
 ·cases ev
  cases (show x=_ from r1.rd rfl)
  cases (show y=_ from r2.rd rfl)
  exact op_le pins s σ H _ _ v u Q I rx ry ⟨_,_,rfl,rfl,kk _ rfl⟩
 ·cases ev
  cases (show x=_ from r1.rd rfl)
  cases (show y=_ from r2.rd rfl)
  exact op_gt pins s σ H _ _ v u Q I rx ry ⟨_,_,rfl,rfl,kk _ rfl⟩
 ·cases ev
  cases (show x=_ from r1.rd rfl)
  cases (show y=_ from r2.rd rfl)
  exact op_ge pins s σ H _ _ v u Q I rx ry ⟨_,_,rfl,rfl,kk _ rfl⟩
 ·cases ev
  cases (show y=_ from r2.rd rfl)
  have e:decide (x=.non)=D.isNon d1:=isNon_eqR r1
  exact op_isN pins s σ H _ _ v u Q I rx ry ⟨rfl,by rw[e];exact kk _ rfl⟩
 ·cases ev
  cases (show y=_ from r2.rd rfl)
  have e:decide (x=.non)=D.isNon d1:=isNon_eqR r1
  exact op_notN pins s σ H _ _ v u Q I rx ry ⟨rfl,by rw[e];exact kk _ rfl⟩
 ·cases ev
  cases (show x=_ from r1.rd rfl)
  cases (show y=_ from r2.rd rfl)
  cases rx
  cases ry
  exact is_bool (fin_bl I (kk _ rfl) rfl)
 ·cases ev
  cases (show x=_ from r1.rd rfl)
  cases (show y=_ from r2.rd rfl)
  cases rx
  cases ry
  exact isnot_bool (fin_bl I (kk _ rfl) rfl)
 ·obtain⟨b,e1,ev⟩:=Res.bind_ok ev
  cases ev
  unfold D.inn at e1
  split at e1
  ·obtain⟨c,e1⟩:=when_ok e1
   cases e1
   rw[Bool.and_eq_true] at c
   cases s2 with
   | lst ds a xs its q w r p =>
    have t:=in_tab I (n:=29) (A:=X.A.in1) s1 c.2 (by show X.A.units+1+29 < cLine;lia) w r c.1
    refine SeqAt.in_listAt (seen X H s d1) p.isList (λw hw=>t.1 w (by simpa using hw)) ⟨.bl _,H,I,rfl,?_⟩
    rw[show its.toArray.any (seen X H s d1)=its.any (seen X H s d1) by simp,t.2]
    exact kk _ rfl
  ·obtain⟨c,e1⟩:=when_ok e1
   cases e1
   rw[Bool.and_eq_true] at c
   cases s2 with
   | tup ds a xs its q w r p =>
    have t:=in_tab I (n:=29) (A:=X.A.in1) s1 c.2 (by show X.A.units+1+29 < cLine;lia) w r c.1
    refine SeqAt.in_tupleAt (seen X H s d1) p (λw hw=>t.1 w (by simpa using hw)) ⟨.bl _,H,I,rfl,?_⟩
    rw[show its.toArray.any (seen X H s d1)=its.any (seen X H s d1) by simp,t.2]
    exact kk _ rfl
  ·obtain⟨key,e2,e1⟩:=Res.bind_ok e1
   cases e1
   obtain⟨a,ps,rfl,q,w⟩:=r2.dct
   cases ry
   have ex:=key_val (of_ok e2) r1
   subst ex
   refine d_in (by lia) I (.inl ⟨ps,key,q,rfl,rfl⟩) rx λs' I'=>⟨.bl _,H,I',rfl,?_⟩
   rw[←(rdk_val (k:=key) w).2]
   exact kk _ rfl
  ·split at e1
   ·obtain⟨key,e2,e1⟩:=Res.bind_ok e1
    cases e1
    obtain⟨a,ps,rfl,q,w⟩:=r2.tdc
    cases ry
    obtain⟨b',xs,rfl,tq,w1⟩:=r1.tupV
    refine d_in (by lia) I (.inr ⟨ps,key,b',q,rfl,tup_key (of_ok e2) w1 tq,rfl⟩) rx λs' I'=>⟨.bl _,H,I',rfl,?_⟩
    rw[←(rdt_val (k:=key) w).2]
    exact kk _ rfl
   ·cases e1
  ·split at e1
   ·cases (show x=_ from r1.rd rfl)
    cases (show y=_ from r2.rd rfl)
    exact op_in_str pins s σ H _ _ v u Q I rx ry ⟨_,_,rfl,rfl,by rw[oneIn_ok e1];exact kk _ rfl⟩
   ·cases e1
  ·cases e1
 ·obtain⟨b,e1,ev⟩:=Res.bind_ok ev
  cases ev
  unfold D.inn at e1
  split at e1
  ·obtain⟨c,e1⟩:=when_ok e1
   cases e1
   rw[Bool.and_eq_true] at c
   cases s2 with
   | lst ds a xs its q w r p =>
    have t:=in_tab I (n:=29) (A:=X.A.in1) s1 c.2 (by show X.A.units+1+29 < cLine;lia) w r c.1
    refine SeqAt.notIn_listAt (seen X H s d1) p.isList (λw hw=>t.1 w (by simpa using hw)) ⟨.bl _,H,I,rfl,?_⟩
    rw[show its.toArray.any (seen X H s d1)=its.any (seen X H s d1) by simp,t.2]
    exact kk _ rfl
  ·obtain⟨c,e1⟩:=when_ok e1
   cases e1
   rw[Bool.and_eq_true] at c
   cases s2 with
   | tup ds a xs its q w r p =>
    have t:=in_tab I (n:=29) (A:=X.A.in1) s1 c.2 (by show X.A.units+1+29 < cLine;lia) w r c.1
    refine SeqAt.notIn_tupleAt (seen X H s d1) p (λw hw=>t.1 w (by simpa using hw)) ⟨.bl _,H,I,rfl,?_⟩
    rw[show its.toArray.any (seen X H s d1)=its.any (seen X H s d1) by simp,t.2]
    exact kk _ rfl
  ·obtain⟨key,e2,e1⟩:=Res.bind_ok e1
   cases e1
   obtain⟨a,ps,rfl,q,w⟩:=r2.dct
   cases ry
   have ex:=key_val (of_ok e2) r1
   subst ex
   refine d_notIn (by lia) I (.inl ⟨ps,key,q,rfl,rfl⟩) rx λs' I'=>⟨.bl _,H,I',rfl,?_⟩
   rw[←(rdk_val (k:=key) w).2]
   exact kk _ rfl
  ·split at e1
   ·obtain⟨key,e2,e1⟩:=Res.bind_ok e1
    cases e1
    obtain⟨a,ps,rfl,q,w⟩:=r2.tdc
    cases ry
    obtain⟨b',xs,rfl,tq,w1⟩:=r1.tupV
    refine d_notIn (by lia) I (.inr ⟨ps,key,b',q,rfl,tup_key (of_ok e2) w1 tq,rfl⟩) rx λs' I'=>⟨.bl _,H,I',rfl,?_⟩
    rw[←(rdt_val (k:=key) w).2]
    exact kk _ rfl
   ·cases e1
  ·split at e1
   ·cases (show x=_ from r1.rd rfl)
    cases (show y=_ from r2.rd rfl)
    exact op_notin_str pins s σ H _ _ v u Q I rx ry ⟨_,_,rfl,rfl,by rw[oneIn_ok e1];exact kk _ rfl⟩
   ·cases e1
  ·cases e1
 ·cases ev
theorem ixN_eq (n:Nat) (i:Int):Tr.ixN n i=L2.ixN n i:=rfl
theorem rds_atI {K:PySem.W.Frag} {H:Hp} {O:Addr→Prop} {ds:List D} {xs:List V} {i:Int} {d:D} (w:RDs K H O ds xs) (h:Tr.atI ds i=some d):∃v,L2.atI xs i=some v∧RD K H O d v:=by
 unfold Tr.atI at h
 unfold L2.atI
 rw[w.length]
 rw[ixN_eq] at h
 cases e:L2.ixN ds.length i with
 | none=>rw[e] at h;cases h
 | some j =>
  rw[e] at h
  exact w.get h
theorem d_ix {value slice:Expr} {pins:List (Addr×Obj)} {s:Shared} {σ:L2.St} {H:Hp} {a:Addr} {y v0:V} {u:Value} {Q:VK} (I:Inv X pins σ H s) (g:DGet H a y (some v0)) (ry:RelV y u) (hroom:Roomy X) (q:Q v0 H)
 (hs:subscripted slice false (.ref a) u=operate [.ref a,u] (getItem (.ref a) u)):wpAny (model X.prog X.w) X.A (subscriptTail value slice (.ref a) u) (EP X pins σ Q) X.xe s:=by
 have hroom':X.A.units+64 < cLine:=hroom
 have hT:=dict_typeIs I g
 unfold subscriptTail
 refine wpAny_bind ?_
 rw[getitemInPython_of_ne hT.not_modules]
 refine wpAny_bind (wpAny_specialOf hT PySem.F.slot_dict_getitem.lookup ?_)
 have fin:wpAny (model X.prog X.w) X.A (subscripted slice false (.ref a) u) (λr s₃=>wpAny (model X.prog X.w) X.A (letTemporaryGo value (.ref a) r>>=λ_=>pure r) (EP X pins σ Q) X.xe s₃) X.xe s:=by
  rw[hs]
  exact wpAny_operating (d_getItem (by lia) I g ry λw' s3 I3 rw'=>wpAny_bind (wpAny_letTemporaryGo (wpAny_pure ⟨v0,H,I3,rw',q⟩)))
 first
  | exact wpAny_pure (wpAny_bind fin)
  | exact wpAny_bind (wpAny_pure (wpAny_bind fin))
  | exact wpAny_bind fin
theorem ixr (hroom:Roomy X):IxR X (rD2 X.K D.ix false):=by
 intro value slice pins s σ H x y v u Q I rx ry h hs
 obtain⟨O,d1,d2,d,r1,r2,ev,tr,k⟩:=h
 have kk:∀w,RD X.K H O d w→Q w H:=λw r=>k w H (Same.refl H) r λz=>by cases z
 unfold D.ix at ev
 split at ev
 ·obtain⟨a1,xs1,rfl,q1,w1⟩:=r1.lst
  cases (show y=_ from r2.rd rfl)
  rename_i ds i
  cases e:Tr.atI ds i with
  | none=>rw[e] at ev;cases ev
  | some d0 =>
   rw[e] at ev;cases ev
   obtain⟨w,h1,h2⟩:=rds_atI w1 e
   exact ix_list value slice pins s σ H _ _ v u Q I rx ry ⟨a1,xs1,_,w,rfl,rfl,q1,h1,kk w h2⟩ hs
 ·obtain⟨a1,xs1,rfl,q1,w1⟩:=r1.tup
  cases (show y=_ from r2.rd rfl)
  rename_i ds i
  cases e:Tr.atI ds i with
  | none=>rw[e] at ev;cases ev
  | some d0 =>
   rw[e] at ev;cases ev
   obtain⟨w,h1,h2⟩:=rds_atI w1 e
   exact ix_tup value slice pins s σ H _ _ v u Q I rx ry ⟨a1,xs1,_,w,rfl,rfl,q1,h1,kk w h2⟩ hs
 ·rename_i z i
  obtain⟨c,ev⟩:=when_ok ev
  cases (show x=.str z from r1.rd rfl)
  cases (show y=.int i from r2.rd rfl)
  cases e:Tr.atI z.cps.toList i with
  | none=>rw[e] at ev;cases ev
  | some c0 =>
   rw[e] at ev;cases ev
   exact ix_str value slice pins s σ H _ _ v u Q I rx ry ⟨z,i,c0,rfl,rfl,by rw[←big_line];exact of_decide_eq_true c,e,kk _ rfl⟩ hs
 ·rename_i kvs y0
  obtain⟨key,e2,ev⟩:=Res.bind_ok ev
  obtain⟨a,ps,rfl,q,w⟩:=r1.dct
  cases rx
  have ex:=key_val (of_ok e2) r2
  subst ex
  have hroom':X.A.units+64 < cLine:=hroom
  obtain⟨v0,h1,h2⟩:=(rdk_val (k:=key) w).1 _ (of_ok ev)
  have g:DGet H a (kV key) (some v0):=.inl ⟨ps,key,q,rfl,h1.symm⟩
  exact d_ix I g ry hroom (kk v0 h2) hs
 ·rename_i kvs ks
  obtain⟨key,e2,ev⟩:=Res.bind_ok ev
  obtain⟨a,ps,rfl,q,w⟩:=r1.tdc
  cases rx
  obtain⟨b',xs,rfl,tq,w1⟩:=r2.tupV
  obtain⟨v0,h1,h2⟩:=(rdt_val (k:=key) w).1 _ (of_ok ev)
  have g:DGet H a (.ref b') (some v0):=.inr ⟨ps,key,b',q,rfl,tup_key (of_ok e2) w1 tq,h1.symm⟩
  exact d_ix I g ry hroom (kk v0 h2) hs
 ·cases ev
end
noncomputable def plainX:Expr→Bool
 | .Starred _ _=>false
 | .Slice _ _ _ _=>false
 | .Set _ _ _=>false
 | _=>true
theorem plain_ix {e:Expr} (h:plainX e=true):PlainIx e:=by
 intro o i
 cases e<;>first | rfl | (cases h)
theorem plain_star {e:Expr} {es:List Expr} {env:Env} (h:plainX e=true):starEach (e::es) env=(false,eval e env)::starEach es env:=by
 cases e<;>first | rfl | (cases h)
theorem plain_any {pos:Pos} {env:Env}:∀ {es:List Expr},es.all plainX=true→(backTo pos (starEach es env)).any (·.1)=false
 | [],_=>rfl
 | e::es,h=>by
  rw[List.all_cons,Bool.and_eq_true] at h
  have ih:=plain_any (pos:=pos) (env:=env) h.2
  rw[plain_star h.1]
  show (false||(backTo pos (starEach es env)).any (·.1))=false
  rw[ih];rfl
theorem plain_mark {o:CmpOp} {e:Expr} (h:plainX e=true):behindInMarks o e=false:=by
 cases e<;>first | rfl | (cases h)
theorem plain_fold {e:Expr} {env:Env} (h:plainX e=true):∀x,foldedSetIterable e env x=pure x:=by
 intro x
 cases e<;>first | rfl | (cases h)
section
variable {T:Tab} {cf:Nat→List D→Res D} {X:Cx} {x y z:E} {p q r:Expr} {pos:Pos} {es:List Expr}
theorem se_bin {o:Operator} (ha:SR T cf X x p) (hb:SR T cf X y q):SE T cf X (.bin o x y) (.BinOp p o q pos) :=
 se_op2 (f:=D.bin o) (λe=>rfl) (λh1 h2=>pe_op (opr_bin o _ (by cases o<;>first | (intro _;rfl) | (intro z;cases z))) h1 h2) ha hb
theorem se_cmp {o:CmpOp} (hR:Roomy X) (hm:plainX q=true) (ha:SR T cf X x p) (hb:SR T cf X y q):SE T cf X (.cmp o x y) (.Compare p [o] [q] pos) :=
 se_op2 (f:=D.cmp o) (λe=>rfl) (λh1 h2=>pe_cmpR (opr_cmp o hR) h1 h2 (plain_mark hm)) ha hb
theorem se_ix (hR:Roomy X) (hm:plainX q=true) (ha:SR T cf X x p) (hb:SR T cf X y q):SE T cf X (.ix x y) (.Subscript p q pos) :=
 se_op2 (f:=D.ix) (λe=>rfl) (λh1 h2=>pe_ix (ixr hR) h1 h2 (plain_ix hm)) ha hb
theorem sl_whole {X:Cx}:SlR X (λx lo hi H Q=>∃a xs,x=.ref a∧SqT X.K H a xs∧(HT.sIx xs.length 0 lo=0∧HT.sIx xs.length xs.length hi=xs.length)∧Q (.ref a) H):=by
 intro pins s σ H x v vl vu lo hi sl Q I rx hs pl pu h
 obtain⟨a,xs,rfl,hx,hw,q⟩:=h
 cases rx
 obtain⟨its,r,ht,hz⟩:=I.tuple hx
 have hlen:its.toArray.size=xs.length:=by rw[List.size_toArray];exact r.length.symm
 refine⟨"tuple", _,PyProof.Rows.slot_tuple_getitem.lookup,ht.typeIs,?_⟩
 obtain⟨os,hos,hcs,hds⟩:=id hs
 have hTs:s.TypeIs (.ref sl) "slice" := ⟨os,hos,hcs⟩
 have fin:EP X pins σ Q (.ref a) s:=⟨.ref a,H,I,rfl,q⟩
 unfold getItem
 try with_reducible refine wpAny_holding ?_
 first | refine wpAny_bind (wpAny_pure ?_) | skip
 refine wpAny_bind (wpAny_sequenceKey ht.typeIs (by decide) ?_)
 refine wpAny_bind (wpAny_callSpecial?_slot (name:=Str.ofString "__getitem__") ht.typeIs PyProof.Rows.slot_tuple_getitem
  (wpAny_call_entry PyProof.Rows.slot_tuple_getitem ht.typeIs entry_tuple_getitem ?_ (args_tuple_getitem _ _)))
 show wpAny _ _ (Builtin.Tuple.tupleItemsOf (.ref a)>>=_) _ _ s
 refine wpAny_bind (tupleItemsOf_ ht ?_)
 refine wpAny_bind (wpAny_typeOf hTs ?_)
 rw[if_pos (by decide)]
 refine wpAny_bind (HT.sliceApplied_gen hs pl pu ?_)
 have hyes:(((HT.sIx its.toArray.size 0 lo:Nat):Int)==0&&(1:Int)==1&&(HT.sIx its.toArray.size its.toArray.size hi - HT.sIx its.toArray.size 0 lo)==its.toArray.size)=true:=by
  rw[hlen,hw.1,hw.2];simp
 show wpAny _ _ (if (((HT.sIx its.toArray.size 0 lo:Nat):Int)==0&&(1:Int)==1&&(HT.sIx its.toArray.size its.toArray.size hi - HT.sIx its.toArray.size 0 lo)==its.toArray.size)=true then _ else _) _ _ s
 rw[if_pos hyes]
 refine wpAny_bind (m:=Builtin.Tuple.tupleIsExact (.ref a)) ?_
 unfold Builtin.Tuple.tupleIsExact
 refine wpAny_bind (wpAny_typeOf ht.typeIs (wpAny_pure ?_))
 rw[if_pos (by decide)]
 refine wpAny_bind (wpAny_rule ?_)
 first
  | exact wpAny_pure ⟨_,rfl,wpAny_pure fin⟩
  | exact wpAny_bind (wpAny_pure ⟨_,rfl,wpAny_pure fin⟩)
  | exact wpAny_bind (wpAny_pure (wpAny_pure ⟨_,rfl,wpAny_pure fin⟩))
  | trace_state
end
section
variable {T:Tab} {cf:Nat→List D→Res D} {X:Cx} {x y z:E} {p q r:Expr} {pos pos':Pos} {es:List Expr}
theorem sIx_eq (n d:Nat) (o:Option Int):Tr.sIx n d o=HT.sIx n d o:=by cases o<;>rfl
theorem slr:SlR X (λv lo hi H Q=>∃O d0 d,RR X.K H O d0 v∧D.sl d0 lo hi=.ok d∧(∀a,O a→∃o,H a=some o)∧∀w H',Same H H'→RD X.K H' O d w→NewL X.K H H' O d w→Q w H'):=by
 intro pins s σ H x v vl vu lo hi sl Q I rx hs pl pu h
 obtain⟨O,d0,d,r0,ev,tr,k⟩:=h
 unfold D.sl at ev
 split at ev
 ·cases ev
  obtain⟨a,xs,rfl,q0,w0⟩:=r0.lst
  refine sl_list pins s σ H _ v vl vu _ _ sl Q I rx hs pl pu ⟨a,xs,rfl,q0,λp hp=>?_⟩
  have z:=new_lst (w0.cut lo hi) hp tr
  exact k _ _ (same_upd hp _) z.1 z.2
 ·cases ev
  obtain⟨a,xs,rfl,qv,w0⟩:=r0.tupV
  have q0:=qv.sq
  by_cases hw:HT.sIx xs.length 0 lo=0∧HT.sIx xs.length xs.length hi=xs.length
  ·refine sl_whole pins s σ H _ v vl vu _ _ sl Q I rx hs pl pu ⟨a,xs,rfl,q0,hw,?_⟩
   refine k _ _ (Same.refl H) ⟨a,xs,rfl,qv,?_⟩ (NewL.still rfl)
   unfold Tr.cut
   rw[←w0.length,sIx_eq,sIx_eq,hw.1,hw.2,List.drop_zero,Nat.sub_zero,List.take_of_length_le (by rw[w0.length];exact Nat.le_refl _)]
   exact w0
  ·refine sl_tup pins s σ H _ v vl vu _ _ sl Q I rx hs pl pu ⟨a,xs,rfl,q0,hw,λp hp=>?_⟩
   exact k _ _ (same_upd hp _) (new_tup (w0.cut lo hi) hp) (NewL.still rfl)
 ·obtain⟨c,ev⟩:=when_ok ev
  cases ev
  cases (show x=_ from r0.rd rfl)
  exact sl_str pins s σ H _ v vl vu _ _ sl Q I rx hs pl pu ⟨_,rfl,by rw[←big_line];exact of_decide_eq_true c,k _ H (Same.refl H) rfl (NewL.still rfl)⟩
 ·cases ev
noncomputable def SO (T:Tab) (cf:Nat→List D→Res D) (X:Cx) (x:E) (p:Option Expr):Prop:=∀H₀ O₀,PO X p (λσ H Q=>∃O own e d o,Fm X.K H₀ O₀ H O own e σ∧evE T cf x e=.ok d∧d.part=.ok o∧∀H',Same H H'→Q o H')
theorem so_omit:SO T cf X .omit none:=λH₀ O₀ pins s σ H Q I ⟨O,own,e,d,o,F,ev,ep,k⟩=>by
 rw[xE_omit] at ev;cases ev;cases ep
 exact po_none pins s σ H Q I (k H (Same.refl H))
theorem so_some (h:SE T cf X x p):SO T cf X x (some p):=λH₀ O₀ pins s σ H Q I ⟨O,own,e,d,o,F,ev,ep,k⟩=>by
 rw[evalPart_some]
 refine thn (h H₀ O₀ pins s σ H (λv H'=>Same H H'∧RD X.K H' O d v) I ⟨O,own,e,d,F,ev,λv H' s' r _=>⟨s',r⟩⟩) λu s1 ⟨v,H1,I1,r1,s',r⟩=>?_
 unfold D.part at ep
 split at ep
 ·cases ep
  cases (show v=_ from r)
  cases r1
  exact⟨none,H1,I1,.none,k H1 s'⟩
 ·cases ep
  cases (show v=_ from r)
  obtain⟨t,rfl⟩:=r1
  exact⟨_,H1,I1,.int _ t,k H1 s'⟩
 ·cases ep
theorem se_sl {lo hi:Option Expr} (ha:SR T cf X x p) (hl:SO T cf X y lo) (hh:SO T cf X z hi):SE T cf X (.sl x y z) (.Subscript p (.Slice lo hi none pos') pos):=λH₀ O₀=>by
 refine PE.imp (λσ H Q hq=>?_) (pe_slice slr (ha H₀ O₀) (hl H₀ O₀) (hh H₀ O₀))
 obtain⟨O,own,e,d,F,ev,k⟩:=hq
 rw[xE_sl] at ev
 obtain⟨d1,e1,ev⟩:=Res.bind_ok ev
 obtain⟨d2,e2,ev⟩:=Res.bind_ok ev
 obtain⟨o2,e2',ev⟩:=Res.bind_ok ev
 obtain⟨d3,e3,ev⟩:=Res.bind_ok ev
 obtain⟨o3,e3',ev⟩:=Res.bind_ok ev
 refine⟨O,own,e,d1,F,e1,λv1 H1 s1 r1=>⟨O,own,e,d2,o2,F.grow s1,e2,e2',λH2 s2=>⟨O,own,e,d3,o3,(F.grow s1).grow s2,e3,e3',λH3 s3=>?_⟩⟩⟩
 refine⟨O,d1,d,(r1.same s2).same s3,ev,((F.grow s1).grow (s2.trans s3)).trk,λw H' s4 r4 n4=>?_⟩
 exact k w H' ((s1.trans (s2.trans s3)).trans s4) r4 λ_=>n4.back (s1.trans (s2.trans s3))
theorem evA_len {a:E} {e:Nv} {ds:List D} (h:evA T cf a e=.ok ds):ds.length≤1000:=by
 cases a with
 | anil=>(first | rw[xA_anil] at h | rw[xA_acons] at h);cases h;exact Nat.zero_le _
 | acons a r =>
  (first | rw[xA_anil] at h | rw[xA_acons] at h)
  obtain⟨d1,e1,h⟩:=Res.bind_ok h
  obtain⟨d2,e2,h⟩:=Res.bind_ok h
  obtain⟨c,h⟩:=when_ok h
  cases h
  have:=of_decide_eq_true c
  rw[List.length_cons];lia
 | _=>exact absurd (show (Res.no:Res (List D))=Res.ok ds from h) (λz=>by cases z)
theorem sav_nil:SAv T cf X .anil []:=λH₀ O₀ pos pins s σ H Q I ⟨O,own,e,ds,F,ev,k⟩=>by
 rw[xA_anil] at ev;cases ev
 exact pa_nil pos pins s σ H Q I (k [] H (Same.refl H) rfl λj d v _ z=>by cases z)
theorem sav_cons (hp:plainX p=true) (ha:SE T cf X x p) (hr:SAv T cf X y es):SAv T cf X (.acons x y) (p::es):=λH₀ O₀ pos pins s σ H Q I ⟨O,own,e,ds,F,ev,k⟩=>by
 rw[xA_acons] at ev
 obtain⟨d1,e1,ev⟩:=Res.bind_ok ev
 obtain⟨d2,e2,ev⟩:=Res.bind_ok ev
 obtain⟨c,ev⟩:=when_ok ev
 cases ev
 refine pa_cons (ha H₀ O₀) (hr H₀ O₀) (plain_star hp) pos pins s σ H Q I ⟨O,own,e,d1,F,e1,λv1 H1 s1 r1 n1=>⟨O,own,e,d2,F.grow s1,e2,λvs H2 s2 r2 n2=>?_⟩⟩
 refine k (v1::vs) H2 (s1.trans s2) ⟨v1,vs,rfl,r1.same s2,r2⟩ λj d v hf hd hv=>?_
 cases j with
 | zero=>cases hd;cases hv;exact (n1 hf).same s2
 | succ j=>exact (n2 j d v hf hd hv).back s1
theorem sar_nil:SAr T cf X .anil []:=sav_nil.sr
theorem sar_cons (hp:plainX p=true) (ha:SR T cf X x p) (hr:SAr T cf X y es):SAr T cf X (.acons x y) (p::es):=λH₀ O₀ pos pins s σ H Q I ⟨O,own,e,ds,F,ev,k⟩=>by
 rw[xA_acons] at ev
 obtain⟨d1,e1,ev⟩:=Res.bind_ok ev
 obtain⟨d2,e2,ev⟩:=Res.bind_ok ev
 obtain⟨c,ev⟩:=when_ok ev
 cases ev
 refine pa_cons (ha H₀ O₀) (hr H₀ O₀) (plain_star hp) pos pins s σ H Q I ⟨O,own,e,d1,F,e1,λv1 H1 s1 r1=>⟨O,own,e,d2,F.grow s1,e2,λvs H2 s2 r2=>?_⟩⟩
 exact k (v1::vs) H2 (s1.trans s2) ⟨v1,vs,rfl,r1.same s2,r2⟩
theorem len_line {n:Nat} (h:n≤1000):n≤sizeLine:=Nat.le_of_lt (small1000 h)
theorem se_tup {k:Nat} (ha:SAv T cf X x es):SE T cf X (.tup x) (.Tuple es k pos):=λH₀ O₀=>by
 refine PE.imp (λσ H Q hq=>?_) (pe_tup (ha H₀ O₀))
 obtain⟨O,own,e,d,F,ev,k⟩:=hq
 rw[xE_tup] at ev
 obtain⟨ds,e1,ev⟩:=Res.bind_ok ev
 cases ev
 refine⟨O,own,e,ds,F,e1,λvs H1 s1 r1 _=>⟨by rw[r1.length];exact len_line (evA_len e1),λp hp=>?_⟩⟩
 exact k _ _ (s1.trans (same_upd hp _)) (new_tup r1 hp) (λz=>by cases z)
theorem se_lst (ha:SAv T cf X x es):SE T cf X (.lst x) (.List es pos):=λH₀ O₀=>by
 refine PE.imp (λσ H Q hq=>?_) (pe_lst (ha H₀ O₀))
 obtain⟨O,own,e,d,F,ev,k⟩:=hq
 rw[xE_lst] at ev
 obtain⟨ds,e1,ev⟩:=Res.bind_ok ev
 cases ev
 refine⟨O,own,e,ds,F,e1,λvs H1 s1 r1 _=>⟨by rw[r1.length];exact len_line (evA_len e1),λp hp=>?_⟩⟩
 have z:=new_lst r1 hp (F.grow s1).trk
 exact k _ _ (s1.trans (same_upd hp _)) z.1 λ_=>z.2.back s1
theorem empty_len {α β:Type} {xs:List α} {ds:List β} (h:xs.length=ds.length):(!ds.isEmpty)=!xs.isEmpty:=by
 cases xs<;>cases ds<;>first | rfl | (simp at h)
theorem tru_D {K:PySem.W.Frag} {H:Hp} {O:Addr→Prop} {d:D} {v:V} {k:Bool} (r:RR K H O d v) (h:d.truth=.ok k):TruV K v H k:=by
 unfold D.truth at h
 split at h
 ·cases h;cases (show v=_ from r.rd rfl);exact (rfl:false=false)
 ·cases h;cases (show v=_ from r.rd rfl);exact (rfl:k=k)
 ·cases h;cases (show v=_ from r.rd rfl);exact rfl
 ·obtain⟨c,h⟩:=when_ok h
  cases h;cases (show v=_ from r.rd rfl);exact⟨by rw[←big_line];exact of_decide_eq_true c,rfl⟩
 ·cases h
  obtain⟨a,xs,rfl,q,w⟩:=r.tup
  refine .inr (.inl ⟨xs,q,?_⟩)
  exact empty_len w.length
 ·cases h
  obtain⟨a,xs,rfl,q,w⟩:=r.lst
  refine .inl ⟨xs,q,?_⟩
  exact empty_len w.length
 ·cases h
 ·cases h
theorem st_gen (ha:SR T cf X x p) (he:∀whole,isTrue p X.env whole=(do let v ←whole;standAt p.pos;holding [v] (truthy v))):ST T cf X x p:=λH₀ O₀ =>
 PT.imp (λσ H Q ⟨O,own,e,d,k,F,ev,et,q⟩=>⟨O,own,e,d,F,ev,λv H' s r=>⟨k,tru_D r et,q H' s⟩⟩) (pt_truth (ha H₀ O₀) he)
theorem cmp_bl {o:CmpOp} {a b d:D} (h:D.cmp o a b=.ok d):∃k,d=.bl k:=by
 unfold D.cmp at h
 split at h<;>first
  | (obtain⟨_,h⟩:=when_ok h;cases h;exact⟨_,rfl⟩)
  | (cases h;exact⟨_,rfl⟩)
  | (obtain⟨_,_,h⟩:=Res.bind_ok h;cases h;exact⟨_,rfl⟩)
  | cases h
theorem st_cmp {o:CmpOp} (hR:Roomy X) (hm:plainX q=true) (ha:SR T cf X x p) (hb:SR T cf X y q):ST T cf X (.cmp o x y) (.Compare p [o] [q] pos):=λH₀ O₀=>by
 refine PT.imp (λσ H Q hq=>?_) (pt_cmpR (opr_cmp o hR) (ha H₀ O₀) (hb H₀ O₀) (plain_mark hm))
 obtain⟨O,own,e,d,k,F,ev,et,qk⟩:=hq
 rw[xE_cmp] at ev
 obtain⟨d1,e1,ev⟩:=Res.bind_ok ev
 obtain⟨d2,e2,ev⟩:=Res.bind_ok ev
 obtain⟨k',rfl⟩:=cmp_bl ev
 cases et
 refine⟨O,own,e,d1,F,e1,λv1 H1 s1 r1=>⟨O,own,e,d2,F.grow s1,e2,λv2 H2 s2 r2=>?_⟩⟩
 refine⟨O,d1,d2,_,r1.same s2,r2,ev,(F.grow (s1.trans s2)).trk,λv H' s3 r3 _=>?_⟩
 exact⟨k,r3,qk H' ((s1.trans s2).trans s3)⟩
theorem pe_andV {a b:Expr} {rest:List Expr} {ta tb:TE} (ha:PE X a ta) (hb:PE X (.BoolOp .And (b::rest) pos) tb) :
 PE X (.BoolOp .And (a::b::rest) pos) (λσ H Q=>ta σ H λx H1=>∃c,TruV X.K x H1 c∧if c=true then tb σ H1 Q else Q x H1):=by
 intro pins s σ H Q I h
 refine BoolOp_and (thn (ha pins s σ H _ I h) λv s1 ⟨x,H1,I1,r1,c,tc,q1⟩=>?_)
 refine thn (tru_ok pins s1 σ H1 x v (λb H2=>b=c∧H2=H1) I1 r1 ⟨c,tc,rfl,rfl⟩) λb s2 ⟨H2,I2,e1,e2⟩=>?_
 subst e1 e2
 cases b with
 | true=>exact hb pins s2 σ H2 Q I2 q1
 | false=>exact⟨x,H2,I2,r1,q1⟩
theorem se_and {rest:List Expr} (ha:SE T cf X x p) (hb:SE T cf X y (.BoolOp .And (q::rest) pos)):SE T cf X (.and x y) (.BoolOp .And (p::q::rest) pos):=λH₀ O₀=>by
 refine PE.imp (λσ H Q hq=>?_) (pe_andV (ha H₀ O₀) (hb H₀ O₀))
 obtain⟨O,own,e,d,F,ev,k⟩:=hq
 rw[xE_and] at ev
 obtain⟨d1,e1,ev⟩:=Res.bind_ok ev
 obtain⟨c,e2,ev⟩:=Res.bind_ok ev
 refine⟨O,own,e,d1,F,e1,λv1 H1 s1 r1 _=>⟨c,tru_D r1.rr e2,?_⟩⟩
 cases c with
 | true =>
  rw[if_pos rfl] at ev ⊢
  exact⟨O,own,e,d,F.grow s1,ev,λv H' s' r _=>k v H' (s1.trans s') r (λz=>by cases z)⟩
 | false =>
  rw[if_neg Bool.false_ne_true] at ev ⊢
  cases ev
  exact k v1 H1 s1 r1 (λz=>by cases z)
theorem se_one {op:BoolOp} (h:SE T cf X x p):SE T cf X x (.BoolOp op [p] pos):=λH₀ O₀=>pe_one (h H₀ O₀)
theorem se_not (ha:ST T cf X x p) (hv:SR T cf X x p):SE T cf X (.not x) (.UnaryOp .Not p pos):=λH₀ O₀=>by
 intro pins s σ H Q I ⟨O,own,e,d,F,ev,k⟩
 rw[xE_not] at ev
 obtain⟨d1,e1,ev⟩:=Res.bind_ok ev
 obtain⟨c,e2,ev⟩:=Res.bind_ok ev
 cases ev
 refine UnaryOp_ (thn (hv H₀ O₀ pins s σ H (λv1 H1=>Same H H1∧RR X.K H1 O d1 v1) I ⟨O,own,e,d1,F,e1,λv1 H1 s1 r1=>⟨s1,r1⟩⟩) λv s1 ⟨x1,H1,I1,r1,s1',rr⟩=>?_)
 refine not_of ?_
 exact thn (tru_ok pins s1 σ H1 x1 v (λb H2=>b=c∧H2=H1) I1 r1 ⟨c,tru_D rr e2,rfl,rfl⟩) λb s2 ⟨H2,I2,e3,e4⟩=>by
  subst e3 e4
  exact⟨.bl (!b),H2,I2,rfl,k _ H2 s1' rfl (λz=>by cases z)⟩
theorem st_not (ha:ST T cf X x p):ST T cf X (.not x) (.UnaryOp .Not p pos):=λH₀ O₀=>by
 refine PT.imp (λσ H Q hq=>?_) (pt_not (ha H₀ O₀))
 obtain⟨O,own,e,d,k,F,ev,et,qk⟩:=hq
 rw[xE_not] at ev
 obtain⟨d1,e1,ev⟩:=Res.bind_ok ev
 obtain⟨c,e2,ev⟩:=Res.bind_ok ev
 cases ev
 cases et
 exact⟨O,own,e,d1,c,F,e1,e2,λH' s=>qk H' s⟩
noncomputable def SW (T:Tab) (cf:Nat→List D→Res D) (X:Cx) (x:E) (p:Expr):Prop:=∀H₀ O₀,PW X p (tT T cf X.K H₀ O₀ x)
theorem SW.st (h:SW T cf X x p):ST T cf X x p:=λH₀ O₀=>(h H₀ O₀).pt
theorem PW.imp {t t':TT} (h:∀σ H Q,t' σ H Q→t σ H Q) (hp:PW X p t):PW X p t':=λw pins s σ H Q I q=>hp w pins s σ H Q I (h σ H Q q)
theorem sw_and1 (ha:ST T cf X x p):SW T cf X x (.BoolOp .And [p] pos):=λH₀ O₀=>pw_and1 (ha H₀ O₀)
theorem sw_and {rest:List Expr} (ha:ST T cf X x p) (hb:SW T cf X y (.BoolOp .And (q::rest) pos)):SW T cf X (.and x y) (.BoolOp .And (p::q::rest) pos):=λH₀ O₀=>by
 refine PW.imp (λσ H Q hq=>?_) (pw_and (ha H₀ O₀) (hb H₀ O₀))
 obtain⟨O,own,e,d,k,F,ev,et,qk⟩:=hq
 rw[xE_and] at ev
 obtain⟨d1,e1,ev⟩:=Res.bind_ok ev
 obtain⟨c,e2,ev⟩:=Res.bind_ok ev
 refine⟨O,own,e,d1,c,F,e1,e2,λH1 s1=>?_⟩
 cases c with
 | true =>
  rw[if_pos rfl] at ev ⊢
  exact⟨O,own,e,d,k,F.grow s1,ev,et,λH' s'=>qk H' (s1.trans s')⟩
 | false =>
  rw[if_neg Bool.false_ne_true] at ev ⊢
  cases ev
  rw[e2] at et;cases et
  exact qk H1 s1
theorem se_ife (hc:ST T cf X x p) (ha:SE T cf X y q) (hb:SE T cf X z r):SE T cf X (.ife x y z) (.IfExp p q r pos):=λH₀ O₀=>by
 refine PE.imp (λσ H Q hq=>?_) (pe_ifExp (hc H₀ O₀) (ha H₀ O₀) (hb H₀ O₀))
 obtain⟨O,own,e,d,F,ev,k⟩:=hq
 rw[xE_ife] at ev
 obtain⟨d1,e1,ev⟩:=Res.bind_ok ev
 obtain⟨c,e2,ev⟩:=Res.bind_ok ev
 refine⟨O,own,e,d1,c,F,e1,e2,λH1 s1=>?_⟩
 cases c with
 | true =>
  rw[if_pos rfl] at ev ⊢
  exact⟨O,own,e,d,F.grow s1,ev,λv H' s' r _=>k v H' (s1.trans s') r (λz=>by cases z)⟩
 | false =>
  rw[if_neg Bool.false_ne_true] at ev ⊢
  exact⟨O,own,e,d,F.grow s1,ev,λv H' s' r _=>k v H' (s1.trans s') r (λz=>by cases z)⟩
theorem pt_ifExp {c a b:Expr} {tA ta tb:TT} (hc:PT X c tA) (ha:PT X a ta) (hb:PT X b tb):PT X (.IfExp c a b pos) (λσ H Q=>tA σ H λk H1=>if k=true then ta σ H1 Q else tb σ H1 Q):=by
 intro pins s σ H Q I h
 show wpAny _ _ (isTrue c X.env (eval c X.env)>>=λk=>if k=true then isTrue a X.env (eval a X.env) else isTrue b X.env (eval b X.env)) _ _ s
 refine wpAny_bind (thn (hc pins s σ H _ I h) λk s1 ⟨H1,I1,q1⟩=>?_)
 cases k with
 | true=>exact ha pins s1 σ H1 Q I1 q1
 | false=>exact hb pins s1 σ H1 Q I1 q1
theorem st_ife (hc:ST T cf X x p) (ha:ST T cf X y q) (hb:ST T cf X z r):ST T cf X (.ife x y z) (.IfExp p q r pos):=λH₀ O₀=>by
 refine PT.imp (λσ H Q hq=>?_) (pt_ifExp (hc H₀ O₀) (ha H₀ O₀) (hb H₀ O₀))
 obtain⟨O,own,e,d,k,F,ev,et,qk⟩:=hq
 rw[xE_ife] at ev
 obtain⟨d1,e1,ev⟩:=Res.bind_ok ev
 obtain⟨c,e2,ev⟩:=Res.bind_ok ev
 refine⟨O,own,e,d1,c,F,e1,e2,λH1 s1=>?_⟩
 cases c with
 | true =>
  rw[if_pos rfl] at ev ⊢
  exact⟨O,own,e,d,k,F.grow s1,ev,et,λH' s'=>qk H' (s1.trans s')⟩
 | false =>
  rw[if_neg Bool.false_ne_true] at ev ⊢
  exact⟨O,own,e,d,k,F.grow s1,ev,et,λH' s'=>qk H' (s1.trans s')⟩
theorem se_neg (ha:SR T cf X x p):SE T cf X (.neg x) (.UnaryOp .USub p pos):=λH₀ O₀=>by
 refine PE.imp (λσ H Q hq=>?_) (pe_un un_neg (ha H₀ O₀))
 obtain⟨O,own,e,d,F,ev,k⟩:=hq
 (first | rw[xE_rd] at ev | rw[xE_neg] at ev)
 obtain⟨d1,e1,ev⟩:=Res.bind_ok ev
 split at ev
 ·cases ev
  refine⟨O,own,e,_,F,e1,λv1 H1 s1 r1=>⟨_,r1.rd rfl,k _ H1 s1 rfl λz=>by cases z⟩⟩
 ·cases ev
end
section
variable {T:Tab} {cf:Nat→List D→Res D} {X:Cx} {x y z:E} {p q r:Expr} {pos pos':Pos} {es:List Expr}
noncomputable def PayOk (d:D) (od:Option Addr) (H:Hp):Prop:=match d with
 | .int v=>∃dx,od=some dx∧H dx=some (.xd [("at", .int v)])
 | _=>od=none
noncomputable def spD (K:PySem.W.Frag) (F:List D→Res D) (fr:Bool):Sp:=λvs H Q E=>∃O ds,(∀a,O a→∃o,H a=some o)∧RDs K H O ds vs ∧
 ((∃d,F ds=.ok d∧∀v H',Same H H'→RD K H' O d v→(fr=true→NewR K H H' O d v)→Q v H')∨∃c d,F ds=.err c d∧∀od H',Same H H'→PayOk d od H'→E (cvK K c) od H')
noncomputable def DefIs (T:Tab) (cf:Nat→List D→Res D) (X:Cx) (f:Nat) (n:Str):Prop :=
 ∃k a fd ps,FnOk X.prog X.w X.K X.mg X.base (CXE X.prog X.w) k a fd ps (spD X.K (cf f) (T.fresh f))∧Room k X.A∧X.mg n=some (.ref a)∧PySem.W.keepIn X.K (.ref a)=true∧Binds X.K fd ps []
theorem tcall_of {f:Nat} {H₀:Hp} {O₀:Addr→Prop} {σ:L2.St} {H:Hp} {Q:VK} (h:tE T cf X.K H₀ O₀ (.call f x) σ H Q):tCall (spD X.K (cf f) (T.fresh f)) [] E0 (tAv T cf X.K H₀ O₀ x) σ H Q:=by
 obtain⟨O,own,e,d,F,ev,k⟩:=h
 rw[xE_call] at ev
 obtain⟨ds,e1,ev⟩:=Res.bind_ok ev
 refine⟨O,own,e,ds,F,e1,λvs H1 s1 r1 _=>?_⟩
 dsimp only
 rw[List.append_nil]
 refine⟨O,ds,(F.grow s1).trk,r1,.inl ⟨d,ev,λv H' s2 r2 n2=>k v H' (s1.trans s2) r2 λfr=>(n2 fr).1.back s1⟩⟩
theorem se_call {f:Nat} {n:Str} {pn:Pos} (hd:DefIs T cf X f n) (hg:Gl X n) (hdb:(n==("__debug__" : Str))=false) (hp:(p::es).all plainX=true) (ha:SAv T cf X x (p::es)):SE T cf X (.call f x) (.Call (.Name n pn) (p::es) [] pos):=λH₀ O₀=>by
 obtain⟨k,a,fd,ps,Fk,hr,hm,hk,hb⟩:=hd
 rw[List.all_cons,Bool.and_eq_true] at hp
 exact PE.imp (λσ H Q h=>tcall_of h) (pe_call Fk hr hg hm hk hb .nil passE0 (ha H₀ O₀) hdb (plain_star hp.1) (plain_any hp.2))
theorem se_call0 {f:Nat} {n:Str} {pn:Pos} (hd:DefIs T cf X f n) (hg:Gl X n) (hdb:(n==("__debug__" : Str))=false):SE T cf X (.call f .anil) (.Call (.Name n pn) [] [] pos):=λH₀ O₀=>by
 obtain⟨k,a,fd,ps,Fk,hr,hm,hk,hb⟩:=hd
 refine PE.imp (λσ H Q h=>?_) (pe_call0 Fk hr hg hm hk hb .nil passE0 hdb)
 obtain⟨O,own,e,d,F,ev,k⟩:=h
 rw[xE_call] at ev
 obtain⟨ds,e1,ev⟩:=Res.bind_ok ev
 rw[xA_anil] at e1;cases e1
 exact⟨O,[],F.trk,rfl,.inl ⟨d,ev,λv H' s2 r2 n2=>k v H' s2 r2 λfr=>(n2 fr).1⟩⟩
noncomputable def TabF (T:Tab) (cf:Nat→List D→Res D) (X:Cx) (n:Str) (fs:List Nat):Prop :=
 ∃(a:Addr) (xs:List V),X.mg n=some (.ref a)∧(∀H,SqT X.K H a xs)∧xs.length=fs.length∧∀(j f:Nat),fs[j]?=some f→∃(ad:Addr) (m:Str),xs[j]?=some (V.ref ad)∧X.mg m=some (.ref ad)∧DefIs T cf X f m
noncomputable def TabS (X:Cx) (n:Str) (ss:List Str):Prop:=∃a,X.mg n=some (.ref a)∧ModS X.K a ss
theorem ints_vals {K:PySem.W.Frag} {H:Hp} {O:Addr→Prop}:∀ {ds:List D} {ns:List Int} {xs:List V},intsOf ds=.ok ns→RDs K H O ds xs→xs=ns.map V.int
 | [],ns,xs,h,w=>by
  rw[intsOf] at h;cases h
  rw[RDs] at w;subst w;rfl
 | .int i::r,ns,xs,h,w=>by
  rw[intsOf] at h
  obtain⟨q,h1,h⟩:=Res.bind_ok h
  cases h
  obtain⟨v,ys,rfl,e1,e2⟩:=w
  cases (show v=_ from e1)
  rw[ints_vals h1 e2];rfl
 | .non::_,_,_,h,_ | .bl _::_,_,_,h,_ | .str _::_,_,_,h,_ | .tup _::_,_,_,h,_ | .lst _::_,_,_,h,_ | .dct _::_,_,_,h,_ | .tdc _::_,_,_,h,_=>by
  rw[intsOf] at h<;>first | cases h | (intros;rename_i z;cases z)
noncomputable def rB (K:PySem.W.Frag) (f:List D→Res D) (fr:Bool):List V→Hp→VK→Prop:=λvs H Q=>∃O ds d,RRs K H O ds vs∧f ds=.ok d∧(∀a,O a→∃o,H a=some o)∧∀v H',Same H H'→RD K H' O d v→(fr=true→NewL K H H' O d v)→Q v H'
theorem rr1 {K:PySem.W.Frag} {H:Hp} {O:Addr→Prop} {d:D} {vs:List V} (h:RRs K H O [d] vs):∃v,vs=[v]∧RR K H O d v:=by
 obtain⟨v,r,rfl,h1,h2⟩:=h
 rw[RRs] at h2;subst h2
 exact⟨v,rfl,h1⟩
theorem call_sum (hh:X.calm=true):CallR X (.builtin "sum") (λxs H Q=>∃(a:Addr) (ns:List Int),xs=[.ref a]∧SqL X.K H a (ns.map V.int)∧Q (.int ns.sum) H):=by
 intro pins s σ H xs us Q I r h
 obtain⟨a,ns,rfl,hq,q⟩:=h
 obtain⟨u,rfl,rx⟩:=vals1 r
 cases rx
 obtain⟨its,r',pl,hz⟩:=I.list hq
 have hi:IntsAre its ns:=intsAre_of r'
 have hall:=hi.allInts
 obtain⟨ys,hys⟩:=hall.items
 have hn:(numsOf its.toArray.toList)=ns:=by rw[show its.toArray.toList=its by simp];exact hi.numsOf
 refine sum_intListG (xs:=ys) (I.ok.hd hh) (by rw[←hys];exact pl.isList) λh' tk t' hk=>?_
 refine⟨.int ns.sum,H,I.kept (t':=tk) hk,⟨t',?_⟩,q⟩
 rw[hys,nums_intItems] at hn
 rw[preSum_eq,List.take_of_length_le (by simp),←hn]
noncomputable def Bt.val:Bt→Value
 | .len=>.builtin "len"
 | .sum=>.builtin "sum"
 | .tuple=>.type "tuple"
 | .list=>.type "list"
 | .int=>.type "int"
 | .str=>.type "str"
 | .bool=>.type "bool"
 | .abs=>.builtin "abs"
 | .min=>.builtin "min"
 | .max=>.builtin "max"
 | .all=>.builtin "all"
 | .any=>.builtin "any"
noncomputable def Bt.nm:Bt→Str
 | .len => "len"
 | .sum => "sum"
 | .tuple => "tuple"
 | .list => "list"
 | .int => "int"
 | .str => "str"
 | .bool => "bool"
 | .abs => "abs"
 | .min => "min"
 | .max => "max"
 | .all => "all"
 | .any => "any"
theorem run_one {b:Bt} {ds:List D} {d:D} (h:b.run ds=.ok d) (hb:∀d1 d2,b.two d1 d2=.no):∃d0,ds=[d0]∧b.one d0=.ok d:=by
 unfold Bt.run at h
 split at h
 ·exact⟨_,rfl,h⟩
 ·rw[hb] at h;cases h
 ·cases h
theorem bt_len:CallR X (.builtin "len") (rB X.K (Bt.run .len) false):=by
 intro pins s σ H xs us Q I rv h
 obtain⟨O,ds,d,rr,ev,tr,k⟩:=h
 obtain⟨d0,rfl,ev⟩:=run_one ev (λ_ _=>rfl)
 obtain⟨v,rfl,r1⟩:=rr1 rr
 have ev:D.len d0=.ok d:=ev
 unfold D.len at ev
 split at ev
 ·cases ev
  obtain⟨a,ys,rfl,q1,w1⟩:=r1.lst
  exact call_len_seq pins s σ H _ us Q I rv ⟨a,ys,rfl,.inl q1,k _ H (Same.refl H) (by rw[w1.length];exact rfl) (λz=>by cases z)⟩
 ·cases ev
  obtain⟨a,ys,rfl,q1,w1⟩:=r1.tup
  exact call_len_seq pins s σ H _ us Q I rv ⟨a,ys,rfl,.inr q1,k _ H (Same.refl H) (by rw[w1.length];exact rfl) (λz=>by cases z)⟩
 ·obtain⟨c,ev⟩:=when_ok ev
  cases ev
  cases (show v=_ from r1.rd rfl)
  exact call_len_str pins s σ H _ us Q I rv ⟨_,rfl,by rw[←big_line];exact of_decide_eq_true c,k _ H (Same.refl H) rfl (λz=>by cases z)⟩
 ·cases ev
  obtain⟨a,ps,rfl,q1,w1⟩:=r1.dct
  obtain⟨u,rfl,ru⟩:=vals1 rv
  cases ru
  exact d_len I q1 λt s' I'=>⟨.int _,H,I',⟨t,rfl⟩,k _ H (Same.refl H) (by rw[w1.length];exact rfl) (λz=>by cases z)⟩
 ·cases ev
theorem bt_sum (hh:X.calm=true):CallR X (.builtin "sum") (rB X.K (Bt.run .sum) false):=by
 intro pins s σ H xs us Q I rv h
 obtain⟨O,ds,d,rr,ev,tr,k⟩:=h
 obtain⟨d0,rfl,ev⟩:=run_one ev (λ_ _=>rfl)
 obtain⟨v,rfl,r1⟩:=rr1 rr
 have ev:D.sum d0=.ok d:=ev
 unfold D.sum at ev
 split at ev
 ·obtain⟨ns,e1,ev⟩:=Res.bind_ok ev
  cases ev
  obtain⟨a,ys,rfl,q1,w1⟩:=r1.lst
  have e:=ints_vals e1 w1
  subst e
  exact call_sum hh pins s σ H _ us Q I rv ⟨a,ns,rfl,q1,k _ H (Same.refl H) rfl (λz=>by cases z)⟩
 ·cases ev
theorem bt_tuple:CallR X (.type "tuple") (rB X.K (Bt.run .tuple) false):=by
 intro pins s σ H xs us Q I rv h
 obtain⟨O,ds,d,rr,ev,tr,k⟩:=h
 obtain⟨d0,rfl,ev⟩:=run_one ev (λ_ _=>rfl)
 obtain⟨v,rfl,r1⟩:=rr1 rr
 have ev:D.tuple d0=.ok d:=ev
 unfold D.tuple at ev
 split at ev
 ·cases ev
  obtain⟨a,ys,rfl,q1,w1⟩:=r1.lst
  exact call_tuple_of pins s σ H _ us Q I rv ⟨a,ys,rfl,.inl ⟨q1,λl hl=>k _ _ (same_upd hl _) (new_tup w1 hl) (λz=>by cases z)⟩⟩
 ·cases ev
  obtain⟨a,ys,rfl,q1,w1⟩:=r1.tupV
  exact call_tuple_of pins s σ H _ us Q I rv ⟨a,ys,rfl,.inr ⟨q1.sq,k _ H (Same.refl H) ⟨a,ys,rfl,q1,w1⟩ (λz=>by cases z)⟩⟩
 ·cases ev
theorem bt_int:CallR X (.type "int") (rB X.K (Bt.run .int) false):=by
 intro pins s σ H xs us Q I rv h
 obtain⟨O,ds,d,rr,ev,tr,k⟩:=h
 obtain⟨d0,rfl,ev⟩:=run_one ev (λ_ _=>rfl)
 obtain⟨v,rfl,r1⟩:=rr1 rr
 have ev:D.toInt d0=.ok d:=ev
 unfold D.toInt at ev
 split at ev
 ·cases ev
  cases (show v=_ from r1.rd rfl)
  exact call_int1 pins s σ H _ us Q I rv (.inl ⟨_,rfl,k _ H (Same.refl H) rfl (λz=>by cases z)⟩)
 ·cases ev
  cases (show v=_ from r1.rd rfl)
  exact call_int1 pins s σ H _ us Q I rv (.inr ⟨_,rfl,k _ H (Same.refl H) rfl (λz=>by cases z)⟩)
 ·obtain⟨c,ev⟩:=when_ok ev
  cases ev
  rw[Bool.and_eq_true,decide_eq_true_eq] at c
  cases (show v=_ from r1.rd rfl)
  exact call_int_text pins s σ H _ us Q I rv ⟨_,rfl,c.1,c.2,k _ H (Same.refl H) rfl (λz=>by cases z)⟩
 ·cases ev
theorem tcb_of {b:Bt} {H₀:Hp} {O₀:Addr→Prop} {σ:L2.St} {H:Hp} {Q:VK} (h:tE T cf X.K H₀ O₀ (.bt b x) σ H Q):tCB (rB X.K (Bt.run b) (freshE T (.bt b x))) (tAr T cf X.K H₀ O₀ x) σ H Q:=by
 obtain⟨O,own,e,d,F,ev,k⟩:=h
 rw[xE_bt] at ev
 obtain⟨ds,e1,ev⟩:=Res.bind_ok ev
 refine⟨O,own,e,ds,F,e1,λvs H1 s1 r1=>?_⟩
 refine⟨O,ds,d,r1,ev,(F.grow s1).trk,λv H' s2 r2 n2=>k v H' (s1.trans s2) r2 λfr=>(n2 fr).back s1⟩
noncomputable def Bt.use:Bt→Bool
 | .list=>false
 | .str=>false
 | .bool=>false
 | .abs=>false
 | .min=>false
 | .max=>false
 | .all=>false
 | .any=>false
 | _=>true
theorem se_bt {b:Bt} {n:Str} {pn:Pos} (hu:b.use=true) (hh:X.calm=true) (hn:n=b.nm) (hm:X.mg b.nm=none) (hg:Gl X n) (hp:(p::es).all plainX=true) (ha:SAr T cf X x (p::es)):SE T cf X (.bt b x) (.Call (.Name n pn) (p::es) [] pos):=λH₀ O₀=>by
 subst hn
 rw[List.all_cons,Bool.and_eq_true] at hp
 refine PE.imp (λσ H Q h=>tcb_of h) ?_
 cases b with
 | len=>exact pe_callB bt_len hg hm PySem.boot_len (ha H₀ O₀) (by decide) (by decide) (plain_star hp.1) (plain_any hp.2)
 | sum=>exact pe_callB (bt_sum hh) hg hm PyProof.Rows.boot_sum (ha H₀ O₀) (by decide) (by decide) (plain_star hp.1) (plain_any hp.2)
 | tuple=>exact pe_callTy bt_tuple hg hm PyProof.Rows.boot_tuple (ha H₀ O₀) (by decide) (by decide) (plain_star hp.1) (plain_any hp.2)
 | list=>cases hu
 | int=>exact pe_callTy bt_int hg hm PyProof.Rows.boot_int (ha H₀ O₀) (by decide) (by decide) (plain_star hp.1) (plain_any hp.2)
 | str=>cases hu
 | bool=>cases hu
 | abs=>cases hu
 | min=>cases hu
 | max=>cases hu
 | all=>cases hu
 | any=>cases hu
noncomputable def Ty.nm:Ty→String
 | .int => "int"
 | .bool => "bool"
 | .str => "str"
 | .tuple => "tuple"
 | .list => "list"
noncomputable def Mt.nm:Mt→Str
 | .split => "split"
 | .join => "join"
 | .index => "index"
noncomputable def baseX:Expr→Bool
 | .Name _ _=>true
 | .Constant _ _ _=>true
 | .Subscript _ _ _=>true
 | .BinOp _ _ _ _=>true
 | _=>false
theorem base_of {e:Expr} {nm:Str} {env:Env} (h:baseX e=true) (hn:(nm==("__class__" : Str))=false):attributeBase e nm env (eval e env)=eval e env:=by
 cases e<;>first | (cases h;done) | rfl
end
inductive Pin where
 | dv (d:D) (v:V) | fr (a:Addr) (o:Obj) (u:HO)
noncomputable def PinOk (K:PySem.W.Frag) (H:Hp) (O:Addr→Prop):Pin→Prop
 | .dv d v=>RD K H O d v
 | .fr a o u=>H a=some (.frz o u)
noncomputable def PinR (K:PySem.W.Frag) (H:Hp) (O:Addr→Prop):Pin→Prop
 | .dv d v=>RR K H O d v
 | .fr a o u=>H a=some (.frz o u)
section
variable {K:PySem.W.Frag} {H H':Hp} {O O':Addr→Prop} {p:Addr} {t:Pin}
theorem PinOk.rr (h:PinOk K H O t):PinR K H O t:=by
 cases t with
 | dv d v=>exact RD.rr h
 | fr a o u=>exact h
theorem PinOk.same (h:PinOk K H O t) (s:Same H H'):PinOk K H' O t:=by
 cases t with
 | dv d v=>exact RD.same s h
 | fr a o u=>exact s _ _ h
theorem PinOk.new (h:PinOk K H O t) (hp:H p=none):PinOk K H (plus O p) t:=by
 cases t with
 | dv d v=>exact RD.new hp h
 | fr a o u=>exact h
theorem PinOk.weak (h:PinOk K H O t) (s:∀a,O' a→O a):PinOk K H O' t:=by
 cases t with
 | dv d v=>exact RD.weak s h
 | fr a o u=>exact h
theorem PinOk.updM {o o':HO} (h:PinOk K H O t) (hO:O p) (hp:H p=some o) (hm:MutO o):PinOk K (L2.upd H p o') O t:=by
 cases t with
 | dv d v=>exact RD.updM hO hp hm h
 | fr a o1 u=>exact (upd_map (K:=K) hO hp hm).2.2 a o1 u h
theorem PinOk.upd {ys zs:List V} (h:PinOk K H O t) (hO:O p) (hp:H p=some (.lst ys)):PinOk K (L2.upd H p (.lst zs)) O t:=h.updM hO hp trivial
end
noncomputable def Wk1 (K:PySem.W.Frag) (J:It) (d0:D) (v0:V) (ds:List D):Prop:=∀i H O,RR K H O d0 v0 →
 (i < ds.length→J.go i H)∧(ds.length≤i→J.stop i H)∧∀x H' d,ds[i]?=some d→J.yld i H x H'→Same H H'∧RD K H' O d x
noncomputable def Wk (K:PySem.W.Frag) (J:It) (srs:List Pin) (ds:List D):Prop:=∀i H O,(∀t∈srs,PinR K H O t) →
 (i < ds.length→J.go i H)∧(ds.length≤i→J.stop i H)∧∀x H' d,ds[i]?=some d→J.yld i H x H'→Same H H'∧RD K H' O d x
theorem Wk1.wk {K:PySem.W.Frag} {J:It} {d0:D} {v0:V} {ds:List D} (h:Wk1 K J d0 v0 ds):Wk K J [.dv d0 v0] ds:=λi H O r=>h i H O (r (.dv d0 v0) (List.mem_singleton.mpr rfl))
theorem k1_of {K:PySem.W.Frag} {H:Hp} {O:Addr→Prop} {rd:Bool} {ds:List D} {R:It→Hp→Prop} (k:∀J H' srs,Same H H'→(∀t∈srs,PinR K H' O t)→(rd=false→∀t∈srs,PinOk K H' O t)→Wk K J srs ds→R J H') :
 ∀J H' d0 v0,Same H H'→RR K H' O d0 v0→(rd=false→RD K H' O d0 v0)→Wk1 K J d0 v0 ds→R J H':=λJ H' d0 v0 s r rv w =>
 k J H' [.dv d0 v0] s (λt ht=>by rw[List.mem_singleton.mp ht];exact r) (λz t ht=>by rw[List.mem_singleton.mp ht];exact rv z) w.wk
noncomputable def tI (T:Tab) (cf:Nat→List D→Res D) (K:PySem.W.Frag) (H₀:Hp) (O₀:Addr→Prop) (x:E) (rd:Bool):TI:=λσ H R=>∃O own e ds,Fm K H₀ O₀ H O own e σ∧evI T cf x e=.ok ds ∧
 ∀J H' srs,Same H H'→(∀t∈srs,PinR K H' O t)→(rd=false→∀t∈srs,PinOk K H' O t)→Wk K J srs ds→R J H'
noncomputable def SI (T:Tab) (cf:Nat→List D→Res D) (X:Cx) (tg:Expr) (x:E) (rd:Bool) (p:Expr):Prop:=∀H₀ O₀,PI X tg p (tI T cf X.K H₀ O₀ x rd)
section
variable {T:Tab} {cf:Nat→List D→Res D} {X:Cx} {x y z:E} {p q r tg:Expr} {pos pos':Pos} {es:List Expr}
theorem wk_list {K:PySem.W.Frag} {a:Addr} {ds:List D}:Wk1 K (Itl K a) (.lst ds) (.ref a) ds:=by
 intro i H O r
 obtain⟨a',xs,e,q,w⟩:=r.lst
 cases e
 have hl:=w.length
 refine⟨λh=>?_,λh=>⟨xs,q,by lia⟩,λx H' d hd y=>?_⟩
 ·obtain⟨v,h1,h2⟩:=w.get (List.getElem?_eq_getElem h)
  exact⟨xs,v,q,h1⟩
 ·obtain⟨rfl,y⟩:=y
  refine⟨Same.refl _,?_⟩
  obtain⟨v,h1,h2⟩:=w.get hd
  have:=(y xs q).symm.trans h1
  cases this
  exact h2
theorem wk_tup {K:PySem.W.Frag} {a:Addr} {ds:List D}:Wk1 K (Itt K a) (.tup ds) (.ref a) ds:=by
 intro i H O r
 obtain⟨a',xs,e,q,w⟩:=r.tup
 cases e
 have hl:=w.length
 refine⟨λh=>?_,λh=>⟨xs,q,by lia⟩,λx H' d hd y=>?_⟩
 ·obtain⟨v,h1,h2⟩:=w.get (List.getElem?_eq_getElem h)
  exact⟨xs,v,q,h1⟩
 ·obtain⟨rfl,y⟩:=y
  refine⟨Same.refl _,?_⟩
  obtain⟨v,h1,h2⟩:=w.get hd
  have:=(y xs q).symm.trans h1
  cases this
  exact h2
theorem rangeD_len (lo:Int):∀n,(rangeD lo n).length=n
 | 0=>rfl
 | n+1=>by rw[rangeD,List.length_cons,rangeD_len (lo+1) n]
theorem rangeD_get:∀(lo:Int) (n i:Nat),i < n→(rangeD lo n)[i]?=some (.int (lo+i))
 | lo,0,i,h=>absurd h (Nat.not_lt_zero _)
 | lo,n+1,0,_=>by rw[rangeD];simp
 | lo,n+1,i+1,h=>by
  rw[rangeD,List.getElem?_cons_succ,rangeD_get (lo+1) n i (by lia)]
  congr 2
  push_cast
  lia
theorem wk_rng {K:PySem.W.Frag} {lo:Int} {n:Nat}:Wk1 K (Itr lo n) .non .non (rangeD lo n):=by
 intro i H O r
 rw[rangeD_len]
 refine⟨λh=>h,λh=>h,λx H' d hd y=>?_⟩
 obtain⟨rfl,rfl⟩:=y
 refine⟨Same.refl _,?_⟩
 by_cases hi:i < n
 ·rw[rangeD_get lo n i hi] at hd
  cases hd
  exact rfl
 ·rw[List.getElem?_eq_none (by rw[rangeD_len];lia)] at hd
  cases hd
theorem wk_str {K:PySem.W.Frag} {z:Str}:Wk1 K (Its z) (.str z) (.str z) (z.cps.toList.map λc=>D.str (chr1 c)):=by
 intro i H O r
 rw[List.length_map]
 refine⟨λh=>by simpa[Its] using h,λh=>by simpa[Its] using h,λx H' d hd y=>?_⟩
 obtain⟨rfl,c,hc,rfl⟩:=y
 refine⟨Same.refl _,?_⟩
 rw[List.getElem?_map] at hd
 have hc':z.cps.toList[i]?=some c:=by simpa using hc
 rw[hc'] at hd
 cases hd
 exact rfl
theorem si_seq {rd:Bool} (ha:SR T cf X x p) (hv:rd=false→SE T cf X x p):SI T cf X tg (.seq x) rd p:=by
 intro H₀ O₀ pins s σ H R I h
 obtain⟨O,own,e,ds,F,ev,k⟩:=h
 replace k:=k1_of k
 rw[xI_seq] at ev
 obtain⟨d1,e1,ev⟩:=Res.bind_ok ev
 have main:∀ {u:Value} {s1:Shared} {v:V} {H1:Hp},Inv X pins σ H1 s1→RelV v u→Same H H1→RR X.K H1 O d1 v→(rd=false→RD X.K H1 O d1 v)→wpAny (model X.prog X.w) X.A (pyIter u) (PIE X pins σ tg R) X.xe s1:=by
  intro u s1 v H1 I1 r1 s1' rr rv
  unfold D.items at ev
  split at ev
  ·cases ev
   obtain⟨a,xs,e,q1,w1⟩:=rr.lst
   subst e
   cases r1
   obtain⟨its,r',pl,hz⟩:=I1.list q1
   refine wpAny_pyIter_list pl.isList ?_
   refine⟨s1.heap.objs.size,[s1.heap.objs.size],_,Itl X.K a,H1,rfl,I1.kept (t':=s1.toks) λb u e=>Heap.get?_push_of_some _ e,turn_list a _,⟨_,Heap.get?_push_size _ rfl,rfl,rfl⟩,λb hb=>?_,k _ H1 _ _ s1' rr rv wk_list⟩
   rcases List.mem_cons.mp hb with rfl | hb
   ·exact I1.fpOk (Nat.le_refl _) (I1.hok.fresh (Nat.le_refl _))
   ·cases hb
  ·cases ev
   obtain⟨a,xs,e,q1,w1⟩:=rr.tup
   subst e
   cases r1
   obtain⟨its,r',pl,hz⟩:=I1.tuple q1
   refine wpAny_pyIter_tuple pl ?_
   refine⟨s1.heap.objs.size,[s1.heap.objs.size],_,Itt X.K a,H1,rfl,I1.kept (t':=s1.toks) λb u e=>Heap.get?_push_of_some _ e,turn_tuple a _,⟨_,Heap.get?_push_size _ rfl,rfl,rfl⟩,λb hb=>?_,k _ H1 _ _ s1' rr rv wk_tup⟩
   rcases List.mem_cons.mp hb with rfl | hb
   ·exact I1.fpOk (Nat.le_refl _) (I1.hok.fresh (Nat.le_refl _))
   ·cases hb
  ·cases ev
   rename_i z
   cases (show v=.str z from rr.rd rfl)
   obtain⟨t,rfl⟩:=r1
   exact pi_str I1 (k _ H1 (.str z) (.str z) s1' rr rv wk_str)
  ·cases ev
 cases rd with
 | true=>exact thn (ha H₀ O₀ pins s σ H (λv H1=>Same H H1∧RR X.K H1 O d1 v) I ⟨O,own,e,d1,F,e1,λv H' s' r=>⟨s',r⟩⟩) λu s1 ⟨v,H1,I1,r1,s1',rr⟩=>main I1 r1 s1' rr (λz=>by cases z)
 | false=>exact thn (hv rfl H₀ O₀ pins s σ H (λv H1=>Same H H1∧RD X.K H1 O d1 v) I ⟨O,own,e,d1,F,e1,λv H' s' r _=>⟨s',r⟩⟩) λu s1 ⟨v,H1,I1,r1,s1',rr⟩=>main I1 r1 s1' rr.rr (λ_=>rr)
theorem si_rng {rd:Bool} {n:Str} {pn:Pos} (hn:n = "range") (hg:Gl X n) (hm:X.mg "range" = none) (hp:plainX p=true) (ha:SE T cf X x p):SI T cf X tg (.rng x) rd (.Call (.Name n pn) [p] [] pos):=by
 intro H₀ O₀ pins s σ H R I h
 subst hn
 obtain⟨O,own,e,ds,F,ev,k⟩:=h
 replace k:=k1_of k
 rw[xI_rng] at ev
 obtain⟨d1,e1,ev⟩:=Res.bind_ok ev
 refine pi_range1 hg hm (pa_cons (ha H₀ O₀) pa_nil (plain_star hp)) (plain_star hp) pins s σ H R I ⟨O,own,e,d1,F,e1,λv H' s' r _=>?_⟩
 split at ev
 ·obtain⟨c,ev⟩:=when_ok ev
  cases ev
  cases (show v=_ from r)
  simp only[small62,Bool.and_eq_true,decide_eq_true_eq] at c
  exact⟨_,rfl,c.1,c.2,k _ H' .non .non s' (.inl rfl) (λ_=>rfl) wk_rng⟩
 ·cases ev
theorem si_rng2 {rd:Bool} {n:Str} {pn:Pos} (hn:n = "range") (hg:Gl X n) (hm:X.mg "range" = none) (hp:plainX p=true) (hq:plainX q=true) (ha:SE T cf X x p) (hb:SE T cf X y q):SI T cf X tg (.rng2 x y) rd (.Call (.Name n pn) [p,q] [] pos):=by
 intro H₀ O₀ pins s σ H R I h
 subst hn
 obtain⟨O,own,e,ds,F,ev,k⟩:=h
 replace k:=k1_of k
 rw[xI_rng2] at ev
 obtain⟨d1,e1,ev⟩:=Res.bind_ok ev
 split at ev
 ·obtain⟨d2,e2,ev⟩:=Res.bind_ok ev
  split at ev
  ·obtain⟨c,ev⟩:=when_ok ev
   cases ev
   simp only[small62,Bool.and_eq_true,decide_eq_true_eq] at c
   refine pi_range2 hg hm (pa_cons (ha H₀ O₀) (pa_cons (hb H₀ O₀) pa_nil (plain_star hq)) (plain_star hp)) (by rw[plain_star hp,plain_star hq];rfl) (plain_star hq) pins s σ H R I ⟨O,own,e,_,F,e1,λv H1 s1 r1 _=>⟨O,own,e,_,F.grow s1,e2,λv2 H2 s2 r2 _=>?_⟩⟩
   cases (show v=_ from r1)
   cases (show v2=_ from r2)
   exact⟨_,_,rfl,⟨c.1.1,c.1.2,c.2.1,c.2.2⟩,k _ H2 .non .non (s1.trans s2) (.inl rfl) (λ_=>rfl) wk_rng⟩
  ·cases ev
 ·cases ev
noncomputable def Ft (K:PySem.W.Frag) (H₀:Hp) (O₀:Addr→Prop) (ts:List Pin) (e:Nv) (σ:L2.St) (H:Hp):Prop:=∃O own,Fm K H₀ O₀ H O own e σ∧∀t∈ts,PinOk K H O t
noncomputable def tG (K:PySem.W.Frag) (H₀:Hp) (O₀:Addr→Prop) (g:G):TG:=λv σ H Q=>∃O own e d e',Fm K H₀ O₀ H O own e σ∧RD K H O d v∧g.put d e=.ok e'∧∀σ' own',(∀j a,own' j=some a→own j=some a)→Fm K H₀ O₀ H O own' e' σ'→Q σ' H
noncomputable def SG (X:Cx) (g:G) (tg:Expr):Prop:=∀H₀ O₀,PG X tg (tG X.K H₀ O₀ g)
theorem PG.imp {t t':TG} (h:∀v σ H Q,t' v σ H Q→t v σ H Q) (hp:PG X tg t):PG X tg t':=λpins s σ H v u Q I r q=>hp pins s σ H v u Q I r (h v σ H Q q)
theorem own_less {own:Nat→Option Addr} {i:Nat}:∀j a,(λj=>if j=i then none else own j) j=some a→own j=some a:=λj a h=>by
 dsimp only at h
 by_cases hj:j=i
 ·rw[if_pos hj] at h;cases h
 ·rw[if_neg hj] at h;exact h
theorem sg_one {i:Nat} {n:Str} (hN:X.N.Nodup) (hi:X.N[i]?=some n) (hx:Loc X.env.scope n) (hf:X.fn n=true∨X.env.scope.names.lookup n=some .local):SG X (.one i) (.Name n pos):=λH₀ O₀ =>
 PG.imp (λv σ H Q ⟨O,own,e,d,e',F,r,ev,k⟩=>by
  cases ev
  exact k _ _ own_less (F.setV i r)) (pg_name hN hi hx hf)
noncomputable def tGs (K:PySem.W.Frag) (H₀:Hp) (O₀:Addr→Prop) (is:List Nat):TGs:=λvs σ H Q=>∃O own e ds e',Fm K H₀ O₀ H O own e σ∧RDs K H O ds vs∧puts is ds e=.ok e'∧∀σ' own',(∀j a,own' j=some a→own j=some a)→Fm K H₀ O₀ H O own' e' σ'→Q σ' H
noncomputable def SGs (X:Cx) (is:List Nat) (tgs:List Expr):Prop:=∀H₀ O₀,PGs X tgs (tGs X.K H₀ O₀ is)
theorem PGs.imp {tgs:List Expr} {t t':TGs} (h:∀v σ H Q,t' v σ H Q→t v σ H Q) (hp:PGs X tgs t):PGs X tgs t':=λpins s σ H v u Q I r q=>hp pins s σ H v u Q I r (h v σ H Q q)
theorem sgs_nil:SGs X [] []:=λH₀ O₀=>PGs.imp (λvs σ H Q ⟨O,own,e,ds,e',F,r,ev,k⟩=>by
 cases ds with
 | nil =>
  simp only[puts] at ev
  cases ev
  rw[RDs] at r
  exact⟨r,k _ _ (λ_ _ h=>h) F⟩
 | cons d ds=>simp only[puts] at ev;cases ev) pgs_nil
theorem each_name {n:Str} {pos:Pos} {es:List Expr} {env:Env}:(assignEach (.Name n pos::es) env).map (·.2)=assign (.Name n pos) env::(assignEach es env).map (·.2):=rfl
theorem sgs_cons {i:Nat} {is:List Nat} {n:Str} (hN:X.N.Nodup) (hi:X.N[i]?=some n) (hx:Loc X.env.scope n) (hf:X.fn n=true∨X.env.scope.names.lookup n=some .local) (h:SGs X is es):SGs X (i::is) (.Name n pos::es):=λH₀ O₀ =>
 PGs.imp (λvs σ H Q ⟨O,own,e,ds,e',F,r,ev,k⟩=>by
  cases ds with
  | nil=>simp only[puts] at ev;cases ev
  | cons d ds =>
   rw[puts] at ev
   obtain⟨v,vr,rfl,r1,r2⟩:=r
   exact⟨v,vr,rfl,O,_,_,ds,e',F.setV i r1,r2,ev,λσ' own' h=>k σ' own' λj a q=>own_less j a (h j a q)⟩) (pgs_cons (pg_name hN hi hx hf) (h H₀ O₀) each_name)
noncomputable def names1:List Expr→Bool
 | []=>true
 | .Name _ _::r=>names1 r
 | _=>false
theorem each_len {env:Env}:∀ {es:List Expr},names1 es=true→(assignEach es env).length=es.length:=by
 intro es
 induction es with
 | nil=>intro _;rfl
 | cons e es ih =>
  intro h
  cases e with
  | Name n pos =>
   show ((false,assign (.Name n pos) env)::assignEach es env).length=_
   rw[List.length_cons,ih h,List.length_cons]
  | _=>exact absurd h Bool.false_ne_true
theorem each_star {env:Env}:∀ {es:List Expr},names1 es=true→(assignEach es env).findIdx? (·.1)=none:=by
 intro es
 induction es with
 | nil=>intro _;rfl
 | cons e es ih =>
  intro h
  cases e with
  | Name n pos =>
   show ((false,assign (.Name n pos) env)::assignEach es env).findIdx? (·.1)=none
   rw[List.findIdx?_cons,ih h];rfl
  | _=>exact absurd h Bool.false_ne_true
theorem puts_len:∀ {is:List Nat} {ds:List D} {e e':Nv},puts is ds e=.ok e'→ds.length=is.length
 | [],[],_,_,_=>rfl
 | [],_::_,_,_,h=>by simp only[puts] at h;cases h
 | _::_,[],_,_,h=>by simp only[puts] at h;cases h
 | i::is,d::ds,e,e',h=>by
  rw[puts] at h
  rw[List.length_cons,List.length_cons,puts_len h]
theorem sg_many {is:List Nat} {k:Nat} (hc:X.calm=true) (hn:names1 es=true) (hl:es.length=is.length) (h:SGs X is es):SG X (.many is) (.Tuple es k pos):=λH₀ O₀ =>
 PG.imp (λv σ H Q ⟨O,own,e,d,e',F,r,ev,k⟩=>by
  cases d with
  | tup ds =>
   have ev:puts is ds e=.ok e':=ev
   obtain⟨a,xs,rfl,q,w⟩:=r
   exact⟨a,xs,rfl,q.sq,by rw[w.length,puts_len ev,←hl],O,own,e,ds,e',F,w,ev,k⟩
  | non=>cases ev
  | bl _=>cases ev
  | int _=>cases ev
  | str _=>cases ev
  | lst _=>cases ev
  | dct _=>cases ev
  | tdc _=>cases ev) (pg_tup (n:=es.length) hc (h H₀ O₀) (each_len hn) (each_star hn))
noncomputable def Ends.to (K:PySem.W.Frag) (H₀:Hp) (O₀:Addr→Prop) (ts:List Pin) (D':Ends):Out→Prop
 | .nx e'=>∀σ' H',Ft K H₀ O₀ ts e' σ' H'→D'.nx σ' H'
 | .bk e'=>∀σ' H',Ft K H₀ O₀ ts e' σ' H'→D'.bk σ' H'
 | .ct e'=>∀σ' H',Ft K H₀ O₀ ts e' σ' H'→D'.ct σ' H'
 | .rt d fr=>∀v H',Same H₀ H'→RD K H' O₀ d v→(fr=true→NewR K H₀ H' O₀ d v)→D'.rt v H'
 | .rr d a j b k=>∀v H',Same H₀ H'→RD K H' (λc=>O₀ c∨c=a∨c=b) d v→OwnAt K H' (λc=>O₀ c∨c=a∨c=b) a (.dct j)→OwnAt K H' (λc=>O₀ c∨c=a∨c=b) b (.dct k)→D'.rt v H'
noncomputable def tS (T:Tab) (cf:Nat→List D→Res D) (K:PySem.W.Frag) (H₀:Hp) (O₀:Addr→Prop) (x:S):TS:=λD' σ H=>∃ts e out,Ft K H₀ O₀ ts e σ H∧exS T cf x e=.ok out∧Ends.to K H₀ O₀ ts D' out
noncomputable def SS (T:Tab) (cf:Nat→List D→Res D) (X:Cx) (x:S) (p:Stmt):Prop:=∀H₀ O₀,PS X p (tS T cf X.K H₀ O₀ x)
noncomputable def SB (T:Tab) (cf:Nat→List D→Res D) (X:Cx) (x:S) (p:List Stmt):Prop:=∀H₀ O₀,PSs X p (tS T cf X.K H₀ O₀ x)
theorem PS.imp {st:Stmt} {t t':TS} (h:∀D' σ H,t' D' σ H→t D' σ H) (hp:PS X st t):PS X st t':=λpins s σ H D' I q=>hp pins s σ H D' I (h D' σ H q)
theorem PSs.imp {st:List Stmt} {t t':TS} (h:∀D' σ H,t' D' σ H→t D' σ H) (hp:PSs X st t):PSs X st t':=λpins s σ H D' I q=>hp pins s σ H D' I (h D' σ H q)
variable {a b c:S} {st:Stmt} {sts:List Stmt}
theorem freezeA {pins:List (Addr×Obj)} {σ:L2.St} {H:Hp} {s:Shared} {p:Addr} {u:HO} (I:Inv X pins σ H s) (h:H p=some u) (hu:(∃ps,u=.dK ps)∨∃ps,u=.dT ps):∃ob,Inv X pins σ (L2.upd H p (.frz ob u)) s:=by
 rcases hu with ⟨ps,rfl⟩ | ⟨ps,rfl⟩
 ·obtain⟨o,_,_,_,I2⟩:=freeze I h
  exact⟨o,I2⟩
 ·obtain⟨o,_,_,_,I2⟩:=freezeT I h
  exact⟨o,I2⟩
theorem sb_nil:SB T cf X .nil []:=λH₀ O₀=>PSs.imp (λD' σ H ⟨ts,e,out,F,ev,k⟩=>by
 rw[xS_nil] at ev;cases ev
 exact k σ H F) pss_nil
theorem sb_cons (h1:SS T cf X a st) (h2:SB T cf X b sts):SB T cf X (.cons a b) (st::sts):=λH₀ O₀=>by
 refine PSs.imp (λD' σ H hq=>?_) (pss_cons (h1 H₀ O₀) (h2 H₀ O₀))
 obtain⟨ts,e,out,F,ev,k⟩:=hq
 rw[xS_cons] at ev
 obtain⟨o1,e1,ev⟩:=Res.bind_ok ev
 refine⟨ts,e,o1,F,e1,?_⟩
 cases o1 with
 | nx e'=>exact λσ' H' F'=>⟨ts,e',out,F',ev,k⟩
 | rt d fr=>cases ev;exact k
 | rr _ _ _ _ _=>cases ev;exact k
 | bk e'=>cases ev;exact k
 | ct e'=>cases ev;exact k
theorem sb_seal {i:Nat} (h2:SB T cf X b sts):SB T cf X (.cons (.sealed i) b) sts:=λH₀ O₀ pins s σ H D' I hq=>by
 obtain⟨ts,e,out,⟨O,own,F,tt⟩,ev,k⟩:=hq
 (first | rw[xS_cons] at ev | rw[xS_sealed] at ev)
 obtain⟨o1,e1,ev⟩:=Res.bind_ok ev
 (first | rw[xS_cons] at e1 | rw[xS_sealed] at e1)
 obtain⟨l,e2,e1⟩:=Res.bind_ok e1
 cases e1
 cases hd:l.isDct with
 | false =>
  obtain⟨O',own',F',sub⟩:=F.seal i (Sl.ownA_ok e2) hd
  exact h2 H₀ O₀ pins s σ H D' I ⟨ts,_,out,⟨O',own',F',λt ht=>(tt t ht).weak sub⟩,ev,k⟩
 | true =>
  obtain⟨p,u,g1,g2,g3,g4,g5⟩:=F.sealD i (Sl.ownA_ok e2) hd
  obtain⟨ob,I2⟩:=freezeA I g1 g2
  obtain⟨⟨own',F'⟩,_⟩:=g5 ob
  exact h2 H₀ O₀ pins s σ _ D' I2 ⟨ts,_,out,⟨_,own',F',λt ht=>((tt t ht).updM g4.1 g1 g4.2).weak λ_ z=>z.1⟩,ev,k⟩
theorem ss_ret (h:SE T cf X x p):SS T cf X (.ret x) (.Return (some p) pos):=λH₀ O₀=>by
 refine PS.imp (λD' σ H hq=>?_) (ps_ret (h H₀ O₀))
 obtain⟨ts,e,out,⟨O,own,F,tt⟩,ev,k⟩:=hq
 rw[xS_ret] at ev
 obtain⟨d,e1,ev⟩:=Res.bind_ok ev
 cases ev
 refine⟨O,own,e,d,F,e1,λv H' s' r n=>k v H' (F.same.trans s') (r.weak F.sub) λfr=>?_⟩
 rw[Bool.and_eq_true,Bool.not_eq_true'] at fr
 exact NewR.of (((n fr.1).back F.same).weak F.sub) fr.2
theorem ss_retO {i:Nat} {n:Str} (hN:X.N[i]?=some n) (hv:Vis X.env.scope n) (hd:(n==("__debug__" : Str))=false) (hc:(n==("__classdict__" : Str))=false):SS T cf X (.retO i) (.Return (some (.Name n pos')) pos):=λH₀ O₀ pins s σ H D' I hq=>by
 obtain⟨ts,e,out,⟨O,own,F,tt⟩,ev,k⟩:=hq
 rw[xS_retO] at ev
 obtain⟨l,e1,ev⟩:=Res.bind_ok ev
 cases ev
 cases hz:l.isDct with
 | false =>
  rw[hz] at k
  have q:=F.sl i
  rw[Sl.ownA_ok e1] at q
  obtain⟨p,e2,e3,h1⟩:=q
  have hn:=F.new i p e2
  have nO:¬O₀ p:=λz=>by
   obtain⟨o,w⟩:=F.trk0 p z
   rw[hn.2] at w;cases w
  exact ps_ret (pe_var hN hv hd hc) pins s σ H D' I ⟨.ref p,st_get e3,k _ H F.same (OwnAt.rd nO hz (h1.weak F.sub)) λ_=>⟨λ_=>⟨p,rfl,hn.2,h1.weak λb hb=>hb.elim (F.sub b) λz=>z▸hn.1⟩,λ_ a r z=>by subst z;exact h1.elim⟩⟩
 | true =>
  rw[hz] at k
  obtain⟨p,u,g1,g2,g3,g4,g5⟩:=F.sealD i (Sl.ownA_ok e1) hz
  obtain⟨ob,I2⟩:=freezeA I g1 g2
  obtain⟨⟨own',F'⟩,rd⟩:=g5 ob
  exact ps_ret (pe_var hN hv hd hc) pins s σ _ D' I2 ⟨.ref p,st_get g3,k _ _ F'.same (rd.weak F'.sub) λz=>by cases z⟩
noncomputable def notComp:Expr→Bool
 | .ListComp _ _ _ _=>false
 | .SetComp _ _ _ _=>false
 | .DictComp _ _ _ _ _=>false
 | _=>true
noncomputable def notTup:Expr→Bool
 | .Tuple _ _ _=>false
 | _=>true
theorem swaps_no {e:Expr} {t:Option Expr} {l:Nat} {env:Env} (h:notComp e=true):swapsWith e t l env=pure false:=by
 cases e<;>first | rfl | (cases h)
theorem stores_no {e tg:Expr} {env:Env} (h:notTup e=true):swappedStores [tg] e env=pure none:=by
 cases tg<;>first | rfl | (cases e<;>first | rfl | (cases h;done))
theorem each_one {tg:Expr} {env:Env} (h:plainX tg=true):(assignEach [tg] env).map (·.2)=[assign tg env]:=by
 cases tg<;>first | rfl | (cases h)
theorem ss_asg {g:G} (hx:notComp p=true) (ht:notTup p=true) (hq:plainX tg=true) (h:SE T cf X x p) (hg:SG X g tg):SS T cf X (.asg g x) (.Assign [tg] p pos):=λH₀ O₀=>by
 refine PS.imp (λD' σ H hq=>?_) (ps_asg (h H₀ O₀) (hg H₀ O₀) (swaps_no hx) (stores_no ht) (each_one hq))
 obtain⟨ts,e,out,⟨O,own,F,tt⟩,ev,k⟩:=hq
 rw[xS_asg] at ev
 obtain⟨d,e1,ev⟩:=Res.bind_ok ev
 obtain⟨e2,e3,ev⟩:=Res.bind_ok ev
 cases ev
 refine⟨O,own,e,d,F,e1,λv H' s' r n=>⟨O,own,e,d,e2,F.grow s',r,e3,λσ' own' _ F'=>?_⟩⟩
 exact k σ' H' ⟨O,own',F',λt ht=>(tt t ht).same s'⟩
theorem ss_asgO {i:Nat} {n:Str} (hx:notComp p=true) (hN:X.N.Nodup) (hi:X.N[i]?=some n) (hl:Loc X.env.scope n) (hf:X.fn n=true∨X.env.scope.names.lookup n=some .local) (h:SE T cf X x p):SS T cf X (.asgO i x) (.Assign [.Name n pos'] p pos):=λH₀ O₀=>by
 refine PS.imp (λD' σ H hq=>?_) (ps_set hN hi hl (h H₀ O₀) (swaps_no hx) hf)
 obtain⟨ts,e,out,⟨O,own,F,tt⟩,ev,k⟩:=hq
 rw[xS_asgO] at ev
 obtain⟨d,e1,ev⟩:=Res.bind_ok ev
 split at ev
 ·obtain⟨c,ev⟩:=when_ok ev
  cases ev
  refine⟨O,own,e,_,F,e1,λv H' s' r n=>?_⟩
  obtain⟨p,rfl,h2,h3⟩:=n c rfl
  exact k _ H' ⟨_,_,F.setO s' i h2 h3,λt ht=>((tt t ht).new h2).same s'⟩
 ·obtain⟨c,ev⟩:=when_ok ev
  cases ev
  refine⟨O,own,e,_,F,e1,λv H' s' r n=>?_⟩
  obtain⟨p,rfl,h2,h3⟩:=n c rfl
  exact k _ H' ⟨_,_,F.setO s' i h2 h3,λt ht=>((tt t ht).new h2).same s'⟩
 ·obtain⟨c,ev⟩:=when_ok ev
  cases ev
  refine⟨O,own,e,_,F,e1,λv H' s' r n=>?_⟩
  obtain⟨p,rfl,h2,h3⟩:=n c rfl
  exact k _ H' ⟨_,_,F.setO s' i h2 h3,λt ht=>((tt t ht).new h2).same s'⟩
 ·cases ev
theorem ss_newD {i:Nat} {n:Str} {dpos:Pos} (hN:X.N.Nodup) (hi:X.N[i]?=some n) (hl:Loc X.env.scope n) (hf:X.fn n=true∨X.env.scope.names.lookup n=some .local):SS T cf X (.newD i) (.Assign [.Name n pos'] (.Dict [] [] dpos) pos):=λH₀ O₀=>by
 refine PS.imp (λD' σ H hq=>?_) (ps_set hN hi hl pe_dnewK (swaps_no rfl) hf)
 obtain⟨ts,e,out,⟨O,own,F,tt⟩,ev,k⟩:=hq
 rw[xS_newD] at ev
 cases ev
 intro p hp
 exact k _ _ ⟨_,_,F.setO (same_upd hp _) i hp (new_dct (ds:=[]) (ps:=[]) rfl hp),λt ht=>((tt t ht).new hp).same (same_upd hp _)⟩
theorem ss_newT {i:Nat} {n:Str} {dpos:Pos} (hN:X.N.Nodup) (hi:X.N[i]?=some n) (hl:Loc X.env.scope n) (hf:X.fn n=true∨X.env.scope.names.lookup n=some .local):SS T cf X (.newT i) (.Assign [.Name n pos'] (.Dict [] [] dpos) pos):=λH₀ O₀=>by
 refine PS.imp (λD' σ H hq=>?_) (ps_set hN hi hl pe_dnewT (swaps_no rfl) hf)
 obtain⟨ts,e,out,⟨O,own,F,tt⟩,ev,k⟩:=hq
 rw[xS_newT] at ev
 cases ev
 intro p hp
 exact k _ _ ⟨_,_,F.setO (same_upd hp _) i hp (new_tdc (ds:=[]) (ps:=[]) rfl hp),λt ht=>((tt t ht).new hp).same (same_upd hp _)⟩
theorem ss_ite {ps qs:List Stmt} (hc:ST T cf X x p) (ha:SB T cf X a ps) (hb:SB T cf X b qs):SS T cf X (.ite x a b) (.If p ps qs pos):=λH₀ O₀=>by
 refine PS.imp (λD' σ H hq=>?_) (ps_if (hc H₀ O₀) (ha H₀ O₀) (hb H₀ O₀))
 obtain⟨ts,e,out,⟨O,own,F,tt⟩,ev,k⟩:=hq
 rw[xS_ite] at ev
 obtain⟨d,e1,ev⟩:=Res.bind_ok ev
 obtain⟨c,e2,ev⟩:=Res.bind_ok ev
 refine⟨O,own,e,d,c,F,e1,e2,λH1 s1=>?_⟩
 cases c with
 | true=>rw[if_pos rfl] at ev ⊢;exact⟨ts,e,out,⟨O,own,F.grow s1,λt ht=>(tt t ht).same s1⟩,ev,k⟩
 | false=>rw[if_neg Bool.false_ne_true] at ev ⊢;exact⟨ts,e,out,⟨O,own,F.grow s1,λt ht=>(tt t ht).same s1⟩,ev,k⟩
theorem ss_for {g:G} {ps:List Stmt} (hp:PassesOwn (model X.prog X.w) X.A X.env X.xe) (hc:X.calm=true) (hq:plainX p=true) (hi:SI T cf X tg x false p) (hg:SG X g tg) (hb:SB T cf X b ps):SS T cf X (.forS g x b) (.For tg p ps [] pos):=λH₀ O₀=>by
 refine PS.imp (λD' σ H hq=>?_) (ps_for hp hc (hi H₀ O₀) (hg H₀ O₀) (hb H₀ O₀) (plain_fold hq))
 obtain⟨ts,e,out,⟨O,own,F,tt⟩,ev,k⟩:=hq
 rw[xS_forS] at ev
 obtain⟨ds,e1,ev⟩:=Res.bind_ok ev
 refine⟨O,own,e,ds,F,e1,λJ H1 srs s1 rr rv wk=>?_⟩
 refine⟨λi m σ H=>m=ds.length - i∧i≤ds.length∧∃e',Ft X.K H₀ O₀ (srs++ts) e' σ H∧forL (λd e0=>do let e1 ←g.put d e0;exS T cf b e1) (ds.drop i) e'=.ok out,⟨ds.length,by simp,Nat.zero_le _,e,⟨O,own,F.grow s1,λt ht=>?_⟩,by simpa using ev⟩,?_⟩
 ·rcases List.mem_append.mp ht with ht | ht
  ·exact rv rfl t ht
  ·exact (tt t ht).same s1
 rintro i m σ2 H2 ⟨rfl,hi',e',⟨O2,own2,F2,t2⟩,ev2⟩
 obtain⟨w1,w2,w3⟩:=wk i H2 O2 λt ht=>(t2 t (List.mem_append_left _ ht)).rr
 by_cases hlt:i < ds.length
 ·refine .inr ⟨w1 hlt,λσ' H'=>∃e',Ft X.K H₀ O₀ (srs++ts) e' σ' H'∧forL (λd e0=>do let e1 ←g.put d e0;exS T cf b e1) (ds.drop (i+1)) e'=.ok out,λσ' H' n=>⟨ds.length - (i+1),by lia,rfl,hlt,n⟩,λv H' y=>?_⟩
  obtain⟨s3,r3⟩:=w3 v H' _ (List.getElem?_eq_getElem hlt) y
  rw[List.drop_eq_getElem_cons hlt,forL] at ev2
  obtain⟨o1,ev3,ev4⟩:=Res.bind_ok ev2
  obtain⟨e3,ev5,ev6⟩:=Res.bind_ok ev3
  refine⟨O2,own2,e',_,e3,F2.grow s3,r3,ev5,λσ' own' _ F'=>?_⟩
  refine⟨srs++ts,e3,o1,⟨O2,own',F',λt ht=>(t2 t ht).same s3⟩,ev6,?_⟩
  have down:∀ {e'':Nv} {σ'':L2.St} {H'':Hp},Ft X.K H₀ O₀ (srs++ts) e'' σ'' H''→Ft X.K H₀ O₀ ts e'' σ'' H'':=λ⟨O',own',F',t'⟩=>⟨O',own',F',λt ht=>t' t (List.mem_append_right _ ht)⟩
  cases o1 with
  | nx e4=>exact λσ'' H'' F''=>⟨e4,F'',ev4⟩
  | ct e4=>exact λσ'' H'' F''=>⟨e4,F'',ev4⟩
  | bk e4=>cases ev4;exact λσ'' H'' F''=>k σ'' H'' (down F'')
  | rt d fr=>cases ev4;exact k
  | rr _ _ _ _ _=>cases ev4;exact k
 ·have e4:i=ds.length:=by lia
  subst e4
  refine .inl ⟨w2 (Nat.le_refl _),?_⟩
  rw[List.drop_length,forL] at ev2
  cases ev2
  exact k σ2 H2 ⟨O2,own2,F2,λt ht=>t2 t (List.mem_append_right _ ht)⟩
theorem ss_app {i:Nat} {n nm:Str} {px apos cpos:Pos} (hN:X.N[i]?=some n) (hv:Vis X.env.scope n) (hd:(n==("__debug__" : Str))=false) (hc:(n==("__classdict__" : Str))=false) (hnm:nm = "append") (hline:(apos.endLine==cpos.line)=true) (hp:plainX p=true) (h:SE T cf X x p) :
 SS T cf X (.app i x) (.Expr (.Call (.Attribute (.Name n px) nm apos) [p] [] cpos) pos):=λH₀ O₀=>by
 subst hnm
 refine PS.imp (λD' σ H hq=>?_) (ps_expr (pe_bm PySem.F.plainAttrs_list PySem.F.slot_list_append PySem.F.type_list_append mt_append (pe_var hN hv hd hc) (pa_cons (h H₀ O₀) pa_nil (plain_star hp)) rfl (by rw[plain_star hp];rfl) hline (plain_star hp) rfl) rfl)
 obtain⟨ts,e,out,⟨O,own,F,tt⟩,ev,k⟩:=hq
 rw[xS_app] at ev
 obtain⟨d,e1,ev⟩:=Res.bind_ok ev
 obtain⟨l,e2,ev⟩:=Res.bind_ok ev
 obtain⟨c,ev⟩:=when_ok ev
 cases ev
 obtain⟨q0,xs0,f1,f2,f3,f4,f5⟩:=F.mut i (Sl.own_ok e2)
 refine⟨.ref q0,st_get f1,.inl ⟨rfl,xs0,.of f2⟩,O,own,e,d,F,e1,λv H' s' r _=>?_⟩
 obtain⟨q1,xs1,g1,g2,g3,g4,g5⟩:=(F.grow s').mut i (Sl.own_ok e2)
 have eq:q1=q0:=by rw[f1] at g1;cases g1;rfl
 subst eq
 refine⟨q1,xs1,v,rfl,rfl,g2,by rw[g3.length,←big_line];exact of_decide_eq_true c,?_⟩
 exact k _ _ ⟨O,own,g5 _ _ (g3.append ⟨v,[],rfl,r,rfl⟩),λt ht=>((tt t ht).same s').upd g4 g2⟩
theorem ss_ext {i:Nat} {n nm:Str} {px apos cpos:Pos} (hN:X.N[i]?=some n) (hv:Vis X.env.scope n) (hd:(n==("__debug__" : Str))=false) (hc:(n==("__classdict__" : Str))=false) (hnm:nm = "extend") (hline:(apos.endLine==cpos.line)=true) (hp:plainX p=true) (h:SE T cf X x p) :
 SS T cf X (.ext i x) (.Expr (.Call (.Attribute (.Name n px) nm apos) [p] [] cpos) pos):=λH₀ O₀=>by
 subst hnm
 refine PS.imp (λD' σ H hq=>?_) (ps_expr (pe_bm PySem.F.plainAttrs_list PySem.F.slot_list_extend PySem.F.type_list_extend mt_extend (pe_var hN hv hd hc) (pa_cons (h H₀ O₀) pa_nil (plain_star hp)) rfl (by rw[plain_star hp];rfl) hline (plain_star hp) rfl) rfl)
 obtain⟨ts,e,out,⟨O,own,F,tt⟩,ev,k⟩:=hq
 rw[xS_ext] at ev
 obtain⟨d,e1,ev⟩:=Res.bind_ok ev
 split at ev
 ·obtain⟨l,e2,ev⟩:=Res.bind_ok ev
  obtain⟨c,ev⟩:=when_ok ev
  rw[Bool.and_eq_true] at c
  cases ev
  obtain⟨q0,xs0,f1,f2,f3,f4,f5⟩:=F.mut i (Sl.own_ok e2)
  refine⟨.ref q0,st_get f1,.inl ⟨rfl,xs0,.of f2⟩,O,own,e,_,F,e1,λv H' s' r nl=>?_⟩
  obtain⟨b,rfl,hb0,zs,hb1,hb2⟩:=nl c.1 rfl
  obtain⟨q1,xs1,g1,g2,g3,g4,g5⟩:=(F.grow s').mut i (Sl.own_ok e2)
  have eq:q1=q0:=by rw[f1] at g1;cases g1;rfl
  subst eq
  refine⟨q1,b,xs1,zs,rfl,rfl,g2,hb1,by rw[g3.length,hb2.length,←big_line];exact of_decide_eq_true c.2,?_⟩
  exact k _ _ ⟨O,own,g5 _ _ (g3.append (hb2.weak λ_ z=>.inl z)),λt ht=>((tt t ht).same s').upd g4 g2⟩
 ·cases ev
theorem ss_never:SS T cf X .never st:=λH₀ O₀=>PS.imp (λD' σ H ⟨ts,e,out,F,ev,k⟩=>by
 rw[xS_never] at ev;cases ev) ps_never
theorem ss_exp (hs:swapsWith p none pos.line X.env=pure false) (h:SE T cf X x p):SS T cf X (.exp x) (.Expr p pos):=λH₀ O₀=>by
 refine PS.imp (λD' σ H hq=>?_) (ps_expr (h H₀ O₀) hs)
 obtain⟨ts,e,out,⟨O,own,F,tt⟩,ev,k⟩:=hq
 rw[xS_exp] at ev
 obtain⟨d,e1,ev⟩:=Res.bind_ok ev
 cases ev
 exact⟨O,own,e,d,F,e1,λv H' s' r _=>k _ _ ⟨O,own,F.grow s',λt ht=>(tt t ht).same s'⟩⟩
end
section
variable {T:Tab} {cf:Nat→List D→Res D} {X:Cx} {x y z:E} {p q r tg:Expr} {pos pos':Pos} {es:List Expr} {a b c:S} {st:Stmt} {sts:List Stmt}
end
noncomputable def freeCells (cells:List (Str×Addr)):List (Str×NameKind)→List (Str×Addr)→List (Str×Addr)
 | [],cs=>cs
 | (n,k)::r,cs=>freeCells cells r (if (k==.free)=true then (match cells.lookup n with | some c=>(n,c)::cs | none=>cs) else cs)
theorem closure_go {env:Env}:∀(names:List (Str×NameKind)) (cs:List (Str×Addr)),(∀x∈names,x.2=.free→∃c,env.cells.lookup x.1=some c) →
 (forIn names cs (λ(x:Str×NameKind) (r:List (Str×Addr))=>(if (x.2==.free)=true then (do let c ←cellOf env x.1;pure (ForInStep.yield ((x.1,c)::r))) else pure (ForInStep.yield r):Sem _)))=pure (freeCells env.cells names cs)
 | [],cs,_=>rfl
 | (n,k)::r,cs,h=>by
  rw[List.forIn_cons]
  have ih:=closure_go (env:=env) r
  by_cases hk:(k==NameKind.free)=true
  ·have hk':k=.free:=by simpa using hk
   obtain⟨c,hc⟩:=h (n,k) (List.mem_cons_self ..) hk'
   simp only at hc
   simp only[hk,if_true]
   unfold cellOf
   rw[hc]
   show (do let r ←(pure (ForInStep.yield ((n,c)::cs)):Sem _);_)=_
   rw[freeCells,if_pos hk,hc]
   exact ih _ λx hx=>h x (List.mem_cons_of_mem _ hx)
  ·simp only[hk,if_false,Bool.false_eq_true]
   rw[freeCells,if_neg hk]
   exact ih _ λx hx=>h x (List.mem_cons_of_mem _ hx)
theorem closure_eq {scope:Scope} {env:Env} (h:∀x∈scope.names,x.2=.free→∃c,env.cells.lookup x.1=some c):closureFor scope env=pure (freeCells env.cells scope.names []):=by
 have:=closure_go (env:=env) scope.names [] h
 unfold closureFor
 rw[←this]
 first | rfl | simp
theorem freeCells_mem {cells:List (Str×Addr)}:∀ {names:List (Str×NameKind)} {cs:List (Str×Addr)} {n:Str} {c:Addr},(n,c)∈freeCells cells names cs→(n,c)∈cs∨((n,NameKind.free)∈names∧cells.lookup n=some c)
 | [],_,_,_,h=>.inl h
 | (m,k)::r,cs,n,c,h=>by
  rw[freeCells] at h
  rcases freeCells_mem h with g | ⟨h1,h2⟩
  ·clear h
   split at g
   ·rename_i hk
    have hk':k=.free:=by simpa using hk
    subst hk'
    split at g
    ·rename_i c' hc
     rcases List.mem_cons.mp g with e | g
     ·cases e
      exact .inr ⟨List.mem_cons_self ..,hc⟩
     ·exact .inl g
    ·exact .inl g
   ·exact .inl g
  ·exact .inr ⟨List.mem_cons_of_mem _ h1,h2⟩
theorem freeCells_keep {cells:List (Str×Addr)}:∀ {names:List (Str×NameKind)} {cs:List (Str×Addr)} {x:Str×Addr},x∈cs→x∈freeCells cells names cs
 | [],_,_,h=>h
 | (m,k)::r,cs,x,h=>by
  rw[freeCells]
  refine freeCells_keep ?_
  split
  ·split
   ·exact List.mem_cons_of_mem _ h
   ·exact h
  ·exact h
theorem freeCells_has {cells:List (Str×Addr)}:∀ {names:List (Str×NameKind)} {cs:List (Str×Addr)} {n:Str} {c:Addr},(n,NameKind.free)∈names→cells.lookup n=some c→(n,c)∈freeCells cells names cs
 | [],_,_,_,h,_=>by cases h
 | (m,k)::r,cs,n,c,h,hc=>by
  rw[freeCells]
  rcases List.mem_cons.mp h with e | h
  ·cases e
   refine freeCells_keep ?_
   rw[if_pos (by simp),hc]
   exact List.mem_cons_self ..
  ·exact freeCells_has h hc
theorem lookup_of_mem {l:List (Str×Addr)} {n:Str} {c:Addr} (h:(n,c)∈l):∃c',l.lookup n=some c':=by
 induction l with
 | nil=>cases h
 | cons x l ih =>
  obtain⟨m,d⟩:=x
  rw[List.lookup_cons]
  by_cases e:(n==m)=true
  ·rw[e];exact⟨d,rfl⟩
  ·have e':(n==m)=false:=by simpa using e
   rw[e']
   rcases List.mem_cons.mp h with z | z
   ·cases z;simp at e
   ·exact ih z
theorem relabel_free {env:Env}:∀ {names:List (Str×NameKind)} {x:Str},(∀y∈names,y.2≠.cell) →
 ((names.map λ(n,k)=>if (k==NameKind.free&&env.scope.kind==.function&&env.kindOf n==some .cell) then (n,NameKind.cell) else (n,k)).lookup x=some .cell ∨
  (names.map λ(n,k)=>if (k==NameKind.free&&env.scope.kind==.function&&env.kindOf n==some .cell) then (n,NameKind.cell) else (n,k)).lookup x=some .free)→(x,NameKind.free)∈names
 | [],_,_,h=>by rcases h with h | h<;>cases h
 | (n,k)::r,x,hc,h=>by
  have hk:=hc (n,k) (List.mem_cons_self ..)
  have ih:=@relabel_free env r x λy hy=>hc y (List.mem_cons_of_mem _ hy)
  rw[List.map_cons] at h
  dsimp only at h
  by_cases hx:(x==n)=true
  ·have hx':x=n:=by simpa using hx
   subst hx'
   refine List.mem_cons.mpr (.inl ?_)
   by_cases z:(k==NameKind.free&&env.scope.kind==.function&&env.kindOf x==some .cell)=true
   ·have:k=.free:=by
     cases k<;>first | rfl | (exact absurd z (by simp))
    rw[this]
   ·rw[if_neg z] at h
    simp only[List.lookup_cons,beq_self_eq_true] at h
    rcases h with h | h
    ·cases h;exact absurd rfl hk
    ·cases h;rfl
  ·have hx':(x==n)=false:=by simpa using hx
   refine List.mem_cons_of_mem _ (ih ?_)
   by_cases z:(k==NameKind.free&&env.scope.kind==.function&&env.kindOf n==some .cell)=true
   ·rw[if_pos z] at h
    simpa only[List.lookup_cons,hx'] using h
   ·rw[if_neg z] at h
    simpa only[List.lookup_cons,hx'] using h
theorem relabel_local {env:Env}:∀ {names:List (Str×NameKind)} {x:Str},
 (names.map λ(n,k)=>if (k==NameKind.free&&env.scope.kind==.function&&env.kindOf n==some .cell) then (n,NameKind.cell) else (n,k)).lookup x=some .local→names.lookup x=some .local
 | [],_,h=>by cases h
 | (n,k)::r,x,h=>by
  have ih:=@relabel_local env r x
  rw[List.map_cons] at h
  dsimp only at h
  by_cases z:(k==NameKind.free&&env.scope.kind==.function&&env.kindOf n==some .cell)=true
  ·rw[if_pos z] at h
   by_cases hx:(x==n)=true
   ·simp only[List.lookup_cons,hx] at h;cases h
   ·have hx':(x==n)=false:=by simpa using hx
    simp only[List.lookup_cons,hx'] at h ⊢
    exact ih h
  ·rw[if_neg z] at h
   by_cases hx:(x==n)=true
   ·simp only[List.lookup_cons,hx] at h ⊢;exact h
   ·have hx':(x==n)=false:=by simpa using hx
    simp only[List.lookup_cons,hx'] at h ⊢
    exact ih h
noncomputable def cxC (X:Cx) (scope:Scope) (C:Addr) (Nc:List Str) (s2:Shared) (H2:Hp) (fp:List Addr):Cx where
 prog:=X.prog
 w:=X.w
 K:=X.K
 mg:=X.mg
 base:=X.base
 A:=X.A
 N:=Nc
 s₀:=s2
 H₀:=H2
 env:=compEnvC scope (freeCells X.env.cells scope.names []) C X.env
 outer:=X.stack
 stack:=X.stack
 ex:=fp
 fn:=λn=>scope.names.lookup n==some .local
 calm:=X.calm
 pn:=[]
 xe:=λ_ _=>False
set_option genInjectivity false in
structure ScopeC (X:Cx) (scope:Scope):Prop where
 kind:scope.kind=.function
 cell:∀y∈scope.names,y.2≠.cell
 names:∀x∈scope.names,x.2=.local→scope.names.lookup x.1=some .local
 nd:∀x∈scope.names,x.2=.free→scope.names.lookup x.1≠some .local
 free:∀x∈scope.names,x.2=.free→X.env.kindOf x.1=some .cell∨X.env.kindOf x.1=some .free
section
variable {X:Cx} {scope:Scope} {C:Addr} {Nc:List Str} {s2:Shared} {H2:Hp} {fp:List Addr} {pins:List (Addr×Obj)} {σ:L2.St}
theorem cl_get {x:Str} {c:Addr} (h:(freeCells X.env.cells scope.names []).lookup x=some c):(x,NameKind.free)∈scope.names∧X.env.cells.lookup x=some c:=by
 rcases freeCells_mem (PySem.mem_of_lookup h) with z | z
 ·cases z
 ·exact z
theorem ScopeC.cells (S:ScopeC X scope) (ok:X.Ok):∀x∈scope.names,x.2=.free→∃c,X.env.cells.lookup x.1=some c:=λx hx hf=>ok.has x.1 (S.free x hx hf)
theorem cxC_ok (I:Inv X pins σ H2 s2) (S:ScopeC X scope) (hfp:∀b∈fp,FpOk X pins H2 b) (hfo:∀b∈fp,b < s2.heap.objs.size) (hC:s2.heap.objs.size≤C):(cxC X scope C Nc s2 H2 fp).Ok where
 mod:=I.ok.mod
 kind:=S.kind
 glob:=I.ok.glob
 blt:=I.ok.blt
 above:=hC
 inj:=λx y c h1 h2=>I.ok.inj x y c (cl_get h1).2 (cl_get h2).2
 has:=λx h=>by
  have hf:=relabel_free (env:=X.env) S.cell h
  obtain⟨c,hc⟩:=S.cells I.ok (x,.free) hf rfl
  exact lookup_of_mem (freeCells_has hf hc)
 cab:=λx c h1 h2=>by
  have h1':scope.names.lookup x=some .local:=by simpa[cxC] using h1
  exact absurd h1' (S.nd (x,.free) (cl_get h2).1 rfl)
 hd:=I.ok.hd
 frames:=I.ok.frames
 stk:=.inl rfl
 exf:=λb hb=>⟨Nat.ne_of_lt (Nat.lt_of_lt_of_le (hfo b hb) hC),λx c h=>(hfp b hb).2.2.2.2.1 x c (cl_get h).2⟩
 bs:=I.bs
 bsz:=Nat.le_trans I.ok.bsz I.sz
 noex:=λb o e hb=>by
  rcases (hfp b hb).2.2.2.1 with z | z
  ·exact I.ok.noex b o e z
  ·exact absurd (Nat.lt_of_lt_of_le (Heap.lt_size e) (Nat.le_trans I.ok.bsz z)) (Nat.lt_irrefl _)
 exfs:=λb hb z=>by
  rcases List.mem_cons.mp (I.stkSub b z) with z | z
  ·exact (hfp b hb).2.1 z
  ·exact (hfp b hb).2.2.1 z
 funs:=I.stack
 frf:=I.stkFree
noncomputable def stC (own:Nat) (caps:List Nat) (σ:L2.St):L2.St:=List.replicate own none++caps.map λi=>stAt σ i
set_option genInjectivity false in
structure CapsOk (X:Cx) (scope:Scope) (own:Nat) (caps:List Nat) (Nc:List Str):Prop where
 len:Nc.length=own+caps.length
 nd:caps.Nodup
 cap:∀j i,caps[j]?=some i→∃n,X.N[i]?=some n∧Nc[own+j]?=some n∧(n,NameKind.free)∈scope.names
theorem stC_get {own:Nat} {caps:List Nat} {j:Nat} {v:V} (h:(stC own caps σ)[j]?=some (some v)):∃k i,j=own+k∧caps[k]?=some i∧stAt σ i=some v:=by
 unfold stC at h
 by_cases hj:j < own
 ·rw[List.getElem?_append_left (by rw[List.length_replicate];exact hj),List.getElem?_replicate,if_pos hj] at h
  cases h
 ·rw[List.getElem?_append_right (by rw[List.length_replicate];lia),List.length_replicate,List.getElem?_map] at h
  cases e:caps[j - own]? with
  | none=>rw[e] at h;cases h
  | some i =>
   rw[e] at h
   exact⟨j - own,i,by lia,e,Option.some.inj h⟩
theorem vis_of (I:Inv X pins σ H2 s2) (S:ScopeC X scope) {n:Str} (h:(n,NameKind.free)∈scope.names):Vis X.env.scope n:=by
 rcases S.free _ h rfl with z | z
 ·exact .inr (.inl z)
 ·exact .inr (.inr z)
theorem invC {own:Nat} {caps:List Nat} {h1:Heap} {t1:Nat} (I:Inv X pins σ H2 s2) (S:ScopeC X scope) (P:CapsOk X scope own caps Nc) (ok:(cxC X scope C Nc s2 H2 fp).Ok)
 (keep:∀b o,s2.heap.get? b=some o→h1.get? b=some o) (hC:s2.heap.objs.size < C) (ns:h1.Ns C λ_=>none) (acc:h1.get? s2.heap.objs.size=some { cls:=.type "list", data:=.seq #[] }) :
 Inv (cxC X scope C Nc s2 H2 fp) [] (stC own caps σ) (upd H2 s2.heap.objs.size (.lst [])) { s2 with heap:=h1,toks:=t1 }:=by
 have fr:H2 s2.heap.objs.size=none:=I.hok.fresh (Nat.le_refl _)
 have cellK:∀x c v,X.env.cells.lookup x=some c→s2.heap.IsCell c v→h1.IsCell c v:=λx c v _ ⟨o,ho,hd⟩=>⟨o,keep c o ho,hd⟩
 refine⟨ok,rfl,I.bare,Un.laid keep (Nat.le_refl _) fr,⟨_,ns,λi x v e1 e2 e3=>?_⟩,λx c h=>?_,?_,λx c h=>?_,λp hp=>absurd hp (by simp[cxC]),I.hok.laid keep (Nat.le_refl _) ?_,?_⟩
 ·obtain⟨k,i',rfl,hk,hv⟩:=stC_get e2
  obtain⟨n,hn1,hn2,hn3⟩:=P.cap k i' hk
  have e1':Nc[own+k]?=some x:=e1
  rw[hn2] at e1';cases e1'
  obtain⟨m,hm,hl⟩:=I.loc
  obtain⟨u,ru,lk⟩:=hl i' _ v hn1 (st_get hv) (vis_of I S hn3)
  refine⟨u,ru,?_⟩
  rcases lk with ⟨kl,_⟩ | ⟨_,c,hc,hcell⟩
  ·rcases S.free _ hn3 rfl with z | z
   ·rw[kl] at z;cases z
   ·rw[kl] at z;cases z
  ·refine .inr ⟨?_,?_⟩
   ·rcases e3 with z | z
    ·exact absurd (relabel_local (env:=X.env) z) (S.nd _ hn3 rfl)
    ·exact z
   ·obtain⟨c',hc'⟩:=lookup_of_mem (freeCells_has (cs:=[]) hn3 hc)
    have:=(cl_get hc').2
    rw[hc] at this;cases this
    exact⟨c,hc',cellK _ c _ hc hcell⟩
 ·obtain⟨v,z⟩:=I.cell x c (cl_get h).2
  exact⟨v,cellK x c v (cl_get h).2 z⟩
 ·show upd H2 s2.heap.objs.size (.lst []) C=none
  rw[upd_ne (Nat.ne_of_gt hC)]
  exact I.hok.fresh (Nat.le_of_lt hC)
 ·obtain⟨v,z⟩:=I.cell x c (cl_get h).2
  rw[upd_ne (Nat.ne_of_lt z.lt)]
  exact I.freeC x c (cl_get h).2
 ·exact⟨Nat.zero_le _,[],0,.nil,acc⟩
 ·show (stC own caps σ).length=Nc.length
  unfold stC
  rw[List.length_append,List.length_replicate,List.length_map,P.len]
theorem Un.but {fs ex:List Addr} {H H':Hp} {h h1 h2:Heap} {C:Addr} (u:Un fs ex H H' h h1) (hC:h.objs.size≤C) (s:Heap.SameBut C h1 h2):Un fs ex H H' h h2 where
 keep:=λb o e n hb hx=>(s.2 b (Nat.ne_of_lt (Nat.lt_of_lt_of_le (Heap.lt_size e) hC))).trans (u.keep b o e n hb hx)
 slot:=λb o e n hb hx=>let ⟨sl,q⟩:=u.slot b o e n hb hx;⟨sl,(s.2 b (Nat.ne_of_lt (Nat.lt_of_lt_of_le (Heap.lt_size e) hC))).trans q⟩
 free:=u.free
 there:=λb o e hx=>let ⟨o',q⟩:=u.there b o e hx;⟨o',(s.2 b (Nat.ne_of_lt (Nat.lt_of_lt_of_le (Heap.lt_size e) hC))).trans q⟩
 tups:=u.tups
 frzs:=u.frzs
 tbls:=u.tbls
theorem HOk.but {P:Program} {w:World} {H:Hp} {h1 h2:Heap} {C:Addr} (x:HOk P w H h1) (hC:H C=none) (s:Heap.SameBut C h1 h2):HOk P w H h2:=λb ob e=>by
 refine (x b ob e).stay (λc w' hc q=>(s.2 c ?_).trans q) (λ_ q=>q) λ_ _ q=>q
 rintro rfl
 rcases hc with rfl | hc
 ·rw[hC] at e;cases e
 ·rw[hC] at hc;cases hc
theorem outC {σi:L2.St} {Hi:Hp} {s':Shared} {h':Heap} (I:Inv X pins σ H2 s2) (Ic:Inv (cxC X scope C Nc s2 H2 fp) [] σi Hi s') (hfp:∀b∈fp,FpOk X pins H2 b) (hC:s2.heap.objs.size≤C) (sb:Heap.SameBut C s'.heap h'):Inv X pins σ Hi { s' with heap:=h' }:=by
 refine I.call' (s':={ s' with heap:=h' }) (ch:=fp) Ic.os ?_ ?_ Ic.bare λb hb=>?_
 ·exact Un.but (show Un (frs X.stack) fp H2 Hi s2.heap s'.heap from Ic.base) hC sb
 ·exact HOk.but (show HOk X.prog X.w Hi s'.heap from Ic.hok) (show Hi C=none from Ic.free) sb
 ·obtain⟨_,a1,_,a3,a4,a5⟩:=hfp b hb
  exact⟨a3,a1,a4,a5⟩
end
section
variable {prog:Program} {w:World} {A:Around} {R:Result→Shared→Prop} {s:Shared}
theorem compLoop_gen {elt target iter:Expr} {ifs:List Expr} {scope:Scope} {pos:Pos} {it acc:Value} {env:Env} (I:Nat→Shared→Prop)
 (turn:∀n s,I n s→wpAny (model prog w) A (pyNext it) (λr s₁=>match r with
  | none=>R (.ok .next) s₁
  | some v=>wpAny (model prog w) A (letOwnedTupleGo target it v) (λ_ s₀=>wpAny (model prog w) A (assign target env v) (λ_ s₂ =>
   wpAny (model prog w) A (forIn ifs true λc r=>if r=true then do let ok ←isTrue c env (eval c env);pure (ForInStep.yield ok) else pure (ForInStep.yield r)) (λok s₃ =>
    if ok=true then wpAny (model prog w) A (eval elt env) (λx s₄ =>
     wpAny (model prog w) A (call (.builtin "list.append") [acc,x]) (λ_ s₅=>∃m,m < n∧I m s₅) (λ_ _=>False) s₄) (λ_ _=>False) s₃
    else ∃m,m < n∧I m s₃) (λ_ _=>False) s₂) (λ_ _=>False) s₀) (λ_ _=>False) s₁) (λ_ _=>False) s)
 (n:Nat) (h:I n s) :
 codeAny (model prog w) A (.compLoop (.ListComp elt [⟨target,iter,ifs,0⟩] scope pos) 0 it acc env) R s:=by
 refine codeAny_loop rfl I (λn s hI=>?_) n h
 show wpAny _ A ((compTurn (.ListComp elt [⟨target,iter,ifs,0⟩] scope pos) 0 it acc env).onRaise (λx=>do noteFrame x env;theTreesLotGoes x)) _ _ s
 refine wpAny_noted ?_
 rw[compTurn_list]
 refine wpAny_bind (wpAny_standAt (wpAny_bind (wpAny_mono (turn n s hI) (λr s₁ h₁=>?_) λ_ _ h'=>h'.elim)))
 cases r with
 | none=>exact wpAny_pure h₁
 | some v =>
  refine wpAny_bind (wpAny_mono h₁ (λ_ s₀ h₀=>?_) λ_ _ h'=>h'.elim)
  refine wpAny_bind (wpAny_mono h₀ (λ_ s₂ h₂=>wpAny_bind (wpAny_mono h₂ (λok s₃ h₃=>?_) λ_ _ h'=>h'.elim)) λ_ _ h'=>h'.elim)
  cases ok with
  | false=>exact wpAny_pure ⟨rfl,h₃⟩
  | true =>
   exact wpAny_bind (wpAny_bind (wpAny_mono h₃ (λx s₄ h₄=>wpAny_bind (wpAny_mono h₄ (λ_ s₅ h₅=>wpAny_pure (wpAny_pure ⟨rfl,h₅⟩)) λ_ _ h'=>h'.elim)) λ_ _ h'=>h'.elim))
end
section
variable {K:PySem.W.Frag} {H₀ H H':Hp} {O₀ O O':Addr→Prop} {own:Nat→Option Addr} {e e':Nv} {σ:L2.St}
theorem Fm.updO (F:Fm K H₀ O₀ H O own e σ) {p:Addr} {ys zs:List V} (hO:O p) (hp:H p=some (.lst ys)) (h0:H₀ p=none) (hn:∀j,own j≠some p):Fm K H₀ O₀ (upd H p (.lst zs)) O own e σ where
 len:=F.len
 sl:=λj=>RS.map (λq=>q.upd hO hp) (λq=>q.upd hO hp) (λq=>q.updM hO hp trivial) (λq=>q.updM hO hp trivial) (λa ys ea _ q=>by
  have:a≠p:=λz=>hn j (z▸ea)
  rw[upd_ne this];exact q) (F.sl j) (nn_upd hO) (upd_map (K:=K) hO hp trivial).1
 inj:=F.inj
 same:=λb o hb=>by rw[upd_ne (λz=>by rw[z,h0] at hb;cases hb)];exact F.same b o hb
 sub:=F.sub
 trk0:=F.trk0
 trk:=λa ha=>by
  by_cases h:a=p
  ·subst h;exact⟨_,upd_same⟩
  ·obtain⟨ys,q⟩:=F.trk a ha
   exact⟨ys,by rw[upd_ne h];exact q⟩
 new:=F.new
 nw:=F.nw
theorem Fm.back (F:Fm K H₀ O₀ H O own e σ) (hl:e'.length=e.length) (h:∀j,e'.at j=.no∨e'.at j=e.at j):Fm K H₀ O₀ H O own e' σ where
 len:=hl.trans F.len
 sl:=λj=>by
  rcases h j with z | z
  ·rw[z];trivial
  ·rw[z];exact F.sl j
 inj:=F.inj
 same:=F.same
 sub:=F.sub
 trk0:=F.trk0
 trk:=F.trk
 new:=F.new
 nw:=λj d a h1 h2=>by
  rcases h j with z | z
  ·rw[z] at h1;cases h1
  ·rw[z] at h1;exact F.nw j d a h1 h2
theorem compEnv_at {n:Nat} {caps:List Nat} {e:Nv} (j:Nat):(compEnv n caps e).at j=.no∨∃k i,j=n+k∧caps[k]?=some i∧(compEnv n caps e).at j=e.at i:=by
 unfold compEnv
 by_cases hj:j < n
 ·left
  unfold Nv.at
  rw[List.getElem?_append_left (by rw[List.length_replicate];exact hj),List.getElem?_replicate,if_pos hj];rfl
 ·cases q:caps[j - n]? with
  | none =>
   left
   unfold Nv.at
   rw[List.getElem?_append_right (by rw[List.length_replicate];lia),List.length_replicate,List.getElem?_map,q];rfl
  | some i =>
   right
   refine⟨j - n,i,by lia,q,?_⟩
   show (((List.replicate n Sl.no++caps.map λi=>e.at i))[j]?).getD .no=_
   rw[List.getElem?_append_right (by rw[List.length_replicate];lia),List.length_replicate,List.getElem?_map,q];rfl
theorem nodup_get {l:List Nat} (h:l.Nodup) {j k i:Nat} (h1:l[j]?=some i) (h2:l[k]?=some i):j=k:=by
 obtain⟨a,e1⟩:=List.getElem?_eq_some_iff.mp h1
 obtain⟨b,e2⟩:=List.getElem?_eq_some_iff.mp h2
 exact (List.getElem_inj h).mp (e1.trans e2.symm)
theorem Fm.comp (F:Fm K H₀ O₀ H O own e σ) (n:Nat) {caps:List Nat} (hc:caps.Nodup) {p:Addr} (hp:H p=none) {xs:List V} :
 ∃own',Fm K H₀ O₀ (upd H p (.lst xs)) (plus O p) own' (compEnv n caps e) (stC n caps σ)∧∀j,own' j≠some p:=by
 have np:∀j,own j≠some p:=λj q=>by
  obtain⟨ys,w⟩:=F.trk p (F.new j p q).1
  rw[hp] at w;cases w
 have sm:=same_upd hp (.lst xs)
 refine⟨λj=>if j < n then none else (caps[j - n]?).bind own,⟨?_,λj=>?_,λj k a h1 h2=>?_,F.same.trans sm,λa h=>.inl (F.sub a h),F.trk0,λa h=>?_,λj a h1=>?_,λj d a h1 h2=>?_⟩,λj h1=>?_⟩
 ·unfold compEnv stC
  simp
 ·rcases compEnv_at (n:=n) (caps:=caps) (e:=e) j with z | ⟨k,i,rfl,hk,z⟩
  ·rw[z];trivial
  ·rw[z,if_neg (by lia),show n+k - n=k by lia,hk]
   have e1:stAt (stC n caps σ) (n+k)=stAt σ i:=by
    unfold stC
    unfold stAt
    rw[List.getElem?_append_right (by rw[List.length_replicate];lia),List.length_replicate,List.getElem?_map,show n+k - n=k by lia,hk]
    rfl
   rw[e1]
   exact RS.map (λq=>(q.new hp).same sm) (λq=>(q.new hp).same sm) (λq=>(q.new hp).same sm) (λq=>(q.new hp).same sm) (λa ys _ _ q=>sm _ _ q) (F.sl i) (nn_new hp sm)
 ·by_cases hj:j < n
  ·rw[if_pos hj] at h1;cases h1
  ·by_cases hk:k < n
   ·rw[if_pos hk] at h2;cases h2
   ·rw[if_neg hj] at h1
    rw[if_neg hk] at h2
    cases q1:caps[j - n]? with
    | none=>rw[q1] at h1;cases h1
    | some i1 =>
     cases q2:caps[k - n]? with
     | none=>rw[q2] at h2;cases h2
     | some i2 =>
      rw[q1] at h1
      rw[q2] at h2
      have:=F.inj i1 i2 a h1 h2
      subst this
      have:=nodup_get hc q1 q2
      lia
 ·rcases h with h | h
  ·obtain⟨ys,q⟩:=F.trk a h
   exact⟨ys,sm _ _ q⟩
  ·subst h;exact⟨_,upd_same⟩
 ·by_cases hj:j < n
  ·rw[if_pos hj] at h1;cases h1
  ·rw[if_neg hj] at h1
   cases q1:caps[j - n]? with
   | none=>rw[q1] at h1;cases h1
   | some i1 =>
    rw[q1] at h1
    exact⟨.inl (F.new i1 a h1).1,(F.new i1 a h1).2⟩
 ·rcases compEnv_at (n:=n) (caps:=caps) (e:=e) j with z | ⟨k,i,rfl,hk,z⟩
  ·rw[z] at h1;cases h1
  ·rw[z] at h1
   refine F.nw i d a h1 ?_
   rw[←h2]
   unfold stC
   unfold stAt
   rw[List.getElem?_append_right (by rw[List.length_replicate];lia),List.length_replicate,List.getElem?_map,show n+k - n=k by lia,hk]
   rfl
 ·dsimp only at h1
  by_cases hj:j < n
  ·rw[if_pos hj] at h1;cases h1
  ·rw[if_neg hj] at h1
   cases q1:caps[j - n]? with
   | none=>rw[q1] at h1;cases h1
   | some i1 =>
    rw[q1] at h1
    exact np i1 h1
noncomputable def G.below (n:Nat):G→Bool
 | .one i=>decide (i < n)
 | .many is=>is.all λi=>decide (i < n)
theorem puts_back {n:Nat}:∀ {is:List Nat} {ds:List D} {e e':Nv},(is.all λi=>decide (i < n))=true→puts is ds e=.ok e'→e'.length=e.length∧∀j,n≤j→e'.at j=e.at j
 | [],[],e,e',_,h=>by rw[puts] at h;cases h;exact⟨rfl,λ_ _=>rfl⟩
 | [],_::_,_,_,_,h=>by simp only[puts] at h;cases h
 | _::_,[],_,_,_,h=>by simp only[puts] at h;cases h
 | i::is,d::ds,e,e',hb,h=>by
  rw[puts] at h
  rw[List.all_cons,Bool.and_eq_true] at hb
  obtain⟨h1,h2⟩:=puts_back hb.2 h
  have hi:=of_decide_eq_true hb.1
  exact⟨by rw[h1,List.length_set],λj hj=>by rw[h2 j hj,at_set_ne (by lia)]⟩
theorem put_back {n:Nat} {g:G} {d:D} {e e':Nv} (hb:g.below n=true) (h:g.put d e=.ok e'):e'.length=e.length∧∀j,n≤j→e'.at j=e.at j:=by
 cases g with
 | one i =>
  have h:Res.ok (e.set i (.v d))=.ok e':=h
  cases h
  have hi:i < n:=of_decide_eq_true hb
  exact⟨List.length_set,λj hj=>at_set_ne (by lia)⟩
 | many is =>
  cases d with
  | tup ds=>exact puts_back hb h
  | non=>cases h
  | bl _=>cases h
  | int _=>cases h
  | str _=>cases h
  | lst _=>cases h
  | dct _=>cases h
  | tdc _=>cases h
end
section
variable {T:Tab} {cf:Nat→List D→Res D} {X:Cx} {x y z:E} {p q r tg iter:Expr} {pos:Pos}
noncomputable def Src (K:PySem.W.Frag) (H:Hp) (O:Addr→Prop) (p:Addr) (d:D) (v:V):Prop:=RD K H O d v∨∃a,v=.ref a∧a≠p∧OwnAt K H O a d
theorem Src.rr {K:PySem.W.Frag} {H:Hp} {O:Addr→Prop} {p:Addr} {d:D} {v:V} (h:Src K H O p d v):RR K H O d v:=by
 rcases h with z | ⟨al,z1,z2,z3⟩
 ·exact .inl z
 ·exact .inr ⟨al,z1,z3⟩
theorem Src.same {K:PySem.W.Frag} {H H':Hp} {O:Addr→Prop} {p:Addr} {d:D} {v:V} (h:Src K H O p d v) (s:Same H H'):Src K H' O p d v:=by
 rcases h with z | ⟨al,z1,z2,z3⟩
 ·exact .inl (z.same s)
 ·exact .inr ⟨al,z1,z2,z3.same s⟩
theorem Src.upd {K:PySem.W.Frag} {H:Hp} {O:Addr→Prop} {p:Addr} {d:D} {v:V} {ys zs:List V} (h:Src K H O p d v) (hO:O p) (hp:H p=some (.lst ys)):Src K (L2.upd H p (.lst zs)) O p d v:=by
 rcases h with z | ⟨al,z1,z2,z3⟩
 ·exact .inl (z.upd hO hp)
 ·exact .inr ⟨al,z1,z2,z3.updM hO hp trivial z2⟩
noncomputable def PinS (K:PySem.W.Frag) (H:Hp) (O:Addr→Prop) (p:Addr):Pin→Prop
 | .dv d v=>Src K H O p d v
 | .fr a o u=>H a=some (.frz o u)
theorem PinS.rr {K:PySem.W.Frag} {H:Hp} {O:Addr→Prop} {p:Addr} {t:Pin} (h:PinS K H O p t):PinR K H O t:=by
 cases t with
 | dv d v=>exact Src.rr h
 | fr a o u=>exact h
theorem PinS.same {K:PySem.W.Frag} {H H':Hp} {O:Addr→Prop} {p:Addr} {t:Pin} (h:PinS K H O p t) (s:Same H H'):PinS K H' O p t:=by
 cases t with
 | dv d v=>exact Src.same h s
 | fr a o u=>exact s _ _ h
theorem PinS.upd {K:PySem.W.Frag} {H:Hp} {O:Addr→Prop} {p:Addr} {t:Pin} {ys zs:List V} (h:PinS K H O p t) (hO:O p) (hp:H p=some (.lst ys)):PinS K (L2.upd H p (.lst zs)) O p t:=by
 cases t with
 | dv d v=>exact Src.upd h hO hp
 | fr a o u =>
  have h:H a=some (.frz o u):=h
  show L2.upd H p (.lst zs) a=some (.frz o u)
  rw[upd_ne (ne_of h hp (by intro z;cases z))];exact h
noncomputable def testsIs (ifs:List Expr) (cond:E) (P:Expr→Prop):Prop:=(ifs=[]∧cond=.con (.bl true))∨∃c,ifs=[c]∧P c
theorem comp_run {n:Nat} {caps:List Nat} {g:G} {elt src cond:E} {pe:Expr} {ifs:List Expr} {scope:Scope} {Nc:List Str} (hc:X.calm=true) (S:ScopeC X scope) (P:CapsOk X scope n caps Nc) (hb:g.below n=true)
 (hplain:plainX iter=true) (hsrc:SI T cf X tg src true iter)
 (body:∀C s2 H2 fp,(cxC X scope C Nc s2 H2 fp).Ok→SG (cxC X scope C Nc s2 H2 fp) g tg∧SE T cf (cxC X scope C Nc s2 H2 fp) elt pe∧testsIs ifs cond (ST T cf (cxC X scope C Nc s2 H2 fp) cond))
 {use:Option (Value→Sem Unit)} {H₀:Hp} {O₀:Addr→Prop} {pins:List (Addr×Obj)} {s:Shared} {σ:L2.St} {H:Hp} {O:Addr→Prop} {own:Nat→Option Addr} {e:Nv} {d:D} {Q:Value→Shared→Prop} (I:Inv X pins σ H s) (F:Fm X.K H₀ O₀ H O own e σ)
 (ev:evE T cf (.comp n caps g elt src cond) e=.ok d)
 (fin:∀C s2 H2 Hi s' a,Inv X pins σ H2 s2→Same H H2→s2.heap.objs.size < C→(∀h',Heap.SameBut C s'.heap h'→Inv X pins σ Hi { s' with heap:=h' })→(∃m,s'.heap.Ns C m)→Hi C=none→Same H Hi→Fm X.K H₀ O₀ Hi O own e σ→RD X.K Hi O d (.ref a)→NewL X.K H Hi O d (.ref a)→a≠C →
  compPost (model X.prog X.w) X.A X.xe use Q (.ref a) C (.ok .next) s') :
 wpAny (model X.prog X.w) X.A (comprehension (.ListComp pe [⟨tg,iter,ifs,0⟩] scope pos) scope X.env (firstIterPos [⟨tg,iter,ifs,0⟩] pos) (newList []) false (eval iter X.env) use) Q X.xe s:=by
 (first | rw[xE_con] at ev | rw[xE_lst] at ev | rw[xE_comp] at ev)
 obtain⟨ds,e1,ev⟩:=Res.bind_ok ev
 obtain⟨ys,e2,ev⟩:=Res.bind_ok ev
 obtain⟨cz,ev⟩:=when_ok ev
 cases ev
 have hz:=of_decide_eq_true cz
 refine wpAny_comprehension_free rfl (plain_fold hplain) (closure_eq (S.cells I.ok)) S.kind S.names ?_
 refine thn (hsrc H₀ O₀ pins s σ H (λJ H2=>∃srs,Same H H2∧(∀t∈srs,PinR X.K H2 O t)∧Wk X.K J srs ds) I ⟨O,own,e,ds,F,e1,λJ H' srs s' rr _ wk=>⟨srs,s',rr,wk⟩⟩) λv s1 h1=>thn h1 λitv s2 h2=>?_
 obtain⟨it,fp,tn,J,H2,rfl,I2,Tn,tn0,hfp,srs,s12,rr0,wk⟩:=h2
 refine wpAny_newObj_type (wpAny_newFunctionEnv S.cell (by intro y hy;simp at hy) (λh₁ hns₁ hsb₁=>?_) S.kind)
 dsimp only at hns₁ hsb₁ ⊢
 generalize hH2:s2.heap.push { cls:=.type "list", dict:=none,data:=.seq ([]:List Value).toArray }=HP at hns₁ hsb₁ ⊢
 have hC:HP.objs.size=s2.heap.objs.size+1:=by rw[←hH2,Heap.size_push]
 have hCl:s2.heap.objs.size < HP.objs.size:=by rw[hC];exact Nat.lt_succ_self _
 have below:∀b,b < s2.heap.objs.size→b≠HP.objs.size:=λb hb=>by rw[hC];exact Nat.ne_of_lt (Nat.lt_succ_of_lt hb)
 have old:∀b o,s2.heap.get? b=some o→h₁.get? b=some o:=λb o e=>hsb₁.extBut b o (below b (Heap.lt_size e)) (Heap.get?_push_of_some _ (hH2▸Heap.get?_push_of_some _ e))
 have hacc:h₁.get? s2.heap.objs.size=some { cls:=.type "list", data:=.seq #[] }:=hsb₁.extBut _ _ (Nat.ne_of_lt hCl) (Heap.get?_push_of_some _ (hH2▸Heap.get?_push_size _ rfl))
 have hfo:∀b∈fp,b < s2.heap.objs.size:=λb hb=>let ⟨o,q,_⟩:=Tn.obj 0 _ tn0 b hb;Heap.lt_size q
 have ok:=cxC_ok (Nc:=Nc) I2 S hfp hfo (Nat.le_of_lt hCl)
 have fr:H2 s2.heap.objs.size=none:=I2.hok.fresh (Nat.le_refl _)
 have F2:=F.grow s12
 obtain⟨ownc,Fc,nown⟩:=F2.comp n (caps:=caps) P.nd fr (xs:=[])
 obtain⟨bg,be,bt⟩:=body HP.objs.size s2 H2 fp ok
 have I0:=invC (t1:=s2.toks+([]:List (Str×Value)).length) (fp:=fp) I2 S P ok old hCl (by simpa using hns₁) hacc
 have fpn:∀ {Hi:Hp} {pins':List (Addr×Obj)},(∀b∈fp,Hi b=none)→(∀b∈fp,∀p∈pins',p.1≠b)→∀b∈fp,FpOk (cxC X scope HP.objs.size Nc s2 H2 fp) pins' Hi b:=λhn hpp b hb=>by
  refine⟨hn b hb,(ok.exf b hb).1,ok.exfs b hb,.inl hb,(ok.exf b hb).2,λp hp=>hpp b hb p (by simpa[cxC] using hp)⟩
 let f : D → Res (Option D) := fun d => do
     let e1 ←g.put d (compEnv n caps e)
     let c ←evE T cf cond e1
     let k ←c.truth
     if k then do let y ←evE T cf elt e1;.ok (some y) else .ok none
 have loop:∀s₃:Shared,s₃={ s2 with heap:=h₁,toks:=s2.toks+([]:List (Str×Value)).length } →
  codeAny (model X.prog X.w) X.A (.compLoop (.ListComp pe [⟨tg,iter,ifs,0⟩] scope pos) 0 (.ref it) (.ref s2.heap.objs.size) (compEnvC scope (freeCells X.env.cells scope.names []) HP.objs.size X.env))
   (compPost (model X.prog X.w) X.A X.xe use Q (.ref s2.heap.objs.size) HP.objs.size) s₃:=by
  rintro s₃ rfl
  refine compLoop_gen (λk s'=>∃i σi Hi own' as bs,k=ds.length+1 - i∧i≤ds.length∧Inv (cxC X scope HP.objs.size Nc s2 H2 fp) [] σi Hi s'∧tn i s'.heap∧(∀b∈fp,Hi b=none)∧Same H2 Hi ∧
   Fm X.K H₀ O₀ Hi (plus O s2.heap.objs.size) own' (compEnv n caps e) σi∧(∀j,own' j≠some s2.heap.objs.size)∧compL f (ds.drop i)=.ok bs∧ys=as++bs∧as.length≤i ∧
   (∃xs,Hi s2.heap.objs.size=some (.lst xs)∧RDs X.K Hi (plus O s2.heap.objs.size) as xs)∧∀t∈srs,PinS X.K Hi (plus O s2.heap.objs.size) s2.heap.objs.size t) ?_ (ds.length+1) ?_
  ·rintro k s' ⟨i,σi,Hi,own',as,bs,rfl,hi,Ii,tni,fri,smi,Fi,noi,evd,rfl,hal,⟨xs,hx,wx⟩,rri⟩
   have stat:∀b∈fp,FpOk (cxC X scope HP.objs.size Nc s2 H2 fp) [] Hi b:=fpn fri (λb _ p hp=>by cases hp)
   obtain⟨w1,w2,w3⟩:=wk i Hi (plus O s2.heap.objs.size) λt ht=>(rri t ht).rr
   by_cases hlt:i < ds.length
   ·refine thn (Tn.item (cxC X scope HP.objs.size Nc s2 H2 fp) rfl rfl rfl hc i [] s' σi Hi (λ_ _=>False) Ii stat tni (w1 hlt)) λr s4 ⟨u,hr,h4⟩=>?_
    subst hr
    refine thn h4 λ_ s5 ⟨v,H5,I5,r5,y5,tn5,fr5⟩=>?_
    obtain⟨s35,rv⟩:=w3 v H5 _ (List.getElem?_eq_getElem hlt) y5
    have I5':=I5.pinned (fpn fr5 (λb _ p hp=>by cases hp)) (Tn.obj _ _ tn5)
    rw[List.drop_eq_getElem_cons hlt,compL] at evd
    obtain⟨o,ef,evd⟩:=Res.bind_ok evd
    obtain⟨b',eb,evd⟩:=Res.bind_ok evd
    obtain⟨e3,ep,ef⟩:=Res.bind_ok ef
    obtain⟨dc,ec,ef⟩:=Res.bind_ok ef
    obtain⟨kc,et,ef⟩:=Res.bind_ok ef
    have F5:=Fi.grow s35
    refine thn (bg H₀ O₀ _ s5 σi H5 v u (λσ' H'=>H'=H5∧∃own'',Fm X.K H₀ O₀ H5 (plus O s2.heap.objs.size) own'' e3 σ'∧∀j,own'' j≠some s2.heap.objs.size) I5' r5 ⟨_,own',_,_,e3,F5,rv,ep,λσ' own'' hle F'=>⟨rfl,own'',F',λj q=>noi j (hle j _ q)⟩⟩) λ_ s6 ⟨σ6,H6,I6,q6⟩=>?_
    obtain⟨rfl,own6,F6,no6⟩:=q6
    have tests:wpAny (model X.prog X.w) X.A (forIn ifs true λc r=>if r=true then do let ok ←isTrue c (compEnvC scope (freeCells X.env.cells scope.names []) HP.objs.size X.env) (eval c (compEnvC scope (freeCells X.env.cells scope.names []) HP.objs.size X.env));pure (ForInStep.yield ok) else pure (ForInStep.yield r))
     (λok s7=>ok=kc∧∃H7,Inv (cxC X scope HP.objs.size Nc s2 H2 fp) ([]++pinsAt fp s5.heap) σ6 H7 s7∧Same H6 H7) (λ_ _=>False) s6:=by
     rcases bt with ⟨hi0,hc0⟩ | ⟨c0,hi0,st0⟩
     ·subst hi0 hc0
      (first | rw[xE_con] at ec | rw[xE_lst] at ec | rw[xE_comp] at ec);cases ec;cases et
      exact wpAny_tests_nil ⟨rfl,H6,I6,Same.refl _⟩
     ·subst hi0
      refine wpAny_tests_one (thn (st0 H₀ O₀ _ s6 σ6 H6 (λb H'=>b=kc∧Same H6 H') I6 ⟨_,own6,e3,dc,kc,F6,ec,et,λH' s=>⟨rfl,s⟩⟩) λb s7 ⟨H7,I7,q1,q2⟩=>⟨q1,H7,I7,q2⟩)
    refine thn tests λok s7 ⟨hok,H7,I7,s57⟩=>?_
    subst hok
    have F7:=F6.grow s57
    obtain⟨pl1,pl2⟩:=put_back hb ep
    have bk:∀j,(compEnv n caps e).at j=.no∨(compEnv n caps e).at j=e3.at j:=λj=>by
     by_cases hj:n≤j
     ·exact .inr (pl2 j hj).symm
     ·rcases compEnv_at (n:=n) (caps:=caps) (e:=e) j with z | ⟨k,i,rfl,_,_⟩
      ·exact .inl z
      ·exact absurd (Nat.le_add_right n k) hj
    have keepT:∀ {H8:Hp} {s8:Shared} {σ8:L2.St},Inv (cxC X scope HP.objs.size Nc s2 H2 fp) ([]++pinsAt fp s5.heap) σ8 H8 s8→tn (i+1) s8.heap∧∀b∈fp,H8 b=none:=λI8 =>
     ⟨Tn.keep _ _ _ tn5 λb hb o q=>(I8.pin (b,o) (List.mem_append_right _ (List.mem_append_right _ (mem_pinsAt hb q)))).1,λb hb=>by
      obtain⟨o,q,_⟩:=Tn.obj _ _ tn5 b hb
      exact (I8.pin (b,o) (List.mem_append_right _ (List.mem_append_right _ (mem_pinsAt hb q)))).2.1⟩
    cases ok with
    | false =>
     rw[if_neg Bool.false_ne_true] at ef ⊢
     cases ef
     cases evd
     obtain⟨t1,t2⟩:=keepT I7
     exact⟨ds.length+1 - (i+1),by lia,i+1,σ6,H7,own6,as,bs,rfl,hlt,I7.unpinned,t1,t2,smi.trans (s35.trans s57),F7.back pl1.symm bk,no6,eb,rfl,Nat.le_succ_of_le hal,⟨xs,s57 _ _ (s35 _ _ hx),(wx.same s35).same s57⟩,λt ht=>((rri t ht).same s35).same s57⟩
    | true =>
     rw[if_pos rfl] at ef ⊢
     obtain⟨dy,ey,ef⟩:=Res.bind_ok ef
     cases ef
     cases evd
     refine thn (be H₀ O₀ _ s7 σ6 H7 (λv H'=>Same H7 H'∧RD X.K H' (plus O s2.heap.objs.size) dy v) I7 ⟨_,own6,e3,dy,F7,ey,λv H' s r _=>⟨s,r⟩⟩) λwv s8 ⟨vy,H8,I8,r8,s78,rd8⟩=>?_
     have sm8:=s35.trans (s57.trans s78)
     have hx8:=sm8 _ _ hx
     have F8:=F7.grow s78
     have wx8:=wx.same sm8
     have h0:H₀ s2.heap.objs.size=none:=(F.same.trans s12).free fr
     refine thn (mt_append (X:=cxC X scope HP.objs.size Nc s2 H2 fp) _ s8 σ6 H8 (.ref s2.heap.objs.size) [vy] (.ref s2.heap.objs.size) [wv] (λ_ H'=>H'=upd H8 s2.heap.objs.size (.lst (xs++[vy]))) I8 rfl (.cons r8 .nil) ⟨_,xs,vy,rfl,rfl,hx8,by rw[wx.length,←big_line];lia,rfl⟩) λ_ s9 ⟨v9,H9,I9,r9,e9⟩=>?_
     subst e9
     obtain⟨t1,t2⟩:=keepT I9
     have smU:Same H2 (upd H8 s2.heap.objs.size (.lst (xs++[vy]))):=λb o q=>by
      rw[upd_ne (ne_of_none q fr)]
      exact sm8 _ _ (smi _ _ q)
     refine⟨ds.length+1 - (i+1),by lia,i+1,σ6,_,own6,as++[dy],b',rfl,hlt,I9.unpinned,t1,t2,smU,(F8.updO (.inr rfl) hx8 h0 no6).back pl1.symm bk,no6,eb,by simp,?_,⟨xs++[vy],upd_same,?_⟩,λt ht=>((rri t ht).same sm8).upd (.inr rfl) hx8⟩
     ·rw[List.length_append,List.length_singleton];lia
     ·exact (wx8.append (RDs.cons rd8 RDs.nil)).upd (.inr rfl) hx8
   ·have hii:i=ds.length:=by lia
    subst hii
    refine thn (Tn.done (cxC X scope HP.objs.size Nc s2 H2 fp) rfl rfl rfl hc _ [] s' σi Hi (λ_ _=>False) Ii stat tni (w2 (Nat.le_refl _))) λr s4 ⟨hr,I4⟩=>?_
    subst hr
    rw[List.drop_length,compL] at evd
    cases evd
    have nO:¬O s2.heap.objs.size:=λz=>by
     obtain⟨o,q⟩:=F2.trk _ z
     rw[fr] at q;cases q
    refine fin HP.objs.size s2 H2 Hi s4 s2.heap.objs.size I2 s12 hCl (λh' sb=>outC I2 I4 hfp (Nat.le_of_lt hCl) sb) ?_ I4.free (s12.trans smi) (F.grow (s12.trans smi)) ?_ ?_ (Nat.ne_of_lt hCl)
    ·obtain⟨m,hn,_⟩:=I4.loc
     exact⟨m,hn⟩
    ·exact⟨_,xs,rfl,.inl ⟨nO,.inl hx⟩,by rw[List.append_nil];exact wx.weak λ_ z=>.inl z⟩
    ·exact λ_=>⟨_,rfl,s12.free fr,xs,hx,by rw[List.append_nil];exact wx⟩
  ·refine⟨0,_,_,ownc,[],ys,rfl,Nat.zero_le _,I0,Tn.keep _ _ _ tn0 λb _ o q=>old b o q,λb hb=>?_,same_upd fr _,Fc,nown,by simpa using e2,rfl,Nat.le_refl _,⟨[],upd_same,rfl⟩,?_⟩
   ·rw[upd_ne (Nat.ne_of_lt (hfo b hb))];exact (hfp b hb).1
   ·intro t ht
    have r0:=rr0 t ht
    cases t with
    | fr a o u=>exact same_upd fr _ _ _ r0
    | dv d0 v0 =>
     rcases r0 with z | ⟨al,z1,z2⟩
     ·exact .inl ((z.new fr).same (same_upd fr _))
     ·obtain⟨ob,hob,_⟩:=z2.obj
      exact .inr ⟨al,z1,ne_of_none hob fr,(z2.new fr).same (same_upd fr _)⟩
 exact codeAny_compStart_list (loop _ rfl) (Tn.self _ 0 _ _ _ (Tn.keep _ _ _ tn0 λb _ o q=>old b o q) (loop _ rfl))
end
section
variable {T:Tab} {cf:Nat→List D→Res D} {X:Cx} {x y z:E} {p q r tg iter:Expr} {pos pos' pos'':Pos}
theorem se_comp {n:Nat} {caps:List Nat} {g:G} {elt src cond:E} {pe:Expr} {ifs:List Expr} {scope:Scope} {Nc:List Str} (hc:X.calm=true) (S:ScopeC X scope) (P:CapsOk X scope n caps Nc) (hb:g.below n=true)
 (hplain:plainX iter=true) (hsrc:SI T cf X tg src true iter)
 (body:∀C s2 H2 fp,(cxC X scope C Nc s2 H2 fp).Ok→SG (cxC X scope C Nc s2 H2 fp) g tg∧SE T cf (cxC X scope C Nc s2 H2 fp) elt pe∧testsIs ifs cond (ST T cf (cxC X scope C Nc s2 H2 fp) cond)) :
 SE T cf X (.comp n caps g elt src cond) (.ListComp pe [⟨tg,iter,ifs,0⟩] scope pos):=by
 intro H₀ O₀ pins s σ H Q I ⟨O,own,e,d,F,ev,k⟩
 rw[eval_ListComp]
 refine comp_run (use:=none) hc S P hb hplain hsrc body I F ev ?_
 intro C s2 H2 Hi s' a I2 s12 hC hI ns hn sm Fi rd nl hne
 obtain⟨m,ns⟩:=ns
 exact⟨m,ns,λh' sb=>⟨.ref a,Hi,hI h' sb,rfl,k _ Hi sm rd λ_=>nl⟩⟩
theorem comp_asg {i:Nat} {nm:Str} {n:Nat} {caps:List Nat} {g:G} {elt src cond:E} {pe:Expr} {ifs:List Expr} {scope:Scope} {Nc:List Str} (hN:X.N.Nodup) (hi:X.N[i]?=some nm) (hl:Loc X.env.scope nm) (hf:X.fn nm=true∨X.env.scope.names.lookup nm=some .local)
 (hsw:swapsWith (.ListComp pe [⟨tg,iter,ifs,0⟩] scope pos) (some (.Name nm pos')) pos''.line X.env=pure true)
 (hc:X.calm=true) (S:ScopeC X scope) (P:CapsOk X scope n caps Nc) (hb:g.below n=true)
 (hplain:plainX iter=true) (hsrc:SI T cf X tg src true iter)
 (body:∀C s2 H2 fp,(cxC X scope C Nc s2 H2 fp).Ok→SG (cxC X scope C Nc s2 H2 fp) g tg∧SE T cf (cxC X scope C Nc s2 H2 fp) elt pe∧testsIs ifs cond (ST T cf (cxC X scope C Nc s2 H2 fp) cond)) :
 ∀H₀ O₀,PS X (.Assign [.Name nm pos'] (.ListComp pe [⟨tg,iter,ifs,0⟩] scope pos) pos'') (λD' σ H=>∃O own e d,Fm X.K H₀ O₀ H O own e σ∧evE T cf (.comp n caps g elt src cond) e=.ok d∧∀v H',Same H H'→RD X.K H' O d v→NewL X.K H H' O d v→D'.nx (σ.set i (some v)) H'):=by
 intro H₀ O₀ pins s σ H D' I ⟨O,own,e,d,F,ev,k⟩
 rw[exec_Assign_Name_used _ _ _ _ hsw]
 refine wpAny_bind (wpAny_standAt (wpAny_bind ?_))
 show wpAny _ X.A (do let _ ←comprehension (.ListComp pe [⟨tg,iter,ifs,0⟩] scope pos) scope X.env _ (newList []) false (eval iter X.env) (some (assign (.Name nm pos') X.env))) _ _ s
 refine wpAny_bind (wpAny_mono (comp_run (use:=some (assign (.Name nm pos') X.env)) (Q:=λ_ s'=>SP X pins D' .next s') hc S P hb hplain hsrc body I F ev ?_) (λ_ s' hq=>wpAny_pure (wpAny_pure hq)) λ_ _ e=>e)
 intro C s2 H2 Hi s' a I2 s12 hC hI ns hn sm Fi rd nl hne
 obtain⟨m,ns⟩:=ns
 have I':Inv X pins σ Hi s':=by
  have:=hI s'.heap (.refl ..)
  exact this
 show wpAny _ X.A (assign (.Name nm pos') X.env (.ref a)) _ _ _
 refine wpAny_assign_Name (store_ok2 (v:=.ref a) I' hN hi hl rfl (λs'' I'' ⟨a0,sb,ha0⟩=>?_) hf)
 have lt0:a0 < s2.heap.objs.size:=by
  rcases ha0 with z | z
  ·rw[z];exact I2.lt
  ·obtain⟨v,w⟩:=I2.cell nm a0 z
   exact w.lt
 have neC:C≠a0:=Nat.ne_of_gt (Nat.lt_trans lt0 hC)
 refine⟨m,ns.sameBut sb neC,λh' sb'=>?_⟩
 refine⟨σ.set i (some (.ref a)),Hi,?_,k _ Hi sm rd nl⟩
 refine I''.turned (t':=s''.toks) (it:=C) (λb o hb' e=>(sb'.2 b hb').trans e) hn (Nat.ne_of_gt (Nat.lt_trans I2.lt hC)) (.inr (Nat.le_trans I2.sz (Nat.le_of_lt hC))) (λx c e z=>?_) (λp hp z=>?_)
 ·obtain⟨v,w⟩:=I2.cell x c e
  exact absurd (Nat.lt_trans w.lt hC) (by rw[z];exact Nat.lt_irrefl _)
 ·exact absurd (Nat.lt_trans (Heap.lt_size (I2.pin p hp).1) hC) (by rw[z];exact Nat.lt_irrefl _)
theorem ss_asg_comp {i:Nat} {nm:Str} {n:Nat} {caps:List Nat} {g:G} {elt src cond:E} {pe:Expr} {ifs:List Expr} {scope:Scope} {Nc:List Str} (hN:X.N.Nodup) (hi:X.N[i]?=some nm) (hl:Loc X.env.scope nm) (hf:X.fn nm=true∨X.env.scope.names.lookup nm=some .local)
 (hc:X.calm=true) (S:ScopeC X scope) (P:CapsOk X scope n caps Nc) (hb:g.below n=true)
 (hplain:plainX iter=true) (hsrc:SI T cf X tg src true iter) (o:Bool)
 (body:∀C s2 H2 fp,(cxC X scope C Nc s2 H2 fp).Ok→SG (cxC X scope C Nc s2 H2 fp) g tg∧SE T cf (cxC X scope C Nc s2 H2 fp) elt pe∧testsIs ifs cond (ST T cf (cxC X scope C Nc s2 H2 fp) cond)) :
 SS T cf X (if o then .asgO i (.comp n caps g elt src cond) else .asg (.one i) (.comp n caps g elt src cond)) (.Assign [.Name nm pos'] (.ListComp pe [⟨tg,iter,ifs,0⟩] scope pos) pos''):=by
 intro H₀ O₀
 have main:PS X (.Assign [.Name nm pos'] (.ListComp pe [⟨tg,iter,ifs,0⟩] scope pos) pos'') (λD' σ H=>∃O own e d,Fm X.K H₀ O₀ H O own e σ∧evE T cf (.comp n caps g elt src cond) e=.ok d∧∀v H',Same H H'→RD X.K H' O d v→NewL X.K H H' O d v→D'.nx (σ.set i (some v)) H'):=by
  have hsw:∃b:Bool,swapsWith (.ListComp pe [⟨tg,iter,ifs,0⟩] scope pos) (some (.Name nm pos')) pos''.line X.env=pure b:=⟨_,rfl⟩
  obtain⟨b,hsw⟩:=hsw
  cases b with
  | true=>exact comp_asg hN hi hl hf hsw hc S P hb hplain hsrc body H₀ O₀
  | false =>
   refine PS.imp (λD' σ H hq=>?_) (ps_set hN hi hl (se_comp hc S P hb hplain hsrc body H₀ O₀) hsw hf)
   obtain⟨O,own,e,d,F,ev,k⟩:=hq
   exact⟨O,own,e,d,F,ev,λv H' s' r n=>k v H' s' r (n rfl)⟩
 refine PS.imp (λD' σ H hq=>?_) main
 obtain⟨ts,e,out,⟨O,own,F,tt⟩,ev,k⟩:=hq
 cases o with
 | true =>
  rw[if_pos rfl] at ev
  (first | rw[xS_asg] at ev | rw[xS_asgO] at ev)
  obtain⟨d,e1,ev⟩:=Res.bind_ok ev
  split at ev
  ·obtain⟨c,ev⟩:=when_ok ev
   cases ev
   refine⟨O,own,e,_,F,e1,λv H' s' r n=>?_⟩
   obtain⟨p,rfl,h2,h3⟩:=n rfl
   exact k _ H' ⟨_,_,F.setO s' i h2 h3,λt ht=>((tt t ht).new h2).same s'⟩
  ·obtain⟨c,ev⟩:=when_ok ev
   cases ev
   refine⟨O,own,e,_,F,e1,λv H' s' r n=>?_⟩
   obtain⟨p,rfl,h2,h3⟩:=n rfl
   exact k _ H' ⟨_,_,F.setO s' i h2 h3,λt ht=>((tt t ht).new h2).same s'⟩
  ·obtain⟨c,ev⟩:=when_ok ev
   cases ev
   refine⟨O,own,e,_,F,e1,λv H' s' r n=>?_⟩
   obtain⟨p,rfl,h2,h3⟩:=n rfl
   exact k _ H' ⟨_,_,F.setO s' i h2 h3,λt ht=>((tt t ht).new h2).same s'⟩
  ·cases ev
 | false =>
  rw[if_neg Bool.false_ne_true] at ev
  (first | rw[xS_asg] at ev | rw[xS_asgO] at ev)
  obtain⟨d,e1,ev⟩:=Res.bind_ok ev
  obtain⟨e2,e3,ev⟩:=Res.bind_ok ev
  cases ev
  cases e3
  exact⟨O,own,e,d,F,e1,λv H' s' r n=>k _ H' ⟨O,_,(F.grow s').setV i r,λt ht=>(tt t ht).same s'⟩⟩
theorem turned2 {pins:List (Addr×Obj)} {σ:L2.St} {H:Hp} {s:Shared} {h':Heap} {t':Nat} {a b:Addr} (I:Inv X pins σ H s) (k:∀c o,c≠a→c≠b→s.heap.get? c=some o→h'.get? c=some o) (na:H a=none) (nb:H b=none)
 (fa:a≠X.env.locals∧(a∈X.ex∨X.s₀.heap.objs.size≤a)∧(∀x c,X.env.cells.lookup x=some c→c≠a)∧∀p∈X.pn++pins,p.1≠a)
 (fb:b≠X.env.locals∧(b∈X.ex∨X.s₀.heap.objs.size≤b)∧(∀x c,X.env.cells.lookup x=some c→c≠b)∧∀p∈X.pn++pins,p.1≠b):Inv X pins σ H { s with heap:=h',toks:=t' }:=by
 have nn:∀c u,H c=some u→c≠a∧c≠b:=λc u e=>⟨λz=>(by rw[z,na] at e;cases e),λz=>(by rw[z,nb] at e;cases e)⟩
 have no2:∀ {c},c∉[a,b]→c≠a∧c≠b:=λhc=>⟨λz=>hc (by simp[z]),λz=>hc (by simp[z])⟩
 refine I.step (g':=s.gens) (d':=s.drawn) (ch:=[a,b]) (λc hc=>?_) (λc o _ _ hc e _=>k c o (no2 hc).1 (no2 hc).2 e) (λc o _ _ hc e _=>⟨o.slots,k c o (no2 hc).1 (no2 hc).2 e⟩) (λ_ _ _ _ n=>n)
  (λc o hc e=>⟨o,k c o (no2 hc).1 (no2 hc).2 e⟩) (λ_ _ e=>e) (λ_ _ _ e=>e) (λb ps e=>⟨#[],by rw[e];simp⟩) (λm hm=>?_) (λc u e=>?_) I.bare
 ·rcases List.mem_cons.mp hc with rfl | hc
  ·exact⟨fa.2.1,fa.1,fa.2.2.1,fa.2.2.2⟩
  ·have e:c=b:=by simpa using hc
   subst e
   exact⟨fb.2.1,fb.1,fb.2.2.1,fb.2.2.2⟩
 ·obtain⟨o,es,ep,ho,r⟩:=hm
  exact⟨o,es,ep,k _ o (Ne.symm fa.1) (Ne.symm fb.1) ho,r⟩
 ·refine (I.hok c u e).stay (λc' v hc q=>?_) (λ_ q=>q) λ_ _ q=>q
  have:c'≠a∧c'≠b:=by
   rcases hc with z | z
   ·rw[z];exact nn c u e
   ·exact nn c' _ z
  exact k c' v this.1 this.2 q
noncomputable def Ite (K:PySem.W.Frag) (a:Addr):It :=
 ⟨λi H=>∃xs x,SqL K H a xs∧xs[i]?=some x,λi H x H'=>∃p y,H p=none∧x=.ref p∧H'=upd H p (.tup [.int i,y])∧∀xs,SqL K H a xs→xs[i]?=some y,λi H=>∃xs,SqL K H a xs∧xs.length≤i⟩
theorem turn_enum {Pg:Program} {w:World} {K:PySem.W.Frag} {es:List Expr} {kk:Nat} {pos:Pos} (a en it:Addr) (hne:en≠it):Turn Pg w K (.Tuple es kk pos) (Ite K a) [en,it] en (λi h=>∃old,IsEnum h en it i old∧h.IsListIter it a i) where
 mem:=by simp
 obj:=λi h st b hb=>by
  obtain⟨old,st1,o,e,c,d⟩:=st
  rcases List.mem_cons.mp hb with rfl | hb
  ·exact⟨_,st1,λv z=>by
    have z':Data.fields _=Data.cell v:=z
    cases z'⟩
  ·have e':b=it:=by simpa using hb
   subst e'
   exact⟨o,e,λv z=>by rw[d] at z;cases z⟩
 keep:=λi h h' st k=>by
  obtain⟨old,st1,st2⟩:=st
  exact⟨old,k en (by simp) _ st1,st2.at λo e=>k it (by simp) o e⟩
 item:=by
  intro X hP hw hK hc i pins s σ H E I hf st hg
  subst hP hw hK
  obtain⟨xs,x,hq,hx⟩:=hg
  obtain⟨old,st1,st2⟩:=st
  obtain⟨its,rv,p,hz⟩:=I.list hq
  obtain⟨u,hu,ru⟩:=rv.get hx
  obtain⟨f0,f1,f2,f3,f4,f5⟩:=hf en (by simp)
  obtain⟨g0,g1,g2,g3,g4,g5⟩:=hf it (by simp)
  refine wpAny_pyNext_enum_item st1 st2 p.isList (x:=u) (by simpa using hu) hne λh₁ heo hit₁ ht₁ hz₁ hk₁=>?_
  refine⟨_,rfl,wpAny_letOwnedTupleGo_enum heo λh₂ he₂ hs₂=>?_⟩
  replace hs₂:Heap.SameBut en h₁ h₂:=hs₂
  have enl:en < s.heap.objs.size:=Heap.lt_size st1
  have itl:it < s.heap.objs.size:=by
   obtain⟨o,q,_⟩:=id st2
   exact Heap.lt_size q
  have fr:H s.heap.objs.size=none:=I.hok.fresh (Nat.le_refl _)
  have hm:∃hm:Heap,hm=s.heap.push { cls:=.type "tuple", data:=.seq #[.int i s.toks,u] }:=⟨_,rfl⟩
  obtain⟨hm,ehm⟩:=hm
  have I1:Inv X pins σ (upd H s.heap.objs.size (.tup [.int i,x])) { s with heap:=hm }:=by
   rw[ehm]
   refine I.laid (t':=s.toks) (λb o q=>Heap.get?_push_of_some _ q) (Nat.le_refl _) ?_
   exact⟨by show 2≤sizeLine;decide,[.int i s.toks,u],.cons ⟨_,rfl⟩ (.cons ru .nil),⟨_,Heap.get?_push_size _ rfl,rfl,_,rfl⟩⟩
  have kept:∀b o,b≠en→b≠it→hm.get? b=some o→h₂.get? b=some o:=λb o hb1 hb2 q=>by
   refine (hs₂.2 b hb1).trans ?_
   rw[ehm] at q
   rcases Heap.get?_push_cases q with ⟨e1,e2⟩ | q
   ·rw[e1,e2];exact ht₁
   ·exact hk₁ b o hb1 hb2 q
  have up:∀ {c:Addr},c < s.heap.objs.size→H c=none→upd H s.heap.objs.size (.tup [.int i,x]) c=none:=λhl hn=>by rw[upd_ne (Nat.ne_of_lt hl)];exact hn
  have I2:Inv X pins σ (upd H s.heap.objs.size (.tup [.int i,x])) { s with heap:=h₂,toks:=s.toks+1 }:=turned2 (s:={ s with heap:=hm }) (t':=s.toks+1) I1 kept (up enl f0) (up itl g0) ⟨f1,f3,f4,f5⟩ ⟨g1,g3,g4,g5⟩
  refine⟨.ref s.heap.objs.size,_,I2,rfl,⟨_,x,fr,rfl,rfl,λys hy=>by rw[I.list_inj hy hq];exact hx⟩,⟨u,?_,hit₁.extBut hs₂.extBut (Ne.symm hne)⟩,λb hb=>?_⟩
  ·have:((i+1:Nat):Int)=(i:Int)+1:=by push_cast;rfl
   rw[this];exact he₂
  ·rcases List.mem_cons.mp hb with rfl | hb
   ·exact up enl f0
   ·have e':b=it:=by simpa using hb
    subst e'
    exact up itl g0
 done:=by
  intro X hP hw hK hc i pins s σ H E I hf st hg
  subst hP hw hK
  obtain⟨xs,hq,hx⟩:=hg
  obtain⟨old,st1,st2⟩:=st
  obtain⟨its,rv,p,hz⟩:=I.list hq
  obtain⟨g0,g1,g2,g3,g4,g5⟩:=hf it (by simp)
  have hl:=rv.length
  exact wpAny_pyNext_enum_end (I.ok.hd hc) st1 st2 p.isList (by simp;lia) λh' eb=>⟨rfl,I.turned (t':=s.toks) (λb o hb e=>eb b o hb e) g0 g1 g3 g4 g5⟩
 self:=λ_ _ _ _ _ st h=>by
  obtain⟨old,st1,_⟩:=st
  exact wpAny_pyIter_enum st1 h
theorem enumD_len (k:Int):∀ds:List D,(enumD k ds).length=ds.length
 | []=>rfl
 | d::ds=>by rw[enumD,List.length_cons,List.length_cons,enumD_len (k+1) ds]
theorem enumD_get:∀(k:Int) (ds:List D) (i:Nat) (d:D),ds[i]?=some d→(enumD k ds)[i]?=some (.tup [.int (k+i),d])
 | k,[],i,d,h=>by simp at h
 | k,d0::ds,0,d,h=>by simp at h;subst h;rw[enumD];simp
 | k,d0::ds,i+1,d,h=>by
  rw[enumD,List.getElem?_cons_succ,enumD_get (k+1) ds i d (by simpa using h)]
  congr 4
  push_cast
  lia
theorem wk_enum {K:PySem.W.Frag} {a:Addr} {ds:List D}:Wk1 K (Ite K a) (.lst ds) (.ref a) (enumD 0 ds):=by
 intro i H O r
 obtain⟨a',xs,e,q,w⟩:=r.lst
 cases e
 have hl:=w.length
 rw[enumD_len]
 refine⟨λh=>?_,λh=>⟨xs,q,by lia⟩,λx H' d hd y=>?_⟩
 ·obtain⟨v,h1,h2⟩:=w.get (List.getElem?_eq_getElem h)
  exact⟨xs,v,q,h1⟩
 ·obtain⟨p,yv,hp,rfl,rfl,hy⟩:=y
  refine⟨same_upd hp _,?_⟩
  have hi:i < ds.length:=by
   have:=(List.getElem?_eq_some_iff.mp hd).1
   rwa [enumD_len] at this
  obtain⟨v,h1,h2⟩:=w.get (List.getElem?_eq_getElem hi)
  have:=(hy xs q).symm.trans h1
  cases this
  rw[enumD_get 0 ds i _ (List.getElem?_eq_getElem hi)] at hd
  cases hd
  refine new_tup (RDs.cons ?_ (RDs.cons h2 RDs.nil)) hp
  show V.int (i:Int)=V.int (0+(i:Int))
  rw[Int.zero_add]
theorem si_enum {rd:Bool} {n:Str} {pn:Pos} {es:List Expr} {kk:Nat} {tpos:Pos} (hn:n = "enumerate") (hg:Gl X n) (hm:X.mg "enumerate" = none) (hp:plainX p=true) (ha:SR T cf X x p) (hv:rd=false→SE T cf X x p) :
 SI T cf X (.Tuple es kk tpos) (.enum x) rd (.Call (.Name n pn) [p] [] pos):=by
 intro H₀ O₀ pins s σ H R I h
 subst hn
 obtain⟨O,own,e,ds,F,ev,k⟩:=h
 replace k:=k1_of k
 rw[xI_enum] at ev
 obtain⟨d1,e1,ev⟩:=Res.bind_ok ev
 have main:∀ {u:Value} {s1:Shared} {v:V} {H1:Hp},Inv X pins σ H1 s1→RelV v u→Same H H1→RR X.K H1 O d1 v→(rd=false→RD X.K H1 O d1 v)→wpAny (model X.prog X.w) X.A (call (.type "enumerate") [u]) (λv s1=>wpAny (model X.prog X.w) X.A (pyIter v) (PIE X pins σ (.Tuple es kk tpos) R) X.xe s1) X.xe s1:=by
  intro u s1 v H1 I1 r1 s1' rr rv
  cases d1 with
  | lst dl =>
   cases ev
   obtain⟨a,xs,e,q1,w1⟩:=rr.lst
   subst e
   cases r1
   obtain⟨its,r',pl,hz⟩:=I1.list q1
   refine call_enumerate_list pl.isList λh' he hit hz' hk=>?_
   refine wpAny_pyIter_enum he ?_
   have I2:Inv X pins σ H1 { s1 with heap:=h' }:=I1.kept (t':=s1.toks) hk
   refine⟨s1.heap.objs.size+1,[s1.heap.objs.size+1,s1.heap.objs.size],_,Ite X.K a,H1,rfl,I2,turn_enum a _ _ (Nat.succ_ne_self _),⟨_,he,hit⟩,λb hb=>?_,k _ H1 _ _ s1' rr rv wk_enum⟩
   rcases List.mem_cons.mp hb with rfl | hb
   ·exact I1.fpOk (Nat.le_succ _) (I1.hok.fresh (Nat.le_succ _))
   ·have e':b=s1.heap.objs.size:=by simpa using hb
    subst e'
    exact I1.fpOk (Nat.le_refl _) (I1.hok.fresh (Nat.le_refl _))
  | tup _=>cases ev
  | non=>cases ev
  | bl _=>cases ev
  | int _=>cases ev
  | str _=>cases ev
  | dct _=>cases ev
  | tdc _=>cases ev
 cases rd with
 | true =>
  refine Call_ (ld_blt I hg hm PyProof.Rows.boot_enumerate (PyProof.Rows.callWith_type1 (thn (pa_cons (ha H₀ O₀) pa_nil (plain_star hp) pos pins s σ H (λvs H1=>∃v,vs=[v]∧Same H H1∧RR X.K H1 O d1 v) I ⟨O,own,e,d1,F,e1,λv H' s' r=>⟨v,rfl,s',r⟩⟩) λus s1 ⟨vs,H1,I1,r1,v,ev1,s1',rr⟩=>?_) (plain_star hp) rfl))
  subst ev1
  obtain⟨u,rfl,ru⟩:=vals1 r1
  exact main I1 ru s1' rr (λz=>by cases z)
 | false =>
  refine Call_ (ld_blt I hg hm PyProof.Rows.boot_enumerate (PyProof.Rows.callWith_type1 (thn (pa_cons (hv rfl H₀ O₀) pa_nil (plain_star hp) pos pins s σ H (λvs H1=>∃v,vs=[v]∧Same H H1∧RD X.K H1 O d1 v) I ⟨O,own,e,d1,F,e1,λv H' s' r _=>⟨v,rfl,s',r⟩⟩) λus s1 ⟨vs,H1,I1,r1,v,ev1,s1',rr⟩=>?_) (plain_star hp) rfl))
  subst ev1
  obtain⟨u,rfl,ru⟩:=vals1 r1
  exact main I1 ru s1' rr.rr (λ_=>rr)
end
section
variable {K:PySem.W.Frag} {H₀ H H':Hp} {O₀ O O':Addr→Prop} {own:Nat→Option Addr} {e:Nv} {σ:L2.St}
theorem rds_ints {H:Hp} {O:Addr→Prop} (ks:List Int):RDs K H O (ks.map D.int) (ks.map V.int):=by
 induction ks with
 | nil=>exact rfl
 | cons k ks ih=>exact⟨.int k,ks.map V.int,rfl,rfl,ih⟩
end
section
variable {T:Tab} {cf:Nat→List D→Res D} {X:Cx} {x y z:E} {p q r tg:Expr} {pos pos':Pos} {es:List Expr}
end
section
variable {prog:Program} {w:World} {A:Around} {E:Value→Shared→Prop} {s:Shared}
set_option maxHeartbeats 1600000 in
theorem collect_dict {a:Addr} {kvs:List (Key×Value)} {ep:Nat} {Q:List Value→Shared→Prop} (hh:A.handled=none) (hd:(a==sysModules)=false) (hz:kvs.length < 64) (hS:s.heap.DictAt (mixKind prog w) a kvs ep)
 (hQ:∀vs h' tk,vs.length=kvs.length→(∀(i:Nat) v,vs[i]?=some v→∃k x,kvs[i]?=some (k,x)∧keyIs k v=true)→s.heap.objs.size≤h'.objs.size→(∀b o,b < s.heap.objs.size→s.heap.get? b=some o→h'.get? b=some o)→Q vs { s with heap:=h',toks:=tk }) :
 wpAny (model prog w) A (collect (.ref a)) Q E s:=by
 have hT:=hS.dictOf.typeIs (s:=s)
 have hlt:a < s.heap.objs.size:=by obtain⟨o,es,ho,_⟩:=hS;exact Heap.lt_size ho
 unfold collect
 refine wpAny_bind (wpAny_runValue (codeAny_builtin PySem.F.entry_proto_collect ?_))
 rw[Around.under_plainId PySem.F.plain_proto_collect _]
 show wpAny _ A.in1 (newList []>>=λl=>again (.builtin "list.__iadd__" ⟨[l,.ref a],[]⟩)) _ _ s
 refine wpAny_bind (wpAny_newObj_type ?_)
 refine wpAny_pure ⟨plainId_quiet PySem.F.plain_list_iadd _,codeAny_builtin PySem.F.entry_list_iadd ?_⟩
 rw[Around.under_plainId PySem.F.plain_list_iadd _]
 have hS₁:(s.heap.push { cls:=.type "list", data:=.seq ([]:List Value).toArray }).get? s.heap.objs.size=some { cls:=.type "list", data:=.seq ([]:List Value).toArray }:=Heap.get?_push_size _ rfl
 have hE₁:(s.heap.push { cls:=.type "list", data:=.seq ([]:List Value).toArray }).DictAt (mixKind prog w) a kvs ep:=hS.at' λo e=>Heap.get?_push_of_some _ e
 have hsz₁:(s.heap.push { cls:=.type "list", data:=.seq ([]:List Value).toArray }).objs.size=s.heap.objs.size+1:=size_push' _ _
 have hk₁:∀b o,s.heap.get? b=some o→(s.heap.push { cls:=.type "list", data:=.seq ([]:List Value).toArray }).get? b=some o:=λb o e=>Heap.get?_push_of_some _ e
 generalize s.heap.push { cls:=.type "list", data:=.seq ([]:List Value).toArray }=H1 at *
 have h1:Builtin.List.listSameRef (.ref s.heap.objs.size) (.ref a)=false:=by simp[Builtin.List.listSameRef,Nat.ne_of_gt hlt]
 show wpAny _ A.in1 (Builtin.List.listExtendWith (.ref s.heap.objs.size) (.ref a) (.ref s.heap.objs.size)) _ _ _
 unfold Builtin.List.listExtendWith
 have hT1:Shared.TypeIs { s with heap:=H1 } (.ref a) "dict" := hE₁.dictOf.typeIs (s:={ s with heap:=H1 })
 refine wpAny_bind (wpAny_typeOf hT1 ?_)
 rw[if_neg (by rw[h1];decide)]
 refine wpAny_bind (wpAny_pyIter_dict (s:={ s with heap:=H1 }) hd hE₁ ?_)
 show wpAny _ _ _ _ _ { s with heap:=H1.push { cls:=.type "dict_keyiterator", data:=.fields #[.ref a,.int 0 0,.int kvs.length 0,.int ep 0] } }
 have hI2:(H1.push { cls:=.type "dict_keyiterator", data:=.fields #[.ref a,.int 0 0,.int kvs.length 0,.int ep 0] }).get? H1.objs.size=some { cls:=.type "dict_keyiterator", data:=.fields #[.ref a,.int 0 0,.int kvs.length 0,.int ep 0] }:=Heap.get?_push_size _ rfl
 have hk₂:∀b o,H1.get? b=some o→(H1.push { cls:=.type "dict_keyiterator", data:=.fields #[.ref a,.int 0 0,.int kvs.length 0,.int ep 0] }).get? b=some o:=λb o e=>Heap.get?_push_of_some _ e
 generalize H1.push { cls:=.type "dict_keyiterator", data:=.fields #[.ref a,.int 0 0,.int kvs.length 0,.int ep 0] }=H2 at *
 have hE₂:H2.DictAt (mixKind prog w) a kvs ep:=hE₁.at' λo e=>hk₂ _ o e
 have hT2:Shared.TypeIs { s with heap:=H2 } (.ref a) "dict" := hE₂.dictOf.typeIs (s:={ s with heap:=H2 })
 refine wpAny_bind (wpAny_holding ?_)
 unfold Builtin.List.listLengthHint
 refine wpAny_bind (wpAny_specialOf hT2 PySem.F.slot_dict_len.lookup ?_)
 (generalize hid:("dict.__len__" : String)=id0;(fail_if_success (clear hid id0));wp_delta;rw[show splitId id0=some ("dict", "__len__") from by subst hid;decide +kernel];subst hid)
 refine wpAny_bind (wpAny_isInstance (b:=true) hT2 (by rw[isSubtype_type];kernel_rfl) ?_)
 rw[if_neg (by decide)]
 show wpAny _ A.in1 (typeOf (Value.ref a)>>=_) _ _ _
 refine wpAny_bind (wpAny_typeOf hT2 ?_)
 refine wpAny_pure ?_
 rw[if_pos (by decide +kernel)]
 refine wpAny_bind (wpAny_rule ?_)
 have hL2:H2.get? s.heap.objs.size=some (seqObj "list" #[] 0):=hk₂ _ _ hS₁
 unfold Builtin.List.listTouch
 refine wpAny_bind ?_
 refine wpAny_bind (listUpdate_at (s:={ s with heap:=H2 }) hL2 rfl ?_)
 have hL3:=get?_update_seq hL2 (·.push Value.none)
 refine listUpdate_at (s:={ s with heap:=H2.update s.heap.objs.size (Obj.mapSeq (·.push Value.none)) }) hL3 rfl ?_
 have hL4:∃c,((H2.update s.heap.objs.size (Obj.mapSeq (·.push Value.none))).update s.heap.objs.size (Obj.mapSeq (·.pop))).get? s.heap.objs.size=some (seqObj "list" #[] c):=⟨_,(get?_update_seq hL3 (·.pop)).trans (by rw[show ((#[]:Array Value).push Value.none).pop=#[] from rfl])⟩
 obtain⟨c4,hL4⟩:=hL4
 have hk₃:∀b o,b≠s.heap.objs.size→H2.get? b=some o→((H2.update s.heap.objs.size (Obj.mapSeq (·.push Value.none))).update s.heap.objs.size (Obj.mapSeq (·.pop))).get? b=some o:=λb o hb e=>by
  rw[Heap.get?_update_other _ _ (λh=>hb h.symm),Heap.get?_update_other _ _ (λh=>hb h.symm)];exact e
 dsimp only
 generalize (H2.update s.heap.objs.size (Obj.mapSeq (·.push Value.none))).update s.heap.objs.size (Obj.mapSeq (·.pop))=H3 at *
 have hIs:H3.IsKeyIter H1.objs.size a 0 kvs.length ep:=⟨_,hk₃ _ _ (by rw[hsz₁];exact Nat.succ_ne_self _) hI2,rfl,rfl⟩
 have hE₃:H3.DictAt (mixKind prog w) a kvs ep:=hE₂.at' λo e=>hk₃ _ o (Nat.ne_of_lt hlt) e
 have W:=(Walks.dictKeys (prog:=prog) (w:=w) (knd:=mixKind prog w) (A:=A.in1) hh H1.objs.size a (by rw[hsz₁];exact Nat.ne_of_lt (Nat.lt_succ_of_lt hlt)) kvs ep).toS
 refine wpAny_pure ⟨plainId_quiet PySem.F.plain_extend_loop _,codeAny_extend_loopS W (by rw[sizeLine_eq];lia) s.heap.objs.size ?_ _ kvs.length 0 _ #[] c4 (by lia) (Nat.zero_le _) ⟨hIs,hE₃⟩ hL4 (ItemsOf.nil _) λs' acc' c' hm hS' hacc=>?_⟩
 ·rw[hsz₁]
  simp only[List.mem_cons,List.not_mem_nil,or_false,not_or]
  exact⟨Nat.ne_of_lt (Nat.lt_succ_self _),Nat.ne_of_gt hlt⟩
 ·show wpAny _ A (load s.heap.objs.size>>=_) _ _ s'
  refine wpAny_bind (wpAny_load hS' ?_)
  obtain⟨h',g',d',tk',os'⟩:=s'
  have eg:g'=s.gens:=hm.gens
  have ed:d'=s.drawn:=hm.drawn
  have eo:os'=s.os:=hm.os
  subst eg;subst ed;subst eo
  refine wpAny_pure ?_
  have hge:s.heap.objs.size≤h'.objs.size:=Nat.le_of_lt (Heap.lt_size hS')
  refine hQ acc'.toList h' tk' (by rw[Array.length_toList];exact hacc.1) (λi v hv=>by rw[Array.getElem?_toList] at hv;exact hacc.2 i v hv) hge λb o hb e=>?_
  refine hm.heap b o ?_ (hk₃ b o (Nat.ne_of_lt hb) (hk₂ b o (hk₁ b o e)))
  rw[hsz₁]
  simp only[List.mem_cons,List.not_mem_nil,or_false,not_or]
  exact⟨Nat.ne_of_lt hb,Nat.ne_of_lt (Nat.lt_succ_of_lt hb)⟩
theorem intsAre_of:∀ {vs:List Value} {ns:List Int},vs.length=ns.length→(∀(i:Nat) v,vs[i]?=some v→∃n t,ns[i]?=some n∧v=.int n t)→IntsAre vs ns
 | [],[],_,_=>.nil
 | [],_::_,h,_=>by cases h
 | _::_,[],h,_=>by cases h
 | v::vs,n::ns,h,q=>by
  obtain⟨m,t,e1,e2⟩:=q 0 v rfl
  cases e1
  subst e2
  exact .cons n t (intsAre_of (by simpa using h) λi v hv=>q (i+1) v hv)
theorem isInt_of {n:Int} {v:Value} (h:keyIs (.inl n) v=true):∃t,v=.int n t:=Value.isInt_shape (k:=n) (v:=v) h
theorem sorted_dict {a:Addr} {kvs:List (Key×Value)} {ep:Nat} {ns:List Int} {Q:Value→Shared→Prop} (hh:A.handled=none) (hd:(a==sysModules)=false) (hk:kvs.map (·.1)=ns.map Sum.inl) (hz:ns.length < 64) (hS:s.heap.DictAt (mixKind prog w) a kvs ep)
 (h:∀h' tk l its c ns',(∀b o,b < s.heap.objs.size→s.heap.get? b=some o→h'.get? b=some o)→s.heap.objs.size≤l→h'.get? l=some (seqObj "list" its c)→IntsAre its.toList ns'→ns'.Perm ns→ns'.Pairwise (·≤·)→Q (.ref l) { s with heap:=h',toks:=tk }) :
 wpAny (model prog w) A (call (.builtin "sorted") [.ref a]) Q E s:=by
 have hl:kvs.length=ns.length:=by have:=congrArg List.length hk;rw[List.length_map,List.length_map] at this;exact this
 refine Calls.call_function_entry kind_sorted plain_sorted entry_sorted (args_sorted1 _) ?_
 unfold Builtin.«sorted»
 refine wpAny_bind (m:=checkCount "sorted" 1 1 _) (wpAny_pure ?_)
 refine wpAny_bind (collect_dict (A:=A.in1) hh hd (by lia) hS λvs H1 tk hvl hva hsz hk1=>?_)
 have hI:IntsAre vs ns:=intsAre_of (by rw[hvl,hl]) λi v hv=>by
  obtain⟨k,x,e1,e2⟩:=hva i v hv
  have e3:(kvs.map (·.1))[i]?=some k:=by rw[List.getElem?_map,e1];rfl
  rw[hk,List.getElem?_map] at e3
  cases e4:ns[i]? with
  | none=>rw[e4] at e3;cases e3
  | some n =>
   rw[e4] at e3
   cases e3
   obtain⟨t,rfl⟩:=isInt_of e2
   exact⟨n,t,rfl,rfl⟩
 have h64:vs.length < 64:=by lia
 refine wpAny_bind (wpAny_newList ?_ (by rw[sizeLine_eq];lia))
 have hoL:(H1.push (seqObj "list" vs.toArray 0)).get? H1.objs.size=some (seqObj "list" vs.toArray 0):=Heap.get?_push_size _ rfl
 refine wpAny_bind (wpAny_holding (wpAny_call_entry slot_list_sort ⟨_,hoL,rfl⟩ entry_list_sort (list_sort_tree (s:={ s with heap:=H1.push (seqObj "list" vs.toArray 0),toks:=tk }) hoL hI h64 λout ns' a1 a2 a3=>⟨_,rfl,?_⟩) (args_list_sort _)))
 obtain⟨c,hc⟩:=sortedHeap_at (out:=out) (vs:=vs) hoL
 refine wpAny_pure ⟨_,rfl,h _ _ _ out c ns' (λb o hb q=>?_) hsz hc a1 a2 a3⟩
 have hb1:b < H1.objs.size:=Nat.lt_of_lt_of_le hb hsz
 rw[sortedHeap_old (Nat.ne_of_lt hb1) (by rw[size_push'];exact Nat.lt_succ_of_lt hb1),Heap.get?_push_ne _ _ _ (Nat.ne_of_lt hb1)]
 exact hk1 b o hb q
theorem call_sortedD {X:Cx} (hc:X.calm=true):CallR X (.builtin "sorted") (λvs H Q=>∃(a:Addr) (ps:List (Key×V)) (ns:List Int),vs=[.ref a]∧Rd H a (.dK ps)∧ps.map (·.1)=ns.map Sum.inl∧ns.length < 64∧∀(l:Addr) (ns':List Int),H l=none→ns'.Perm ns→ns'.Pairwise (·≤·)→Q (.ref l) (upd H l (.lst (ns'.map V.int)))):=by
 intro pins s σ H vs us Q I rv h
 obtain⟨a,ps,ns,rfl,hR,hk,hz,q⟩:=h
 obtain⟨u,rfl,ru⟩:=rv.one
 cases ru
 obtain⟨_,hd,xs,r,m⟩:=(show ObjOk X.prog X.w H s.heap a (.dK ps) from rd_of I.hok hR)
 obtain⟨ep,m⟩:=m.dictAt
 refine sorted_dict (I.ok.hd hc) hd (by rw[←KV.keys r];exact hk) hz m λh' tk l its c ns' hk hge hl hI hp hs=>?_
 refine⟨.ref l,_,I.laid (t':=tk) (λb o e=>hk b o (Heap.lt_size e) e) hge ?_,rfl,q _ ns' (I.hok.fresh hge) hp hs⟩
 refine⟨by rw[List.length_map,hp.length_eq,sizeLine_eq];lia,its.toList,c,ints_of_are hI,by simpa using hl⟩
theorem call_sortedA {X:Cx} (hc:X.calm=true):CallR X (.builtin "sorted") (λvs H Q=>(∃(a:Addr) (ns:List Int),vs=[.ref a]∧SqL X.K H a (ns.map V.int)∧ns.length < 64∧∀(l:Addr) (ns':List Int),H l=none→ns'.Perm ns→ns'.Pairwise (·≤·)→Q (.ref l) (upd H l (.lst (ns'.map V.int)))) ∨
 ∃(a:Addr) (ps:List (Key×V)) (ns:List Int),vs=[.ref a]∧Rd H a (.dK ps)∧ps.map (·.1)=ns.map Sum.inl∧ns.length < 64∧∀(l:Addr) (ns':List Int),H l=none→ns'.Perm ns→ns'.Pairwise (·≤·)→Q (.ref l) (upd H l (.lst (ns'.map V.int)))):=by
 intro pins s σ H vs us Q I rv h
 rcases h with h | h
 ·exact call_sortedL pins s σ H vs us Q I rv h
 ·exact call_sortedD hc pins s σ H vs us Q I rv h
end
section
variable {T:Tab} {cf:Nat→List D→Res D} {X:Cx} {x y z:E} {p q r tg:Expr} {pos pos':Pos} {es:List Expr}
noncomputable def spM (K:PySem.W.Frag) (j:Nat) (F:List D→Res D) (fr:Bool):Sp:=λvs H Q E=>∃O ds Hb d0 v0,Same Hb H∧(∀a,O a→∃o,Hb a=some o)∧RDs K H O ds vs∧ds[j]?=some d0∧vs[j]?=some v0∧NV K H O d0 v0∧(∀a,v0=.ref a→Hb a=none) ∧
 ((∃d,F ds=.ok d∧∀v H',Same Hb H'→RD K H' O d v→(fr=true→NewR K Hb H' O d v)→Q v H')∨∃c d,F ds=.err c d∧∀od H',Same Hb H'→PayOk d od H'→E (cvK K c) od H')
noncomputable def SameX (a b:Addr) (H H':Hp):Prop:=∀c o,c≠a→c≠b→H c=some o→H' c=some o
noncomputable def spR (K:PySem.W.Frag) (F:List D→Res D) (vs:List V) (H:Hp) (Q:VK) (_:XK):Prop:=∃(O:Addr→Prop) (x y:D) (j k:List (Sum Int Str×D)) (v w:V) (a b:Addr) (r:D) (j' k':List (Sum Int Str×D)),
 vs=[v,.ref a,.ref b,w]∧a≠b∧(O a∧O b∧∀c,O c→∃o,H c=some o)∧(RD K H O x v∧RD K H O y w∧OwnAt K H O a (.dct j)∧OwnAt K H O b (.dct k))∧F [x,.tup [.int (a:Nat),.dct j],.tup [.int (b:Nat),.dct k],y]=.ok (.tup [r,.dct j',.dct k']) ∧
 ∀v H',SameX a b H H'→RD K H' O r v→OwnAt K H' O a (.dct j')→OwnAt K H' O b (.dct k')→Q v H'
noncomputable def spOf (K:PySem.W.Frag) (T:Tab) (F:List D→Res D) (i:Nat):Sp:=match T.mv i with
 | none=>spD K F (T.fresh i)
 | some j=>if j=1000 then spR K F else spM K j F (T.fresh i)
theorem spOf_none {K:PySem.W.Frag} {F:List D→Res D} {i:Nat} (h:T.mv i=none):spOf K T F i=spD K F (T.fresh i):=by unfold spOf;rw[h]
theorem spOf_some {K:PySem.W.Frag} {F:List D→Res D} {i j:Nat} (h:T.mv i=some j) (hj:¬j=1000):spOf K T F i=spM K j F (T.fresh i):=by unfold spOf;rw[h];exact if_neg hj
theorem spOf_ref {K:PySem.W.Frag} {F:List D→Res D} {i:Nat} (h:T.mv i=some 1000):spOf K T F i=spR K F:=by unfold spOf;rw[h];exact if_pos rfl
noncomputable def DefAny (T:Tab) (cf:Nat→List D→Res D) (X:Cx) (f:Nat) (n:Str):Prop :=
 ∃k a fd ps,FnOk X.prog X.w X.K X.mg X.base (CXE X.prog X.w) k a fd ps (spOf X.K T (cf f) f)∧Room k X.A∧X.mg n=some (.ref a)∧PySem.W.keepIn X.K (.ref a)=true∧Binds X.K fd ps []
theorem flatL_ex {d:D} (h:d.flatL=true):∃ds,d=.lst ds∧D.flats ds=true:=by
 cases d with
 | lst ds=>exact⟨ds,rfl,h⟩
 | _=>cases h
theorem NewL.nv {K:PySem.W.Frag} {H H':Hp} {O:Addr→Prop} {d:D} {v:V} (n:NewL K H H' O d v) (h:d.flatL=true) (tr:∀a,O a→∃o,H a=some o):NV K H' O d v∧∀a,v=.ref a→H a=none:=by
 obtain⟨ds,rfl,hf⟩:=flatL_ex h
 obtain⟨a,rfl,ha,xs,hx,hr⟩:=n rfl
 have nO:¬O a:=λz=>by
  obtain⟨o,w⟩:=tr a z
  rw[ha] at w;cases w
 exact⟨.inr ⟨ds,a,xs,rfl,hf,rfl,hx,nO,hr.flat hf⟩,λb e=>by cases e;exact ha⟩
theorem getD_some {ds:List D} {j:Nat} (h:(ds.getD j .non).flatL=true):∃d,ds[j]?=some d∧d.flatL=true:=by
 rw[List.getD_eq_getElem?_getD] at h
 cases q:ds[j]? with
 | none=>rw[q] at h;cases h
 | some d=>rw[q] at h;exact⟨d,rfl,h⟩
theorem insI_perm (n:Int):∀(l:List Int),(insI n l).Perm (n::l)
 | []=>.refl _
 | m::r=>by
  unfold insI
  split
  ·exact .refl _
  ·exact ((insI_perm n r).cons m).trans (.swap n m r)
theorem sortI_perm:∀(l:List Int),(sortI l).Perm l
 | []=>.refl _
 | n::r=>(insI_perm n (sortI r)).trans ((sortI_perm r).cons n)
theorem insI_sorted (n:Int):∀ {l:List Int},l.Pairwise (·≤·)→(insI n l).Pairwise (·≤·)
 | [],_=>List.pairwise_singleton _ _
 | m::r,h=>by
  obtain⟨h1,h2⟩:=List.pairwise_cons.mp h
  unfold insI
  split
  ·rename_i c
   refine List.pairwise_cons.mpr ⟨λy hy=>?_,h⟩
   rcases List.mem_cons.mp hy with rfl | hy
   ·exact c
   ·exact Int.le_trans c (h1 y hy)
  ·rename_i c
   refine List.pairwise_cons.mpr ⟨λy hy=>?_,insI_sorted n h2⟩
   rcases List.mem_cons.mp ((insI_perm n r).mem_iff.mp hy) with rfl | hy
   ·lia
   ·exact h1 y hy
theorem sortI_sorted:∀(l:List Int),(sortI l).Pairwise (·≤·)
 | []=>.nil
 | n::r=>insI_sorted n (sortI_sorted r)
theorem sorted_eq:∀ {a b:List Int},a.Perm b→a.Pairwise (·≤·)→b.Pairwise (·≤·)→a=b
 | [],b,h,_,_=>(List.Perm.nil_eq h)
 | x::a,[],h,_,_=>absurd h.length_eq (by simp)
 | x::a,y::b,h,ha,hb=>by
  obtain⟨a1,a2⟩:=List.pairwise_cons.mp ha
  obtain⟨b1,b2⟩:=List.pairwise_cons.mp hb
  have e:x=y:=by
   have h1:x∈y::b:=h.mem_iff.mp (List.mem_cons_self ..)
   have h2:y∈x::a:=h.mem_iff.mpr (List.mem_cons_self ..)
   rcases List.mem_cons.mp h1 with z | z
   ·exact z
   ·rcases List.mem_cons.mp h2 with w | w
    ·exact w.symm
    ·exact Int.le_antisymm (a1 y w) (b1 x z)
  subst e
  rw[sorted_eq (List.Perm.cons_inv h) a2 b2]
theorem keyInts_ok {K:PySem.W.Frag} {H:Hp} {O:Addr→Prop}:∀ {kvs:List (Sum Int Str×D)} {ps:List (Key×V)} {ns:List Int},keyInts kvs=.ok ns→RDk K H O kvs ps→ps.map (·.1)=ns.map Sum.inl
 | [],ps,ns,h,r=>by cases h;cases (show ps=[] from r);rfl
 | (.inl n,d)::q,ps,ns,h,r=>by
  obtain⟨m,e1,h⟩:=Res.bind_ok (show (keyInts q>>=λx=>Res.ok (n::x))=.ok ns from h)
  cases h
  obtain⟨v,r',e,_,h2⟩:=r
  subst e
  rw[List.map_cons,List.map_cons,keyInts_ok e1 h2]
 | (.inr _,d)::q,ps,ns,h,r=>by cases h
theorem se_srt {pn:Pos} (hcm:X.calm=true) (hm1:X.mg "sorted" = none) (hg1:Gl X "sorted") (hp:plainX p=true) (ha:SR T cf X x p):SE T cf X (.srt x) (.Call (.Name "sorted" pn) [p] [] pos):=λH₀ O₀=>by
 refine PE.imp (λσ H Q hq=>?_) (pe_callB (call_sortedA hcm) hg1 hm1 (by decide +kernel) (pa_cons (ha H₀ O₀) pa_nil (plain_star hp)) (by decide) (by decide) (plain_star hp) rfl)
 obtain⟨O,own,e,d,F,ev,k⟩:=hq
 (first | rw[xE_lst] at ev | rw[xE_srt] at ev)
 obtain⟨d1,e1,ev1⟩:=Res.bind_ok ev
 refine⟨O,own,e,d1,F,e1,λv1 H1 s1 r1=>?_⟩
 cases d1 with
 | lst ds =>
  obtain⟨ns,e2,ev2⟩:=Res.bind_ok (show (intsOf ds>>=_)=Res.ok d from ev1)
  obtain⟨c,ev3⟩:=when_ok ev2
  cases ev3
  obtain⟨a,xs,rfl,q1,w1⟩:=r1.lst
  rw[ints_vals e2 w1] at q1
  refine .inl ⟨a,ns,rfl,q1,of_decide_eq_true c,λl ns' hl hp hs=>?_⟩
  rw[sorted_eq (hp.trans (sortI_perm ns).symm) hs (sortI_sorted ns)]
  have z:=new_lst (K:=X.K) (O:=O) (rds_ints (sortI ns)) hl (F.grow s1).trk
  exact k _ _ (s1.trans (same_upd hl _)) z.1 λ_=>z.2.back s1
 | dct kvs =>
  obtain⟨ns,e2,ev2⟩:=Res.bind_ok (show (keyInts kvs>>=_)=Res.ok d from ev1)
  obtain⟨c,ev3⟩:=when_ok ev2
  cases ev3
  obtain⟨a,ps,rfl,q1,w1⟩:=r1.dct
  refine .inr ⟨a,ps,ns,rfl,q1,keyInts_ok e2 w1,of_decide_eq_true c,λl ns' hl hp hs=>?_⟩
  rw[sorted_eq (hp.trans (sortI_perm ns).symm) hs (sortI_sorted ns)]
  have z:=new_lst (K:=X.K) (O:=O) (rds_ints (sortI ns)) hl (F.grow s1).trk
  exact k _ _ (s1.trans (same_upd hl _)) z.1 λ_=>z.2.back s1
 | _=>cases ev1
theorem newE_nv {e:Nv} {H₀ H H':Hp} {O₀ O:Addr→Prop} {own:Nat→Option Addr} {σ:L2.St} {K:PySem.W.Frag} {d:D} {v:V} (F:Fm K H₀ O₀ H O own e σ) (s:Same H H') (ev:evE T cf x e=.ok d) (hn:newE T x e=true) (hf:d.flatL=true) (n:freshE T x=true→NewL K H H' O d v)
 (hv:∀j,x=.var j→stAt σ j=some v):NV K H' O d v∧∀a,v=.ref a→H₀ a=none:=by
 unfold newE at hn
 rw[Bool.or_eq_true] at hn
 rcases hn with hn | hn
 ·obtain⟨h1,h2⟩:=(n hn).nv hf F.trk
  exact⟨h1,λa e=>F.same.free (h2 a e)⟩
 ·cases x with
  | var j =>
   have hn:(e.at j).isN=true:=hn
   have q:=F.sl j
   cases w:e.at j with
   | n d' =>
    rw[w] at q
    (first | rw[xE_var] at ev | rw[xE_sl] at ev)
    rw[w] at ev
    cases ev
    obtain⟨v',e1,r⟩:=q
    rw[hv j rfl] at e1
    cases e1
    exact⟨r.map (λq=>q.same s) λa xs z q=>⟨z,s _ _ q⟩,λa e=>F.nw j _ a w (by rw[hv j rfl,e])⟩
   | _=>rw[w] at hn;cases hn
  | _=>cases hn
noncomputable def isVar:E→Option Nat
 | .var j=>some j
 | _=>none
theorem ss_asgN {i:Nat} {n:Str} (hx:notComp p=true) (hN:X.N.Nodup) (hi:X.N[i]?=some n) (hl:Loc X.env.scope n) (hf:X.fn n=true∨X.env.scope.names.lookup n=some .local) (hv:isVar x=none) (h:SE T cf X x p):SS T cf X (.asgN i x) (.Assign [.Name n pos'] p pos):=λH₀ O₀=>by
 refine PS.imp (λD' σ H hq=>?_) (ps_set hN hi hl (h H₀ O₀) (swaps_no hx) hf)
 obtain⟨ts,e,out,⟨O,own,F,tt⟩,ev,k⟩:=hq
 rw[xS_asgN] at ev
 obtain⟨d,e1,ev⟩:=Res.bind_ok ev
 obtain⟨c,ev⟩:=when_ok ev
 cases ev
 rw[Bool.and_eq_true,Bool.or_eq_true] at c
 refine⟨O,own,e,d,F,e1,λv H' s' r n=>?_⟩
 have key:NV X.K H' O d v∧∀a,v=.ref a→H₀ a=none:=by
  rcases c.2 with z | z
  ·cases d with
   | non=>cases (show v=_ from r);exact⟨.inl ⟨rfl,rfl⟩,λa e=>by cases e⟩
   | _=>cases z
  ·exact newE_nv F s' e1 c.1 z n λj e=>by rw[e] at hv;cases hv
 exact k _ H' ⟨O,_,(F.grow s').setN i key.1 key.2,λt ht=>(tt t ht).same s'⟩
theorem ss_asgNv {i j:Nat} {n m:Str} {pm:Pos} (hN:X.N.Nodup) (hi:X.N[i]?=some n) (hl:Loc X.env.scope n) (hf:X.fn n=true∨X.env.scope.names.lookup n=some .local) (hj:X.N[j]?=some m) (hv:Vis X.env.scope m) (hd:(m==("__debug__" : Str))=false) (hc:(m==("__classdict__" : Str))=false):SS T cf X (.asgN i (.var j)) (.Assign [.Name n pos'] (.Name m pm) pos):=λH₀ O₀=>by
 refine PS.imp (λD' σ H hq=>?_) (ps_set hN hi hl (pe_var hj hv hd hc) (swaps_no rfl) hf)
 obtain⟨ts,e,out,⟨O,own,F,tt⟩,ev,k⟩:=hq
 rw[xS_asgN] at ev
 obtain⟨d,e1,ev⟩:=Res.bind_ok ev
 obtain⟨c,ev⟩:=when_ok ev
 cases ev
 rw[Bool.and_eq_true,Bool.or_eq_true] at c
 obtain⟨v,g1,g2⟩:=F.val (i:=j) (by rw[xE_var] at e1;exact e1)
 have g3:stAt σ j=some v:=by unfold stAt;rw[g1];rfl
 have key:NV X.K H O d v∧∀a,v=.ref a→H₀ a=none:=by
  rcases c.2 with z | z
  ·cases d with
   | non=>cases (show v=_ from g2);exact⟨.inl ⟨rfl,rfl⟩,λa e=>by cases e⟩
   | _=>cases z
  ·exact newE_nv F (Same.refl H) e1 c.1 z (λz=>by cases z) λj e=>by cases e;exact g3
 exact⟨v,g1,k _ H ⟨O,_,F.setN i key.1 key.2,tt⟩⟩
end
theorem miss_keys:typeLookup (.type "list") "keys" = pure none:=am_miss_of_fast (by decide +kernel)
theorem keys_miss {prog:Program} {w:World} {A:Around} {E:Value→Shared→Prop} {s:Shared} {a:Addr} {o:Obj} {xs:Array Value} {k:Nat} {Q:Option Value→Shared→Prop}
 (hx:s.heap.get? a=some o) (hc:o.cls=.type "list") (hdat:o.data=.seq xs k) (hd:o.dict=none) (hA:A.handled=none)
 (h:∀h' tk e,Heap.NewExcOf s.heap h' e "AttributeError" → Q none { s with heap:=h',toks:=tk }) :
 wpAny (model prog w) A (getAttr? (.ref a) "keys") Q E s:=by
 obtain⟨c,dct,dat,sl⟩:=o
 simp only at hc hdat hd
 subst hc hdat hd
 obtain⟨hp,g,d,tk,os⟩:=s
 have hT:∀tk',(⟨hp,g,d,tk',os⟩:Shared).TypeIs (.ref a) "list" := λ_=>⟨_,hx,rfl⟩
 have f1:=sub_AttributeError
 have f3:=F.slot_list_getattribute.lookup
 have f4:=F.slot_list_getattribute.bind (.ref a)
 have f5:=am_list_getattr_none
 unfold getAttr? getAttrBy? getAttrBy
 repeat (any_goals (first | assumption | exact hT _ | ((with_reducible show wpAny _ _ (call (Value.builtin "list.__getattribute__") _ _) _ _ _);refine call_meets F.slot_list_getattribute (hT _) am_entry_list_getattribute (F.args_list_getattribute_2 _ _) (meets_getattribute_miss_list a xs k sl "keys" _ miss_keys (by decide +kernel) (by size_fits)) ⟨hx,hA,λh' tk' e hx'=>?_⟩) | wp_step))
 obtain⟨t',u',he⟩:=hx'.there
 show wpAny _ _ (getattributeRaised _ _ _ _ _ _ _) _ _ _
 unfold getattributeRaised
 repeat (any_goals (first | assumption | wp_step))
 exact h _ _ _ hx'.of
theorem entry_dul:entryFor table "dict.update.loop" = some Builtin.«dict.update.loop»:=entryFor_of_tree (by kernel_rfl)
theorem plain_dul:plainId "dict.update.loop" = true:=by decide +kernel
section
variable {prog:Program} {w:World}
variable {A:Around} {R:Result→Shared→Prop} {I:Addr} {fp wr:List Addr} {G:Array GenState→Array GenState→Prop} {n:Nat} {P:Nat→Value→Prop} {St:Nat→Shared→Prop}
end
section
variable {prog:Program} {w:World} {A:Around} {E:Value→Shared→Prop} {s:Shared}
end
theorem foldl_getD {α β:Type} (f:β→α→β) (z:α) (vs:List α) (x:β):(List.range' 0 vs.length).foldl (λb j=>f b (vs.getD j z)) x=vs.foldl f x:=by
 have e:(List.range' 0 vs.length).map (λj=>vs.getD j z)=vs:=by
  rw[←List.range_eq_range']
  apply List.ext_getElem
  ·simp
  ·intro i h1 h2
   simp[h2]
 rw[←List.foldl_map (f:=λj=>vs.getD j z) (g:=f),e]
section
variable {T:Tab} {cf:Nat→List D→Res D} {X:Cx} {x y z:E} {p q r tg:Expr} {pos pos':Pos} {es:List Expr}
theorem rdk_get {K:PySem.W.Frag} {H:Hp} {O:Addr→Prop}:∀ {kvs:List (Sum Int Str×D)} {ps:List (Key×V)} {i:Nat} {kv:Sum Int Str×D},RDk K H O kvs ps→kvs[i]?=some kv→∃q,ps[i]?=some q∧q.1=kv.1
 | [],_,_,_,_,e=>by simp at e
 | (k,d)::r,ps,i,kv,h,e=>by
  obtain⟨v,q,rfl,_,h2⟩:=h
  cases i with
  | zero=>cases e;exact⟨_,rfl,rfl⟩
  | succ i=>exact rdk_get (i:=i) h2 (by simpa using e)
theorem rdt_get {K:PySem.W.Frag} {H:Hp} {O:Addr→Prop}:∀ {kvs:List (List (Sum Int Str)×D)} {ps:List (List Key×V)} {i:Nat} {kv:List (Sum Int Str)×D},RDt K H O kvs ps→kvs[i]?=some kv→∃q,ps[i]?=some q∧q.1=kv.1
 | [],_,_,_,_,e=>by simp at e
 | (k,d)::r,ps,i,kv,h,e=>by
  obtain⟨v,q,rfl,_,h2⟩:=h
  cases i with
  | zero=>cases e;exact⟨_,rfl,rfl⟩
  | succ i=>exact rdt_get (i:=i) h2 (by simpa using e)
theorem rd_key {K:PySem.W.Frag} {H:Hp} {O:Addr→Prop} (k:Key):RD K H O (keyD k) (kV k):=by
 cases k with
 | inl i=>exact rfl
 | inr x=>exact rfl
theorem rds_keys {K:PySem.W.Frag} {H:Hp} {O:Addr→Prop}:∀(ks:List Key),RDs K H O (ks.map keyD) (ks.map kV)
 | []=>rfl
 | k::ks=>⟨_,_,rfl,rd_key k,rds_keys ks⟩
theorem wk_keysK {K:PySem.W.Frag} {a:Addr} {o:Obj} {kvs:List (Sum Int Str×D)} {ps:List (Key×V)} (hl:ps.length=kvs.length) (hk:∀(i:Nat) (kv:Sum Int Str×D),kvs[i]?=some kv→∃q:Key×V,ps[i]?=some q∧q.1=kv.1):Wk K (Itk a o kvs.length) [.fr a o (.dK ps)] (kvs.map λkv=>keyD kv.1):=by
 intro i H O r
 have h:H a=some (.frz o (.dK ps)):=r _ (List.mem_singleton.mpr rfl)
 rw[List.length_map]
 refine⟨λhi=>.inl ⟨ps,h,hl,hi⟩,λhi=>⟨.inl ⟨ps,h,hl⟩,hi⟩,λx H' d hd y=>?_⟩
 obtain⟨rfl,y⟩:=y
 refine⟨Same.refl _,?_⟩
 rw[List.getElem?_map] at hd
 cases hz:kvs[i]? with
 | none=>rw[hz] at hd;cases hd
 | some kv =>
  rw[hz] at hd
  cases hd
  obtain⟨q,h1,h2⟩:=hk i kv hz
  rcases y with ⟨ps',y1,y2,y3⟩ | ⟨ps',y1,_⟩
  ·rw[h] at y1
   cases y1
   rw[h1] at y3
   cases y3
   show RD K _ O (keyD kv.1) (kV q.1)
   rw[h2]
   exact rd_key _
  ·rw[h] at y1;cases y1
theorem wk_keysT {K:PySem.W.Frag} {a:Addr} {o:Obj} {kvs:List (List (Sum Int Str)×D)} {ps:List (List Key×V)} (hl:ps.length=kvs.length) (hk:∀(i:Nat) (kv:List (Sum Int Str)×D),kvs[i]?=some kv→∃q:List Key×V,ps[i]?=some q∧q.1=kv.1):Wk K (Itk a o kvs.length) [.fr a o (.dT ps)] (kvs.map λkv=>.tup (kv.1.map keyD)):=by
 intro i H O r
 have h:H a=some (.frz o (.dT ps)):=r _ (List.mem_singleton.mpr rfl)
 rw[List.length_map]
 refine⟨λhi=>.inr ⟨ps,h,hl,hi⟩,λhi=>⟨.inr ⟨ps,h,hl⟩,hi⟩,λx H' d hd y=>?_⟩
 obtain⟨rfl,y⟩:=y
 refine⟨Same.refl _,?_⟩
 rw[List.getElem?_map] at hd
 cases hz:kvs[i]? with
 | none=>rw[hz] at hd;cases hd
 | some kv =>
  rw[hz] at hd
  cases hd
  obtain⟨q,h1,h2⟩:=hk i kv hz
  rcases y with ⟨ps',y1,_⟩ | ⟨ps',y1,y2,y3⟩
  ·rw[h] at y1;cases y1
  ·rw[h] at y1
   cases y1
   rw[h1] at y3
   rcases y3 with ⟨z,_⟩ | ⟨q',b,z1,z2,z3⟩
   ·cases z
   ·cases z1
    cases z2
    rw[h2] at z3
    exact⟨b,_,rfl,.inl z3,rds_keys _⟩
theorem SI.up (h:SI T cf X tg x false p):SI T cf X tg x true p:=λH₀ O₀ pins s σ H R I q =>
 h H₀ O₀ pins s σ H R I (let ⟨O,own,e,ds,F,ev,k⟩:=q;⟨O,own,e,ds,F,ev,λJ H' srs s' r _ wk=>k J H' srs s' r (λz=>nomatch z) wk⟩)
theorem si_seqD (hv:SE T cf X x p):SI T cf X tg (.seqD x) false p:=by
 intro H₀ O₀ pins s σ H R I h
 obtain⟨O,own,e,ds,F,ev,k⟩:=h
 rw[xI_seqD] at ev
 obtain⟨d1,e1,ev⟩:=Res.bind_ok ev
 refine thn (hv H₀ O₀ pins s σ H (λv H1=>Same H H1∧RD X.K H1 O d1 v) I ⟨O,own,e,d1,F,e1,λv H' s' r _=>⟨s',r⟩⟩) λu s1 ⟨v,H1,I1,r1,s1',rr⟩=>?_
 have go:∀(a:Addr) (o:Obj) (n:Nat) (es:Array DictEntry) (ep:Nat) (pn:Pin),o.data=.dict es ep→RawD s1.heap a es ep→(a==sysModules)=false→es.size=n→PinOk X.K H1 O pn→Wk X.K (Itk a o n) [pn] ds→wpAny (model X.prog X.w) X.A (pyIter (.ref a)) (PIE X pins σ tg R) X.xe s1:=by
  intro a o n es ep pn hd rw' ns hn hp wk
  subst hn
  refine raw_iter ns rw' ?_
  refine⟨s1.heap.objs.size,[s1.heap.objs.size],_,Itk a o es.size,H1,rfl,I1.kept (t':=s1.toks) λb u e=>Heap.get?_push_of_some _ e,turn_keys hd a _ es.size rfl,⟨_,Heap.get?_push_size _ rfl,rfl,rfl⟩,λb hb=>?_,k _ H1 [pn] s1' (λt ht=>by rw[List.mem_singleton.mp ht];exact hp.rr) (λ_ t ht=>by rw[List.mem_singleton.mp ht];exact hp) wk⟩
  rcases List.mem_cons.mp hb with rfl | hb
  ·exact I1.fpOk (Nat.le_refl _) (I1.hok.fresh (Nat.le_refl _))
  ·cases hb
 cases d1 with
 | tdc kvs =>
  cases (show Res.ok _=Res.ok ds from ev)
  obtain⟨a,ps,rfl,⟨o,hf⟩,w⟩:=rr
  cases r1
  obtain⟨e1,e2,e3,xs,e4,o',es,ep,g1,g2,g3,g4⟩:=(show ObjOk X.prog X.w H1 s1.heap a (.frz o (.dT ps)) from I1.hok a _ hf)
  have eo:o'=o:=by rw[e1] at g1;cases g1;rfl
  subst eo
  obtain⟨x1,x2,x3,x4⟩:=raw_T I1 hf g3
  exact go a o' kvs.length es ep (.fr a o' (.dT ps)) g3 x1 x2 (by rw[x3,w.length]) hf (wk_keysT w.length λi kv=>rdt_get w)
 | dct kvs =>
  cases (show Res.ok _=Res.ok ds from ev)
  obtain⟨a,ps,rfl,⟨o,hf⟩,w⟩:=rr
  cases r1
  obtain⟨e1,e2,e3,xs,e4,o',es,ep,g1,g2,g3,g4⟩:=(show ObjOk X.prog X.w H1 s1.heap a (.frz o (.dK ps)) from I1.hok a _ hf)
  have eo:o'=o:=by rw[e1] at g1;cases g1;rfl
  subst eo
  obtain⟨x1,x2,x3,x4⟩:=raw_K I1 hf g3
  exact go a o' kvs.length es ep (.fr a o' (.dK ps)) g3 x1 x2 (by rw[x3,w.length]) hf (wk_keysK w.length λi kv=>rdk_get w)
 | _=>cases ev
theorem ss_dputV {i:Nat} {n:Str} {px tpos:Pos} (hR:Roomy X) (hN:X.N[i]?=some n) (hv:Vis X.env.scope n) (hd:(n==("__debug__" : Str))=false) (hc:(n==("__classdict__" : Str))=false) (hx:notComp p=true) (hk:SE T cf X y q) (h:SE T cf X x p) :
 SS T cf X (.dputV i y x) (.Assign [.Subscript (.Name n px) q tpos] p pos):=λH₀ O₀=>by
 have hR':X.A.units+64 < cLine:=hR
 refine PS.imp (λD' σ H hq=>?_) (ps_dput (by lia) (pe_var hN hv hd hc) (hk H₀ O₀) (h H₀ O₀) (swaps_no hx))
 obtain⟨ts,e,out,⟨O,own,F,tt⟩,ev,k⟩:=hq
 rw[xS_dputV] at ev
 obtain⟨d,e1,ev⟩:=Res.bind_ok ev
 obtain⟨l,e2,ev⟩:=Res.bind_ok ev
 obtain⟨dk,e3,ev⟩:=Res.bind_ok ev
 obtain⟨key,e4,ev⟩:=Res.bind_ok ev
 obtain⟨c,ev⟩:=when_ok ev
 cases ev
 refine⟨O,own,e,d,F,e1,λv H1 s1 r1 _=>?_⟩
 obtain⟨q1,xs1,g1,g2,g3,g4,g5⟩:=(F.grow s1).mutT i (Sl.ownT_ok e2)
 refine⟨.ref q1,st_get g1,O,own,e,dk,F.grow s1,e3,λv2 H2 s2 r2 _=>?_⟩
 have F2:=(F.grow s1).grow s2
 obtain⟨q2,xs2,f1,f2,f3,f4,f5⟩:=F2.mutT i (Sl.ownT_ok e2)
 have eq:q2=q1:=by rw[g1] at f1;cases f1;rfl
 subst eq
 cases dk with
 | tup ks =>
  obtain⟨b,xs,rfl,tq,w1⟩:=r2
  have hp3:=tup_key (of_ok (show Res.of (keysI ks)=.ok key from e4)) w1 tq
  refine⟨q2,_,rfl,DPut.t f2 hp3 (by rw[f3.length,←big_line];exact of_decide_eq_true c),?_⟩
  exact k _ _ ⟨O,own,f5 _ _ (rdt_put (r1.same s2) f3),λt ht=>(((tt t ht).same s1).same s2).updM f4 f2 trivial⟩
 | _=>cases e4
end
section
variable {K:PySem.W.Frag} {H₀ H H':Hp} {O₀ O:Addr→Prop} {own:Nat→Option Addr} {e:Nv} {σ:L2.St}
theorem sameX_split {a b:Addr} {u1 u2 n1 n2:HO} (ab:a≠b) (h1:H a=some u1) (h2:H b=some u2) (g1:H' a=some n1) (g2:H' b=some n2) (s:SameX a b H H') :
 ∃H1,Same H H1∧H1 a=some u1∧H1 b=some u2∧upd (upd H1 a n1) b n2=H'∧upd H1 a n1=upd H' b u2:=by
 have e1:upd (upd H' a u1) b u2 a=some u1:=by rw[upd_ne ab,upd_same]
 refine⟨upd (upd H' a u1) b u2,λc o q=>?_,e1,upd_same,funext λc=>?_,funext λc=>?_⟩
 ·by_cases z2:c=b
  ·subst z2;rw[upd_same,←h2,q]
  ·rw[upd_ne z2]
   by_cases z1:c=a
   ·subst z1;rw[upd_same,←h1,q]
   ·rw[upd_ne z1];exact s c o z1 z2 q
 ·by_cases z2:c=b
  ·subst z2;rw[upd_same,g2]
  ·rw[upd_ne z2]
   by_cases z1:c=a
   ·subst z1;rw[upd_same,g1]
   ·rw[upd_ne z1,upd_ne z2,upd_ne z1]
 ·by_cases z1:c=a
  ·subst z1;rw[upd_same,upd_ne ab,g1]
  ·rw[upd_ne z1]
   by_cases z2:c=b
   ·subst z2;rw[upd_same,upd_same]
   ·rw[upd_ne z2,upd_ne z2,upd_ne z1]
theorem Sl.giv_ok {x:Sl} {g:List (Sum Int Str×D)} (h:x.givD=.ok g):x=.o (.dct g)∨∃a,x=.r a (.dct g):=by
 unfold Sl.givD at h
 split at h
 ·cases h;exact .inl rfl
 ·cases h;exact .inr ⟨_,rfl⟩
 ·cases h
theorem Sl.refD_ok {x:Sl} {g:Nat×List (Sum Int Str×D)} (h:x.refD=.ok g):x=.r g.1 (.dct g.2):=by
 unfold Sl.refD at h
 split at h
 ·cases h;rfl
 ·cases h
theorem Fm.giv (F:Fm K H₀ O₀ H O own e σ) {i:Nat} {g:List (Sum Int Str×D)} (h:(e.at i).givD=.ok g):∃a,own i=some a∧stAt σ i=some (.ref a)∧OwnAt K H O a (.dct g)∧O a∧H₀ a=none:=by
 have q:=F.sl i
 rcases Sl.giv_ok h with z | ⟨a,z⟩
 ·rw[z] at q
  obtain⟨a,e1,e2,h1⟩:=q
  exact⟨a,e1,e2,h1,F.new i a e1⟩
 ·rw[z] at q
  exact⟨a,q.1,q.2.1,q.2.2,F.new i a q.1⟩
theorem Fm.mutG (F:Fm K H₀ O₀ H O own e σ) {i:Nat} {g:List (Sum Int Str×D)} (hi:(e.at i).givD=.ok g) {p:Addr} (e1:own i=some p) {d':D} {o':HO} (r:OwnAt K (upd H p o') O p d') :
 Fm K H₀ O₀ (upd H p o') O own (e.set i ((e.at i).giv d')) σ:=by
 obtain⟨p',e1',e2,h1,hn⟩:=F.giv hi
 rw[e1] at e1'
 cases e1'
 obtain⟨o,ho,hm⟩:=h1.obj
 have hlen:i < e.length:=by
  by_cases h:i < e.length
  ·exact h
  ·rw[at_out h] at hi;cases hi
 have hx:∀d,(e.at i).giv d'≠.n d:=λd z=>by
  rcases Sl.giv_ok hi with q | ⟨a,q⟩
  ·rw[q] at z;cases z
  ·rw[q] at z;cases z
 refine⟨by rw[List.length_set];exact F.len,λj=>?_,F.inj,λb u hb=>?_,F.sub,F.trk0,λa ha=>?_,F.new,nw_put hx F.nw⟩
 ·by_cases h:i=j
  ·subst h
   rw[at_set_same hlen,e2]
   rcases Sl.giv_ok hi with q | ⟨a,q⟩
   ·rw[q];exact⟨p,e1,rfl,r⟩
   ·have q2:=F.sl i
    rw[q] at q2 ⊢
    have ea:a=p:=by have:=q2.1;rw[e1] at this;cases this;rfl
    subst ea
    exact⟨e1,rfl,r⟩
  ·rw[at_set_ne h]
   refine RS.map (λq=>q.updM hn.1 ho hm) (λq=>q.updM hn.1 ho hm) (λq=>q.updM hn.1 ho hm) (λq=>q.updM hn.1 ho hm) (λa u ea _ q=>?_) (F.sl j) (nn_upd hn.1) (upd_map (K:=K) hn.1 ho hm).1
   have:a≠p:=λz=>h (F.inj i j p e1 (z▸ea))
   rw[upd_ne this];exact q
 ·rw[upd_ne (λz=>by rw[z,hn.2] at hb;cases hb)];exact F.same b u hb
 ·by_cases h:a=p
  ·subst h;exact⟨_,upd_same⟩
  ·obtain⟨ys,q⟩:=F.trk a ha
   exact⟨ys,by rw[upd_ne h];exact q⟩
theorem Fm.mut2 (F:Fm K H₀ O₀ H O own e σ) {i j:Nat} (ij:i≠j) {g h g' h':List (Sum Int Str×D)} (hi:(e.at i).givD=.ok g) (hj:(e.at j).givD=.ok h) {a b:Addr} (ea:own i=some a) (eb:own j=some b) (s:SameX a b H H') (oa:OwnAt K H' O a (.dct g')) (ob:OwnAt K H' O b (.dct h')) :
 Fm K H₀ O₀ H' O own ((e.set i ((e.at i).giv (.dct g'))).set j ((e.at j).giv (.dct h'))) σ∧∀t,PinOk K H O t→PinOk K H' O t:=by
 obtain⟨a',ea',_,h1,hn1⟩:=F.giv hi
 rw[ea] at ea';cases ea'
 obtain⟨b',eb',_,h2,hn2⟩:=F.giv hj
 rw[eb] at eb';cases eb'
 have ab:a≠b:=λz=>ij (F.inj i j a ea (z▸eb))
 obtain⟨ps1,g1,r1⟩:=oa
 obtain⟨ps2,g2,r2⟩:=ob
 obtain⟨u1,w1,m1⟩:=h1.obj
 obtain⟨u2,w2,m2⟩:=h2.obj
 obtain⟨H1,s1,x1,x2,eq,eq2⟩:=sameX_split ab w1 w2 g1 g2 s
 have y2:upd H1 a (.dK ps1) b=some u2:=by rw[upd_ne (Ne.symm ab)];exact x2
 refine⟨?_,λt ht=>?_⟩
 ·have F1:=(F.grow s1).mutG hi ea (d':=.dct g') (o':=.dK ps1) ⟨ps1,upd_same,by rw[eq2];exact r1.updM hn2.1 g2 trivial⟩
  have hj1:Nv.at (e.set i ((e.at i).giv (.dct g'))) j=e.at j:=at_set_ne ij
  have F2:=F1.mutG (i:=j) (by rw[hj1];exact hj) eb (d':=.dct h') (o':=.dK ps2) (by rw[eq];exact⟨ps2,g2,r2⟩)
  rw[hj1,eq] at F2
  exact F2
 ·have q:=((ht.same s1).updM hn1.1 x1 m1 (o':=.dK ps1)).updM hn2.1 y2 m2 (o':=.dK ps2)
  rw[eq] at q
  exact q
end
section
variable {T:Tab} {cf:Nat→List D→Res D} {X:Cx} {x y c:E} {p q:Expr} {pos:Pos} {a b:S}
noncomputable def tRf (T:Tab) (cf:Nat→List D→Res D) (K:PySem.W.Frag) (H₀:Hp) (O₀:Addr→Prop) (f:Nat) (x:E) (i j:Nat) (y:E):TT:=λσ H Q =>
 ∃O own e d1 g h d2 r k,Fm K H₀ O₀ H O own e σ∧i≠j∧evE T cf x e=.ok d1∧(e.at i).givD=.ok g∧(e.at j).givD=.ok h∧evE T cf y e=.ok d2∧refC cf f d1 g h d2=.ok r∧r.1.truth=.ok k ∧
  ∀H',Fm K H₀ O₀ H' O own ((e.set i ((e.at i).giv (.dct r.2.1))).set j ((e.at j).giv (.dct r.2.2))) σ→(∀t,PinOk K H O t→PinOk K H' O t)→Q k H'
theorem pt_ref {f i j:Nat} {n n1 n2:Str} {pn p1 p2:Pos} (hm0:T.mv f=some 1000) (hd:DefAny T cf X f n) (hg:Gl X n) (hdb:(n==("__debug__" : Str))=false) (hp:plainX p=true) (hq:plainX q=true)
 (h1:X.N[i]?=some n1∧Vis X.env.scope n1∧(n1==("__debug__" : Str))=false∧(n1==("__classdict__" : Str))=false) (h2:X.N[j]?=some n2∧Vis X.env.scope n2∧(n2==("__debug__" : Str))=false∧(n2==("__classdict__" : Str))=false)
 (hx:SE T cf X x p) (hy:SE T cf X y q) (H₀:Hp) (O₀:Addr→Prop) :
 PT X (.Call (.Name n pn) [p,.Name n1 p1,.Name n2 p2,q] [] pos) (tRf T cf X.K H₀ O₀ f x i j y):=by
 obtain⟨k,a,fd,ps,Fk,hr,hm,hk,hb⟩:=hd
 rw[spOf_ref hm0] at Fk
 have hA:=pa_cons (hx H₀ O₀) (pa_cons (pe_var (pos:=p1) h1.1 h1.2.1 h1.2.2.1 h1.2.2.2) (pa_cons (pe_var (pos:=p2) h2.1 h2.2.1 h2.2.2.1 h2.2.2.2) (pa_cons (hy H₀ O₀) pa_nil (plain_star hq)))) (plain_star hp)
 refine PT.imp (λσ H Q hq=>?_) (pt_truth (pe_call Fk hr hg hm hk hb .nil passE0 hA hdb (plain_star hp) (plain_any (by simp[hq];exact⟨rfl,rfl⟩))) λ_=>rfl)
 obtain⟨O,own,e,d1,g,h,d2,r,kk,F,ij,e1,e2,e3,e4,e5,e6,qk⟩:=hq
 obtain⟨pa,fa,ga,oa,na⟩:=F.giv e2
 obtain⟨pb,fb,gb,ob,nb⟩:=F.giv e3
 have ab:pa≠pb:=λz=>ij (F.inj i j pa fa (z▸fb))
 refine⟨O,own,e,d1,F,e1,λv1 H1 s1 r1 _=>⟨.ref pa,st_get ga,.ref pb,st_get gb,O,own,e,d2,F.grow s1,e4,λv4 H4 s4 r4 _=>?_⟩⟩
 have F4:=F.grow (s1.trans s4)
 refine⟨O,d1,d2,g,h,v1,v4,pa,pb,r.1,r.2.1,r.2.2,rfl,ab,⟨na.1,nb.1,F4.trk⟩,⟨r1.same s4,r4,oa.same (s1.trans s4),ob.same (s1.trans s4)⟩,refC_ok e5 pa pb ab,λv H' sx rv oa' ob'=>⟨kk,tru_D rv.rr e6,?_⟩⟩
 obtain⟨F',pin⟩:=F4.mut2 ij e2 e3 fa fb sx oa' ob'
 exact qk H' F' λt ht=>pin t (ht.same (s1.trans s4))
variable {ps qs:List Stmt} {cp:Expr}
theorem rf_go {f i j:Nat} {neg:Bool} {σ:L2.St} {H₀ H:Hp} {O₀:Addr→Prop} {D':Ends} {ts:List Pin} {e:Nv} {out:Out} {O:Addr→Prop} {own:Nat→Option Addr} (ij:i≠j) (F:Fm X.K H₀ O₀ H O own e σ) (tt:∀t∈ts,PinOk X.K H O t) (kx:Ends.to X.K H₀ O₀ ts D' out)
 (ev:(do
  let d1 ←evE T cf x e
  let g ←(e.at i).givD
  let h ←(e.at j).givD
  let d2 ←evE T cf y e
  let r ←refC cf f d1 g h d2
  let k ←r.1.truth
  let e1:=(e.set i ((e.at i).giv (.dct r.2.1))).set j ((e.at j).giv (.dct r.2.2))
  if (k != neg) then exS T cf a e1 else exS T cf b e1)=.ok out) :
 tRf T cf X.K H₀ O₀ f x i j y σ H λc H1=>if (c != neg)=true then tS T cf X.K H₀ O₀ a D' σ H1 else tS T cf X.K H₀ O₀ b D' σ H1:=by
 obtain⟨d1,e1,ev⟩:=Res.bind_ok ev
 obtain⟨g,e2,ev⟩:=Res.bind_ok ev
 obtain⟨h,e3,ev⟩:=Res.bind_ok ev
 obtain⟨d2,e4,ev⟩:=Res.bind_ok ev
 obtain⟨r,e5,ev⟩:=Res.bind_ok ev
 obtain⟨k,e6,ev⟩:=Res.bind_ok ev
 dsimp only at ev
 ·refine⟨O,own,e,d1,g,h,d2,r,k,F,ij,e1,e2,e3,e4,e5,e6,λH' F' pin=>?_⟩
  by_cases c:(k != neg)=true
  ·rw[if_pos c] at ev ⊢
   exact⟨ts,_,out,⟨O,own,F',λt ht=>pin t (tt t ht)⟩,ev,kx⟩
  ·rw[if_neg c] at ev ⊢
   exact⟨ts,_,out,⟨O,own,F',λt ht=>pin t (tt t ht)⟩,ev,kx⟩
theorem ss_ifN {f i j:Nat} {n n1 n2:Str} {pn p1 p2 pos' pos2:Pos} (hd:DefAny T cf X f n) (hg:Gl X n) (hdb:(n==("__debug__" : Str))=false) (hp:plainX p=true) (hq:plainX q=true)
 (h1:X.N[i]?=some n1∧Vis X.env.scope n1∧(n1==("__debug__" : Str))=false∧(n1==("__classdict__" : Str))=false) (h2:X.N[j]?=some n2∧Vis X.env.scope n2∧(n2==("__debug__" : Str))=false∧(n2==("__classdict__" : Str))=false)
 (hx:SE T cf X x p) (hy:SE T cf X y q) (ha:SB T cf X a ps) (hb:SB T cf X b qs) :
 SS T cf X (.ifR true c f x i j y a b) (.If (.UnaryOp .Not (.Call (.Name n pn) [p,.Name n1 p1,.Name n2 p2,q] [] pos') pos2) ps qs pos):=λH₀ O₀=>by
 by_cases hm0:T.mv f=some 1000
 rotate_left
 ·exact PS.imp (λD' σ H ⟨ts,e,out,F,ev,k⟩=>by
   rw[xS_ifR] at ev
   obtain⟨cc,_⟩:=when_ok ev
   rw[Bool.and_eq_true,decide_eq_true_eq] at cc
   exact hm0 cc.1) ps_never
 refine PS.imp (λD' σ H hq=>?_) (ps_if (pt_not (pt_ref hm0 hd hg hdb hp hq h1 h2 hx hy H₀ O₀)) (ha H₀ O₀) (hb H₀ O₀))
 obtain⟨ts,e,out,⟨O,own,F,tt⟩,ev,k⟩:=hq
 rw[xS_ifR] at ev
 obtain⟨cc,ev⟩:=when_ok ev
 rw[Bool.and_eq_true,decide_eq_true_eq,decide_eq_true_eq] at cc
 rw[if_pos rfl,Res.ok_bind,if_neg Bool.false_ne_true] at ev
 have:=rf_go (X:=X) cc.2 F tt k ev
 have z:∀c:Bool,(c != true)=!c:=λc=>by cases c<;>rfl
 simp only[z] at this
 exact this
theorem ss_ifC {f i j:Nat} {n n1 n2:Str} {pn p1 p2 pos' pos2:Pos} (hd:DefAny T cf X f n) (hg:Gl X n) (hdb:(n==("__debug__" : Str))=false) (hp:plainX p=true) (hq:plainX q=true)
 (h1:X.N[i]?=some n1∧Vis X.env.scope n1∧(n1==("__debug__" : Str))=false∧(n1==("__classdict__" : Str))=false) (h2:X.N[j]?=some n2∧Vis X.env.scope n2∧(n2==("__debug__" : Str))=false∧(n2==("__classdict__" : Str))=false)
 (hc:ST T cf X c cp) (hx:SE T cf X x p) (hy:SE T cf X y q) (ha:SB T cf X a ps) (hb:SB T cf X b qs) :
 SS T cf X (.ifR false c f x i j y a b) (.If (.BoolOp .Or [cp,.Call (.Name n pn) [p,.Name n1 p1,.Name n2 p2,q] [] pos'] pos2) ps qs pos):=λH₀ O₀=>by
 by_cases hm0:T.mv f=some 1000
 rotate_left
 ·exact PS.imp (λD' σ H ⟨ts,e,out,F,ev,k⟩=>by
   rw[xS_ifR] at ev
   obtain⟨cc,_⟩:=when_ok ev
   rw[Bool.and_eq_true,decide_eq_true_eq] at cc
   exact hm0 cc.1) ps_never
 refine PS.imp (λD' σ H hq=>?_) (ps_if (pw_or (hc H₀ O₀) (pw_or1 (pt_ref hm0 hd hg hdb hp hq h1 h2 hx hy H₀ O₀))).pt (ha H₀ O₀) (hb H₀ O₀))
 obtain⟨ts,e,out,⟨O,own,F,tt⟩,ev,k⟩:=hq
 rw[xS_ifR] at ev
 obtain⟨cc,ev⟩:=when_ok ev
 rw[Bool.and_eq_true,decide_eq_true_eq,decide_eq_true_eq] at cc
 rw[if_neg Bool.false_ne_true] at ev
 obtain⟨k0,e0,ev⟩:=Res.bind_ok ev
 obtain⟨d0,e00,e0⟩:=Res.bind_ok e0
 refine⟨O,own,e,d0,k0,F,e00,e0,λH1 s1=>?_⟩
 cases k0 with
 | true =>
  rw[if_pos rfl] at ev ⊢
  show (if true=true then _ else _)
  rw[if_pos rfl]
  exact⟨ts,e,out,⟨O,own,F.grow s1,λt ht=>(tt t ht).same s1⟩,ev,k⟩
 | false =>
  rw[if_neg Bool.false_ne_true] at ev ⊢
  have:=rf_go (X:=X) cc.2 (F.grow s1) (λt ht=>(tt t ht).same s1) k ev
  have z:∀c:Bool,(c != false)=c:=λc=>by cases c<;>rfl
  simp only[z] at this
  exact this
theorem ss_dputR {i:Nat} {n:Str} {px tpos:Pos} (hR:Roomy X) (hN:X.N[i]?=some n) (hv:Vis X.env.scope n) (hd:(n==("__debug__" : Str))=false) (hc:(n==("__classdict__" : Str))=false) (hx:notComp p=true) (hk:SE T cf X y q) (h:SE T cf X x p) :
 SS T cf X (.dputR i y x) (.Assign [.Subscript (.Name n px) q tpos] p pos):=λH₀ O₀=>by
 have hR':X.A.units+64 < cLine:=hR
 refine PS.imp (λD' σ H hq=>?_) (ps_dput (by lia) (pe_var hN hv hd hc) (hk H₀ O₀) (h H₀ O₀) (swaps_no hx))
 obtain⟨ts,e,out,⟨O,own,F,tt⟩,ev,k⟩:=hq
 rw[xS_dputR] at ev
 obtain⟨d,e1,ev⟩:=Res.bind_ok ev
 obtain⟨l,e2,ev⟩:=Res.bind_ok ev
 obtain⟨dk,e3,ev⟩:=Res.bind_ok ev
 obtain⟨key,e4,ev⟩:=Res.bind_ok ev
 obtain⟨c,ev⟩:=when_ok ev
 cases ev
 have eg:(e.at i).givD=.ok l.2:=by rw[Sl.refD_ok e2];rfl
 obtain⟨q1,f0,g1,g2,g4⟩:=F.giv eg
 refine⟨O,own,e,d,F,e1,λv H1 s1 r1 _=>?_⟩
 refine⟨.ref q1,st_get g1,O,own,e,dk,F.grow s1,e3,λvk H2 s2 r2 _=>?_⟩
 have ex:=key_val (of_ok e4) r2.rr
 subst ex
 have F2:=(F.grow s1).grow s2
 obtain⟨xs2,f2,f3⟩:=(g2.same s1).same s2
 refine⟨q1,_,rfl,DPut.k f2 (by rw[f3.length,←big_line];exact of_decide_eq_true c),?_⟩
 have Fn:=F2.mutG eg f0 (d':=.dct (putKD l.2 key d)) (o':=.dK _) ⟨_,upd_same,(rdk_put (r1.same s2) f3).updM g4.1 f2 trivial⟩
 have eq:(e.at i).giv (.dct (putKD l.2 key d))=.r l.1 (.dct (putKD l.2 key d)):=by rw[Sl.refD_ok e2];rfl
 rw[eq] at Fn
 exact k _ _ ⟨O,own,Fn,λt ht=>(((tt t ht).same s1).same s2).updM g4.1 f2 trivial⟩
theorem ss_retR {i j:Nat} (h:SE T cf X x p):SS T cf X (.retR x i j) (.Return (some p) pos):=λH₀ O₀=>by
 refine PS.imp (λD' σ H hq=>?_) (ps_ret (h H₀ O₀))
 obtain⟨ts,e,out,⟨O,own,F,tt⟩,ev,k⟩:=hq
 rw[xS_retR] at ev
 obtain⟨d,e1,ev⟩:=Res.bind_ok ev
 obtain⟨l,e2,ev⟩:=Res.bind_ok ev
 obtain⟨m,e3,ev⟩:=Res.bind_ok ev
 cases ev
 have q1:=F.sl i
 rw[Sl.refD_ok e2] at q1
 have q2:=F.sl j
 rw[Sl.refD_ok e3] at q2
 have w:∀c,(O₀ c∨c=l.1∨c=m.1)→O c:=λc hc=>by
  rcases hc with z | z | z
  ·exact F.sub c z
  ·rw[z];exact (F.new i _ q1.1).1
  ·rw[z];exact (F.new j _ q2.1).1
 exact⟨O,own,e,d,F,e1,λv H' s' r n=>k v H' (F.same.trans s') (r.weak w) ((q1.2.2.same s').weak w) ((q2.2.2.same s').weak w)⟩
theorem ss_extN {i j:Nat} {n nm m:Str} {px pm apos cpos:Pos} (hN:X.N[i]?=some n) (hv:Vis X.env.scope n) (hd:(n==("__debug__" : Str))=false) (hc:(n==("__classdict__" : Str))=false) (hnm:nm = "extend") (hline:(apos.endLine==cpos.line)=true)
 (h2:X.N[j]?=some m∧Vis X.env.scope m∧(m==("__debug__" : Str))=false∧(m==("__classdict__" : Str))=false) :
 SS T cf X (.extN i j) (.Expr (.Call (.Attribute (.Name n px) nm apos) [.Name m pm] [] cpos) pos):=λH₀ O₀=>by
 subst hnm
 refine PS.imp (λD' σ H hq=>?_) (ps_expr (pe_bm PySem.F.plainAttrs_list PySem.F.slot_list_extend PySem.F.type_list_extend mt_extend (pe_var hN hv hd hc) (pa_cons (pe_var (pos:=pm) h2.1 h2.2.1 h2.2.2.1 h2.2.2.2) pa_nil) rfl rfl hline rfl rfl) rfl)
 obtain⟨ts,e,out,⟨O,own,F,tt⟩,ev,k⟩:=hq
 rw[xS_extN] at ev
 split at ev
 ·rename_i b hj
  obtain⟨l,e2,ev⟩:=Res.bind_ok ev
  obtain⟨c,ev⟩:=when_ok ev
  cases ev
  obtain⟨q0,xs0,f1,f2,f3,f4,f5⟩:=F.mut i (Sl.own_ok e2)
  have q:=F.sl j
  rw[hj] at q
  obtain⟨v,g1,g2⟩:=q
  rcases g2 with ⟨z,_⟩ | ⟨ds,p,zs,w1,w2,rfl,w4,w5,w6⟩
  ·cases z
  ·cases w1
   refine⟨.ref q0,st_get f1,.inl ⟨rfl,xs0,.of f2⟩,.ref p,st_get g1,?_⟩
   refine⟨q0,p,xs0,zs,rfl,rfl,f2,w4,by rw[f3.length,w6.length,←big_line];exact of_decide_eq_true c,?_⟩
   exact k _ _ ⟨O,own,f5 _ _ (f3.append w6),λt ht=>(tt t ht).upd f4 f2⟩
 ·cases ev
end
theorem stored_len {xs:List (Key×Value)} {k:Key} {u:Value}:(stored xs k u).length≤xs.length+1:=by
 unfold stored
 split
 ·rw[List.length_map];exact Nat.le_succ _
 ·rw[List.length_append];exact Nat.le_refl _
noncomputable def PairK (h:Heap) (x:Addr) (q:Key×Value×Value):Prop :=
 (∃o n,h.get? x=some o∧o.cls=.type "tuple" ∧ o.data=.seq #[q.2.1,q.2.2] n)∧keyIs q.1 q.2.1=true
theorem PairK.keeps {h h':Heap} {x:Addr} {q:Key×Value×Value} (p:PairK h x q) (k0:∀o,h.get? x=some o→h'.get? x=some o):PairK h' x q:=by
 obtain⟨⟨o,n,e1,e2,e3⟩,e4⟩:=p
 exact⟨⟨o,n,k0 _ e1,e2,e3⟩,e4⟩
section
variable {prog:Program} {w:World}
theorem dictK_keeps {h h':Heap} {d:Addr} {xs:List (Key×Value)} (hd:h.DictOf (mixKind prog w) d xs) (k0:∀o,h.get? d=some o→h'.get? d=some o):h'.DictOf (mixKind prog w) d xs:=by
 obtain⟨o,es,ep,ho,r⟩:=hd
 exact⟨o,es,ep,k0 o ho,r⟩
variable {A:Around} {R:Result→Shared→Prop} {I:Addr} {fp wr:List Addr} {G:Array GenState→Array GenState→Prop} {n:Nat} {P:Nat→Value→Prop} {St:Nat→Shared→Prop}
theorem dict_loopK (W:WalksS prog w A.in1 I fp wr G n P St) (d:Addr) (hdf:d∉fp) (val:Nat→Key×Value×Value) (hu:A.in1.units < cLine) :
 ∀(k i:Nat) (s:Shared) (xs:List (Key×Value)),n - i=k→i≤n→St i s→xs.length+k≤sizeLine →
  (∀i v,i < n→P i v→∃x,v=.ref x∧(x≠d∧x∉wr)∧PairK s.heap x (val i)) →
  s.heap.DictOf (mixKind prog w) d xs →
  (∀s',Moved (d::wr) G s s'→s'.heap.DictOf (mixKind prog w) d ((List.range' i k).foldl (λxs j=>stored xs (val j).1 (val j).2.2) xs)→R (.ok (.ret .none)) s') →
  codeAny (model prog w) A (.builtin "dict.update.loop" ⟨[.ref d,.ref I,rawInt (i:Nat),.none],[]⟩) R s:=by
 have hdw:d∉wr:=λh=>hdf (W.sub _ h)
 have hsub:∀b∈wr,b∈d::wr:=λb hb=>List.mem_cons_of_mem _ hb
 intro k
 induction k with
 | zero =>
  intro i s xs hk hi hst hz hT hD hR
  have hin:i=n:=by lia
  subst hin
  refine codeAny_builtin entry_dul ?_
  rw[Around.under_plainId plain_dul _]
  show wpAny _ A.in1 (pyNext (.ref I)>>=_) _ _ s
  refine wpAny_bind (W.done s _ _ hst λs' hm=>?_)
  show wpAny _ A.in1 (Builtin.Dict.addKeywords d []>>=_) _ _ s'
  exact wpAny_bind (wpAny_pure (wpAny_pure (hR s' (hm.mono hsub) (dictK_keeps hD λo e=>hm.heap d o hdw e))))
 | succ k ih =>
  intro i s xs hk hi hst hz hT hD hR
  have hlt:i < n:=by lia
  refine codeAny_builtin entry_dul ?_
  rw[Around.under_plainId plain_dul _]
  show wpAny _ A.in1 (pyNext (.ref I)>>=_) _ _ s
  refine wpAny_bind (W.item i s _ _ hlt hst λv s' hP hst' hm=>?_)
  have hT':∀i v,i < n→P i v→∃x,v=.ref x∧(x≠d∧x∉wr)∧PairK s'.heap x (val i):=λi v hi hv=>by
   obtain⟨x,e1,e2,e4⟩:=hT i v hi hv
   exact⟨x,e1,e2,e4.keeps λo e=>hm.heap x o e2.2 e⟩
  obtain⟨x,rfl,hxd,⟨ox,nx,ex,cx,dx⟩,hkx⟩:=hT' i v hlt hP
  have hD':s'.heap.DictOf (mixKind prog w) d xs:=dictK_keeps hD λo e=>hm.heap d o hdw e
  show wpAny _ A.in1 (holding [.ref x] _>>=_) _ _ s'
  have tx:s'.TypeIs (.ref x) "tuple" := ⟨ox,ex,cx⟩
  refine wpAny_bind (wpAny_holding ?_)
  refine wpAny_bind (wpAny_tryCatch ?_)
  unfold Builtin.Dict.pairItems
  refine wpAny_bind (wpAny_typeOf tx ?_)
  rw[if_pos (by decide)]
  refine wpAny_bind (wpAny_seqItems ex dx (wpAny_pure ?_))
  show wpAny _ A.in1 (holding [(val i).2.1,(val i).2.2] (dictSet d (val i).2.1 (val i).2.2)) _ _ s'
  refine wpAny_holding ?_
  refine wpAny_dictSet_pairs (knd:=mixKind prog w) (hsz:=by lia) hkx hD' λh' hD2 hsb=>?_
  show wpAny _ A.in1 (again (.builtin "dict.update.loop" ⟨[.ref d,.ref I,rawInt ((i:Int)+1),.none],[]⟩)) _ _ _
  refine wpAny_pure ⟨plainId_quiet plain_dul _,?_⟩
  have hsame:∀b o,b≠d→s'.heap.get? b=some o→h'.get? b=some o:=λb o hb e=>(hsb.2 b hb).trans e
  refine ih (i+1) _ (stored xs (val i).1 (val i).2.2) (by lia) hlt (W.frame _ s' _ _ hst' (Nat.le_add_right _ _) λb hb o e=>?_) (by have:=stored_len (xs:=xs) (k:=(val i).1) (u:=(val i).2.2);lia) (λi v hi hv=>?_) hD2 λs'' hm'' hD''=>?_
  ·exact hsame b o (λh:b=d=>hdf (by rw[←h];exact hb)) e
  ·obtain⟨x,e1,e2,e4⟩:=hT' i v hi hv
   exact⟨x,e1,e2,e4.keeps λo e=>hsame x o e2.1 e⟩
  ·refine hR s'' (Moved.trans W.gtrans ((hm.mono hsub).then_heap (Nat.le_add_right _ _) λb o hb e=>?_) hm'') ?_
   ·exact hsame b o (λh:b=d=>hb (by rw[h];exact List.mem_cons_self)) e
   ·rw[List.range'_succ,List.foldl_cons];exact hD''
end
section
variable {prog:Program} {w:World} {A:Around} {E:Value→Shared→Prop} {s:Shared}
theorem call_dict_pairsK {l:Addr} {its:Array Value} {nl:Nat} {val:Nat→Key×Value×Value} {Q:Value→Shared→Prop} (hh:A.handled=none) (hu:A.units+8 < cLine)
 {ol:Obj} (hl:s.heap.get? l=some ol) (hlc:ol.cls=.type "list") (hld:ol.dict=none) (hls:ol.data=.seq its nl) (hz:its.size≤sizeLine) (hval:∀i v,its[i]?=some v→∃x,v=.ref x∧PairK s.heap x (val i))
 (h:∀(h':Heap) (tk:Nat),h'.DictOf (mixKind prog w) s.heap.objs.size ((List.range' 0 its.size).foldl (λxs j=>stored xs (val j).1 (val j).2.2) []) →
  (∀b o,b < s.heap.objs.size→s.heap.get? b=some o→h'.get? b=some o)→Q (.ref s.heap.objs.size) { s with heap:=h',toks:=tk }) :
 wpAny (model prog w) A (call (.type "dict") [.ref l]) Q E s:=by
 refine callType_codes (Q₁:=λobj s₁=>obj=.ref s.heap.objs.size∧s₁={ s with heap:=s.heap.push { cls:=.type "dict", data:=.dict #[] } }) F.kt_called_dict (F.kt_typeCall_dict_1 _) F.entry_dict_init (kt_code_dict_new _ ⟨rfl,rfl⟩) ?_
 rintro obj s₁ ⟨rfl,rfl⟩
 have hnew:(s.heap.push { cls:=.type "dict", data:=.dict #[] }).DictOf (mixKind prog w) s.heap.objs.size []:=Heap.DictOf.new s.heap
 have hty:({ s with heap:=s.heap.push { cls:=.type "dict", data:=.dict #[] } }:Shared).TypeIs (.ref s.heap.objs.size) "dict" := Heap.DictOf.typeIs hnew
 refine⟨hty,F.args_dict_init_2 _ _,?_⟩
 generalize hpu:s.heap.push { cls:=.type "dict", data:=.dict #[] }=hp1 at *
 have hz1:hp1.objs.size=s.heap.objs.size+1:=by rw[←hpu];exact Heap.size_push ..
 have hold:∀b o,s.heap.get? b=some o→hp1.get? b=some o:=λb o e=>by rw[←hpu];exact Heap.get?_push_of_some _ e
 have hlS:l < s.heap.objs.size:=Heap.lt_size hl
 have hl1:=hold _ _ hl
 unfold Builtin.«dict.__init__»
 refine wpAny_bind ?_
 unfold Builtin.Dict.selfAndRest
 refine wpAny_bind (wpAny_notOrdered_dict hty ?_)
 show wpAny _ _ (pure (s.heap.objs.size,[Value.ref l])) _ _ _
 refine wpAny_pure ?_
 show wpAny _ _ (Builtin.Dict.updateFrom "dict.__init__" s.heap.objs.size (.ref l) [] .none) _ _ _
 unfold Builtin.Dict.updateFrom
 refine wpAny_bind (wpAny_typeOf (T := "list") ⟨_,hl1,hlc⟩ ?_)
 rw[if_pos (by decide)]
 have hh2:A.in1.in1.handled=none:=by simp[hh]
 refine wpAny_bind (keys_miss hl1 hlc hls hld hh2 λh2 tk2 e2 hx2=>?_)
 rw[if_pos (by rfl)]
 have hl2:h2.IsList l its:=⟨_,hx2.keeps _ _ hl1,hlc,nl,hls⟩
 have hD2:h2.DictOf (mixKind prog w) s.heap.objs.size []:=dictK_keeps hnew λo e=>hx2.keeps _ _ e
 have hdz:s.heap.objs.size < h2.objs.size:=by
  obtain⟨o,_,_,ho,_⟩:=hD2
  exact Heap.lt_size ho
 refine wpAny_bind (wpAny_rule ?_)
 refine wpAny_bind (wpAny_pyIter_list hl2 ?_)
 refine wpAny_pure ⟨plainId_quiet plain_dul _,?_⟩
 have hh3:A.in1.in1.handled=none:=by simp[hh]
 have hu3:A.in1.in1.units < cLine:=by show A.units+1+1 < cLine;lia
 have hneI:l≠h2.objs.size:=Nat.ne_of_lt (Nat.lt_trans hlS hdz)
 refine dict_loopK ((Walks.list hh3 _ l hneI its).toS) s.heap.objs.size (by simp only[List.mem_cons,List.mem_singleton,List.not_mem_nil,or_false,not_or];exact⟨Nat.ne_of_lt hdz,Nat.ne_of_gt hlS⟩) val hu3 its.size 0 _ [] (by lia) (Nat.zero_le _) ⟨⟨_,Heap.get?_push_size _ rfl,rfl,rfl⟩,(hl2.push _)⟩ (by simpa using hz) (λi v _ hv=>?_) (dictK_keeps hD2 λo e=>Heap.get?_push_of_some _ e) λs' hm hD'=>?_
 ·obtain⟨x,rfl,px⟩:=hval i v hv
  have hlx:x < s.heap.objs.size:=let ⟨⟨_,_,e,_⟩,_⟩:=px;Heap.lt_size e
  refine⟨x,rfl,⟨Nat.ne_of_lt hlx,?_⟩,px.keeps λo e=>Heap.get?_push_of_some _ (hx2.keeps _ _ (hold _ _ e))⟩
  simp only[List.mem_cons,List.mem_singleton,List.not_mem_nil,or_false,not_or];exact Nat.ne_of_lt (Nat.lt_trans hlx hdz)
 ·obtain⟨h',g',d',tk',os'⟩:=s'
  have eg:g'=s.gens:=hm.gens
  have ed:d'=s.drawn:=hm.drawn
  have eo:os'=s.os:=hm.os
  subst eg;subst ed;subst eo
  refine⟨rfl,h h' tk' hD' λb o hb e=>?_⟩
  exact hm.heap b o (by simp only[List.mem_cons,List.mem_singleton,List.not_mem_nil,or_false,not_or];exact⟨Nat.ne_of_lt hb,Nat.ne_of_lt (Nat.lt_trans hb hdz)⟩) (Heap.get?_push_of_some _ (hx2.keeps _ _ (hold _ _ e)))
end
noncomputable def PrsK (K:PySem.W.Frag) (H:Hp):List Addr→List (Key×V)→Prop
 | [],qs=>qs=[]
 | a::r,qs=>∃k y q,qs=(k,y)::q∧SqT K H a [kV k,y]∧PrsK K H r q
noncomputable def putAllV (qs:List (Key×V)) (kvs:List (Key×V)):List (Key×V):=qs.foldl (λm q=>putK m q.1 q.2) kvs
theorem putV_len {kvs:List (Key×V)} {k:Key} {v:V}:(putK kvs k v).length≤kvs.length+1:=by
 unfold putK
 split
 ·rw[List.length_map];exact Nat.le_succ _
 ·rw[List.length_append];exact Nat.le_refl _
theorem putAllV_len:∀ {qs:List (Key×V)} {kvs:List (Key×V)},(putAllV qs kvs).length≤kvs.length+qs.length
 | [],kvs=>Nat.le_refl _
 | q::r,kvs=>by
  have h1:=putAllV_len (qs:=r) (kvs:=putK kvs q.1 q.2)
  have h2:=putV_len (kvs:=kvs) (k:=q.1) (v:=q.2)
  rw[List.length_cons]
  exact Nat.le_trans h1 (by lia)
theorem kV_is {k:Key} {u:Value} (h:RelV (kV k) u):keyIs k u=true:=by
 cases k with
 | inl i=>obtain⟨t,rfl⟩:=h;exact keyIs_int i t
 | inr x=>obtain⟨t,rfl⟩:=h;exact keyIs_str x t
theorem prs_valsK {X:Cx} {pins:List (Addr×Obj)} {σ:L2.St} {H:Hp} {s:Shared} (I:Inv X pins σ H s):∀ {as:List Addr} {qs:List (Key×V)},PrsK X.K H as qs →
 ∃vs:List (Key×Value×Value),vs.length=as.length∧qs.length=as.length∧(∀(i:Nat) (a:Addr),as[i]?=some a→∃q,vs[i]?=some q∧PairK s.heap a q) ∧
  ∀ {kvs:List (Key×V)} {xs:List (Key×Value)},KV kvs xs→KV (putAllV qs kvs) (vs.foldl (λxs q=>stored xs q.1 q.2.2) xs)
 | [],qs,h=>by
  cases h
  exact⟨[],rfl,rfl,λi a e=>by simp at e,λr=>r⟩
 | a::r,qs,h=>by
  obtain⟨k,y,q,rfl,ht,hr⟩:=h
  obtain⟨vs,l1,l2,h1,h2⟩:=prs_valsK I hr
  obtain⟨its,rv,⟨o,e,hc,n,d⟩,_⟩:=I.tuple ht
  cases rv with
  | @cons _ u0 _ _ r1 rv =>
   cases rv with
   | @cons _ u _ _ r2 rv =>
    cases rv
    refine⟨(k,u0,u)::vs,by rw[List.length_cons,List.length_cons,l1],by rw[List.length_cons,List.length_cons,l2],λi a' e'=>?_,λrk=>?_⟩
    ·cases i with
     | zero =>
      cases e'
      exact⟨_,rfl,⟨o,n,e,hc,d⟩,kV_is r1⟩
     | succ i=>exact h1 i a' e'
    ·exact h2 (rk.put k r2)
theorem call_dictK {X:Cx} (hc:X.calm=true) (hr:X.A.units+64 < cLine):CallR X (.type "dict") (λvs H Q=>∃a as qs,vs=[.ref a]∧SqL X.K H a (as.map V.ref)∧PrsK X.K H as qs∧∀p o,H p=none→Q (.ref p) (upd H p (.frz o (.dK (putAllV qs []))))):=by
 intro pins s σ H vs us Q I rv h
 obtain⟨a,as,qs,rfl,hS,hP,q⟩:=h
 obtain⟨u,rfl,ru⟩:=rv.one
 cases ru
 obtain⟨its,r,⟨ol,nl,e1,e2,e3,e4⟩,hz⟩:=I.list hS
 have hits:=vals_refs r
 subst hits
 obtain⟨xs,l1,l2,h1,h2⟩:=prs_valsK I hP
 rw[List.length_map] at hz
 refine call_dict_pairsK (val:=λi=>xs.getD i (.inl 0,.none,.none)) (I.ok.hd hc) (by lia) e1 e2 e3 e4 (by rw[List.size_toArray,List.length_map];exact hz) (λi v hv=>?_) λh' tk hD hkeep=>?_
 ·have hv':(as.map Value.ref)[i]?=some v:=by simpa using hv
  rw[List.getElem?_map] at hv'
  cases e:as[i]? with
  | none=>rw[e] at hv';cases hv'
  | some x =>
   rw[e] at hv'
   cases hv'
   obtain⟨q,g1,g2⟩:=h1 i x e
   exact⟨x,rfl,by show PairK _ _ (xs.getD i (.inl 0,.none,.none));rw[List.getD_eq_getElem?_getD,g1];exact g2⟩
 ·have fr:H s.heap.objs.size=none:=I.hok.fresh (Nat.le_refl _)
  rw[show (List.map Value.ref as).toArray.size=xs.length from by rw[List.size_toArray,List.length_map,l1],foldl_getD (λxs q=>stored xs q.1 q.2.2) (.inl 0,.none,.none) xs []] at hD
  have I1:Inv X pins σ (upd H s.heap.objs.size (.dK (putAllV qs []))) { s with heap:=h',toks:=tk } :=
   I.laid (λb o e=>hkeep b o (Heap.lt_size e) e) (Nat.le_refl _) ⟨Nat.le_trans putAllV_len (by rw[l2,List.length_nil,Nat.zero_add];exact hz),beq_eq_false_iff_ne.mpr (Ne.symm (Nat.ne_of_lt I.big)),_,h2 .nil,hD⟩
  obtain⟨o,_,_,_,I2⟩:=freeze I1 upd_same
  rw[show L2.upd (L2.upd H s.heap.objs.size (.dK (putAllV qs []))) s.heap.objs.size (.frz o (.dK (putAllV qs [])))=L2.upd H s.heap.objs.size (.frz o (.dK (putAllV qs []))) from upd_upd] at I2
  exact⟨.ref s.heap.objs.size,_,I2,rfl,q _ o fr⟩
section
variable {T:Tab} {cf:Nat→List D→Res D} {X:Cx} {x:E} {p:Expr} {pos:Pos}
theorem prs_rdK {K:PySem.W.Frag} {H:Hp} {O:Addr→Prop}:∀ {ds:List D} {qs:List (Sum Int Str×D)} {xs:List V},pairsK ds=.ok qs→RDs K H O ds xs→∃(as:List Addr) (ys:List (Key×V)),xs=as.map V.ref∧PrsK K H as ys∧RDk K H O qs ys
 | [],qs,xs,h,w=>by
  rw[pairsK] at h;cases h
  rw[RDs] at w;subst w
  exact⟨[],[],rfl,rfl,rfl⟩
 | d::r,qs,xs,h,w=>by
  unfold pairsK at h
  split at h
  ·rename_i e;cases e
  ·rename_i kd v r' e
   cases e
   obtain⟨key,e3,h⟩:=Res.bind_ok h
   obtain⟨q,e4,h⟩:=Res.bind_ok h
   cases h
   obtain⟨u,us,rfl,w1,w2⟩:=w
   obtain⟨as,ys,rfl,p1,p2⟩:=prs_rdK e4 w2
   obtain⟨a,zs,rfl,tq,z1,zr,rfl,rk,z2,zs2,rfl,rv,e5⟩:=w1
   cases (show zs2=[] from e5)
   have ek:=key_val (of_ok e3) (RD.rr rk)
   subst ek
   exact⟨a::as,(key,z2)::ys,rfl,⟨key,z2,ys,rfl,TupV.sq tq,p1⟩,z2,ys,rfl,rv,p2⟩
  ·cases h
theorem rdk_putAll {K:PySem.W.Frag} {H:Hp} {O:Addr→Prop}:∀ {qs:List (Sum Int Str×D)} {ys:List (Key×V)} {ds:List (Sum Int Str×D)} {ps:List (Key×V)},RDk K H O qs ys→RDk K H O ds ps→RDk K H O (putAllK qs ds) (putAllV ys ps)
 | [],ys,ds,ps,h,w=>by rw[RDk] at h;subst h;exact w
 | (k,d)::qs,ys,ds,ps,h,w=>by
  obtain⟨v,r,rfl,h1,h2⟩:=h
  show RDk K H O (putAllK qs (putKD ds k d)) (putAllV r (putK ps k v))
  exact rdk_putAll h2 (rdk_put h1 w)
theorem se_dck {pn:Pos} (hh:X.calm=true) (hR:Roomy X) (hm1:X.mg "dict" = none) (hg1:Gl X "dict") (hp:plainX p=true) (ha:SE T cf X x p):SE T cf X (.dck x) (.Call (.Name "dict" pn) [p] [] pos):=λH₀ O₀=>by
 refine PE.imp (λσ H Q hq=>?_) (pe_callTy (call_dictK hh hR) hg1 hm1 (by decide +kernel) (pa_cons (ha H₀ O₀) pa_nil (plain_star hp)) (by decide) (by decide) (plain_star hp) rfl)
 obtain⟨O,own,e,d,F,ev,k⟩:=hq
 (first | rw[xE_dck] at ev | rw[xE_lst] at ev)
 obtain⟨d1,e1,ev1⟩:=Res.bind_ok ev
 refine⟨O,own,e,d1,F,e1,λv1 H1 s1 r1 _=>?_⟩
 cases d1 with
 | lst ds =>
  obtain⟨qs,e2,ev2⟩:=Res.bind_ok (show (pairsK ds>>=_)=Res.ok d from ev1)
  cases ev2
  obtain⟨a,xs,rfl,q1,w1⟩:=(RD.rr r1).lst
  obtain⟨as,ys,rfl,p1,p2⟩:=prs_rdK e2 w1
  refine⟨a,as,ys,rfl,q1,p1,λp o hn=>?_⟩
  have s2:=same_upd hn (.frz o (.dK (putAllV ys [])))
  exact k _ _ (s1.trans s2) ⟨p,_,rfl,⟨o,upd_same⟩,(rdk_putAll (ds:=[]) (ps:=[]) p2 rfl).same s2⟩ (λz=>by cases z)
 | _=>cases ev1
end
set_option genInjectivity false in
structure Txt where
 gn:List Str
 dn:List Str
 tf:List (Str×List Nat):=[]
 ts:List (Str×List Str):=[]
 cls:List Str:=[]
 icl:List Str:=[]
 dm:List (Nat×Str):=[]
noncomputable def nodupB {α:Type} [BEq α]:List α→Bool
 | []=>true
 | a::r=>!r.contains a&&nodupB r
theorem nodup_of {α:Type} [BEq α] [LawfulBEq α]:∀ {l:List α},nodupB l=true→l.Nodup
 | [],_=>List.nodup_nil
 | a::r,h=>by
  rw[nodupB,Bool.and_eq_true] at h
  refine List.nodup_cons.mpr ⟨λm=>?_,nodup_of h.2⟩
  have:r.contains a=true:=List.contains_iff_mem.mpr m
  rw[this] at h
  exact absurd h.1 (by simp)
noncomputable def isRd:E→Bool
 | .rd _=>true
 | _=>false
noncomputable def visB (sc:Scope) (n:Str):Bool:=(sc.names.lookup n==some .local)||(sc.names.lookup n==some .cell)||(sc.names.lookup n==some .free)
noncomputable def glB (sc:Scope) (n:Str):Bool:=sc.names.lookup n==some .globalImplicit
noncomputable def dbgB (n:Str):Bool:=!(n==("__debug__" : Str))&&!(n==("__classdict__" : Str))
noncomputable def nameB (N:List Str) (sc:Scope) (i:Nat) (n:Str):Bool:=(N[i]?==some n)&&visB sc n&&dbgB n
noncomputable def relS (scope sc:Scope):Scope:={ scope with names:=scope.names.map λ(n,k)=>if (k==.free&&sc.kind==.function&&sc.names.lookup n==some .cell) then (n,.cell) else (n,k) }
noncomputable def tgNames:Expr→List Str
 | .Name n _=>[n]
 | .Tuple es _ _=>es.filterMap λ| .Name n _=>some n | _=>none
 | _=>[]
noncomputable def mGs (loc:Bool) (N:List Str) (sc:Scope):List Nat→List Expr→Bool
 | [],[]=>true
 | i::is,.Name n _::es=>(N[i]?==some n)&&((sc.names.lookup n==some .local)||(!loc&&sc.names.lookup n==some .cell))&&mGs loc N sc is es
 | _,_=>false
noncomputable def mG (loc:Bool) (N:List Str) (sc:Scope):G→Expr→Bool
 | .one i,.Name n _=>(N[i]?==some n)&&((sc.names.lookup n==some .local)||(!loc&&sc.names.lookup n==some .cell))
 | .many is,.Tuple es _ _=>mGs loc N sc is es
 | _,_=>false
noncomputable def scB (sc scope:Scope):Bool:=(scope.kind==.function)&&scope.names.all (λx=>!(x.2==.cell))&&scope.names.all (λx=>!(x.2==.local)||(scope.names.lookup x.1==some .local)) &&
 scope.names.all (λx=>!(x.2==.free)||(!(scope.names.lookup x.1==some .local)&&((sc.names.lookup x.1==some .cell)||(sc.names.lookup x.1==some .free))))
noncomputable def capNames (N:List Str) (caps:List Nat):List Str:=caps.map λi=>(N[i]?).getD ""
noncomputable def capB (N:List Str) (scope:Scope) (caps:List Nat):Bool:=caps.all λi=>match N[i]? with | some n=>scope.names.contains (n,.free) | none=>false
noncomputable def isTrueC:E→Bool
 | .con (.bl true)=>true
 | _=>false
noncomputable def isOmit:E→Bool
 | .omit=>true
 | _=>false
noncomputable def isTupX:Expr→Bool
 | .Tuple _ _ _=>true
 | _=>false
noncomputable def vC (G:Str→List Expr→Bool):Expr→Bool
 | .Call (.Name n _) es [] _=>G n es
 | _=>false
noncomputable def v1 (G:Expr→Bool):List Expr→Bool
 | [q]=>G q
 | _=>false
noncomputable def vL (G:List Expr→Bool):List Expr→Bool
 | []=>false
 | e::es=>G (e::es)
theorem vC_of {G:Str→List Expr→Bool} {p:Expr} (h:vC G p=true):∃n pn es pos,p=.Call (.Name n pn) es [] pos∧G n es=true:=by
 cases p with
 | Call fn es ks pos =>
  cases fn with
  | Name n pn=>cases ks with
   | nil=>exact⟨n,pn,es,pos,rfl,h⟩
   | cons _ _=>exact absurd h Bool.false_ne_true
  | _=>exact absurd h Bool.false_ne_true
 | _=>exact absurd h Bool.false_ne_true
theorem v1_of {G:Expr→Bool} {l:List Expr} (h:v1 G l=true):∃q,l=[q]∧G q=true:=by
 rcases l with _ | ⟨q,_ | ⟨q',es⟩⟩
 ·exact absurd h Bool.false_ne_true
 ·exact⟨q,rfl,h⟩
 ·exact absurd h Bool.false_ne_true
theorem vL_of {G:List Expr→Bool} {l:List Expr} (h:vL G l=true):∃e es,l=e::es∧G (e::es)=true:=by
 cases l with
 | nil=>exact absurd h Bool.false_ne_true
 | cons e es=>exact⟨e,es,rfl,h⟩
noncomputable def vP (G:Expr→Expr→Bool):List Expr→Bool
 | [q,r]=>G q r
 | _=>false
theorem vP_of {G:Expr→Expr→Bool} {l:List Expr} (h:vP G l=true):∃q r,l=[q,r]∧G q r=true:=by
 rcases l with _ | ⟨q,_ | ⟨r,_ | ⟨q',es⟩⟩⟩
 ·exact absurd h Bool.false_ne_true
 ·exact absurd h Bool.false_ne_true
 ·exact⟨q,r,rfl,h⟩
 ·exact absurd h Bool.false_ne_true
noncomputable def v2 (G:Str→Str→Expr→Bool):Expr→Bool:=vC λn=>v1 (vC λm=>v1 (G n m))
noncomputable def vM (G:Str→Str→Pos→Pos→List Expr→Bool):Stmt→Bool
 | .Expr (.Call (.Attribute (.Name n _) nm apos) es [] cpos) _=>G n nm apos cpos es
 | _=>false
theorem vM_of {G:Str→Str→Pos→Pos→List Expr→Bool} {p:Stmt} (h:vM G p=true):∃n px nm apos es cpos pos,p=.Expr (.Call (.Attribute (.Name n px) nm apos) es [] cpos) pos∧G n nm apos cpos es=true:=by
 cases p with
 | Expr v pos=>cases v with
  | Call f es ks cpos=>cases f with
   | Attribute o nm apos=>cases o with
    | Name n px=>cases ks with
     | nil=>exact⟨n,px,nm,apos,es,cpos,pos,rfl,h⟩
     | cons _ _=>exact absurd h Bool.false_ne_true
    | _=>exact absurd h Bool.false_ne_true
   | _=>exact absurd h Bool.false_ne_true
  | _=>exact absurd h Bool.false_ne_true
 | _=>exact absurd h Bool.false_ne_true
noncomputable def vA (G:Expr→Expr→Bool):Stmt→Bool
 | .Assign tgs v _=>v1 (λtg=>G tg v) tgs
 | _=>false
theorem vA_of {G:Expr→Expr→Bool} {p:Stmt} (h:vA G p=true):∃tg v pos,p=.Assign [tg] v pos∧G tg v=true:=by
 cases p with
 | Assign tgs v pos =>
  obtain⟨tg,rfl,h⟩:=v1_of h
  exact⟨tg,v,pos,rfl,h⟩
 | _=>exact absurd h Bool.false_ne_true
noncomputable def vX (G:Str→Expr→Bool):Expr→Bool
 | .Subscript (.Name n _) q _=>G n q
 | _=>false
theorem vX_of {G:Str→Expr→Bool} {p:Expr} (h:vX G p=true):∃n px q pos,p=.Subscript (.Name n px) q pos∧G n q=true:=by
 cases p with
 | Subscript o q pos=>cases o with
  | Name n px=>exact⟨n,px,q,pos,rfl,h⟩
  | _=>exact absurd h Bool.false_ne_true
 | _=>exact absurd h Bool.false_ne_true
noncomputable def vN (G:Str→Pos→Bool):Expr→Bool
 | .Name n pn=>G n pn
 | _=>false
theorem vN_of {G:Str→Pos→Bool} {p:Expr} (h:vN G p=true):∃n pn,p=.Name n pn∧G n pn=true:=by
 cases p with
 | Name n pn=>exact⟨n,pn,rfl,h⟩
 | _=>exact absurd h Bool.false_ne_true
noncomputable def vD:Expr→Bool
 | .Dict [] [] _=>true
 | _=>false
theorem vD_of {p:Expr} (h:vD p=true):∃pos,p=.Dict [] [] pos:=by
 cases p with
 | Dict ks vs pos=>cases ks with
  | nil=>cases vs with
   | nil=>exact⟨pos,rfl⟩
   | cons _ _=>exact absurd h Bool.false_ne_true
  | cons _ _=>exact absurd h Bool.false_ne_true
 | _=>exact absurd h Bool.false_ne_true
section
variable (Tx:Txt)
mutual
noncomputable def mE:E→List Str→Scope→Expr→Bool
 | .var i,N,sc,.Name n _=>nameB N sc i n
 | .rd i,N,sc,.Name n _=>nameB N sc i n
 | .con d,_,_,.Constant c _ _=>cstIs d c
 | .glob g,_,sc,.Name n _=>(Tx.gn[g]?==some n)&&glB sc n&&dbgB n
 | .bin o a b,N,sc,.BinOp l o' r _=>(o==o')&&mE a N sc l&&mE b N sc r
 | .cmp o a b,N,sc,.Compare l [o'] [r] _=>(o==o')&&mE a N sc l&&mE b N sc r
 | .neg a,N,sc,.UnaryOp .USub l _=>mE a N sc l
 | .and a b,N,sc,.BoolOp .And [l,r] _=>!isRd a&&!isRd b&&mE a N sc l&&mE b N sc r
 | .and a b,N,sc,.BoolOp .And (l::r::r'::rest) pos=>!isRd a&&!isRd b&&mE a N sc l&&mE b N sc (.BoolOp .And (r::r'::rest) pos)
 | .not a,N,sc,.UnaryOp .Not l _=>mE a N sc l
 | .ife c a b,N,sc,.IfExp l m r _=>!isRd a&&!isRd b&&mE c N sc l&&mE a N sc m&&mE b N sc r
 | .ix a b,N,sc,.Subscript l r _=>mE a N sc l&&mE b N sc r
 | .sl a lo hi,N,sc,.Subscript l (.Slice p q none _) _=>mE a N sc l&&(match p with | none=>isOmit lo | some p'=>!isRd lo&&mE lo N sc p')&&(match q with | none=>isOmit hi | some q'=>!isRd hi&&mE hi N sc q')
 | .tup a,N,sc,.Tuple es _ _=>mA a false N sc es
 | .lst a,N,sc,.List es _=>mA a false N sc es
 | .call f a,N,sc,p=>vC (λn es=>(Tx.dn[f]?==some n)&&glB sc n&&dbgB n&&mA a false N sc es) p
 | .srt a,N,sc,p=>vC (λn=>v1 λq=>(n == "sorted")&&glB sc n&&mE a N sc q) p
 | .dck a,N,sc,p=>vC (λn=>v1 λq=>(n == "dict")&&glB sc n&&!isRd a&&mE a N sc q) p
 | .bt b a,N,sc,p=>vC (λn=>vL λes=>b.use&&(n==b.nm)&&glB sc n&&mA a true N sc es) p
 | .comp own caps g elt src cond,N,sc,.ListComp pe [⟨tg,iter,ifs,isa⟩] scope _ =>
  (isa==0)&&scB sc scope&&capB N scope caps&&nodupB caps&&nodupB (tgNames tg++capNames N caps)&&(own==(tgNames tg).length)&&g.below own&&mG true (tgNames tg++capNames N caps) (relS scope sc) g tg &&
  mI src true N sc tg iter&&!isRd elt&&mE elt (tgNames tg++capNames N caps) (relS scope sc) pe &&
  (match ifs with
   | []=>isTrueC cond
   | [c]=>mE cond (tgNames tg++capNames N caps) (relS scope sc) c
   | _=>false)
 | _,_,_,_=>false
termination_by structural x=>x
noncomputable def mA:E→Bool→List Str→Scope→List Expr→Bool
 | .anil,_,_,_,[]=>true
 | .acons a r,rd,N,sc,p::ps=>(rd||!isRd a)&&mE a N sc p&&mA r rd N sc ps
 | _,_,_,_,_=>false
termination_by structural x=>x
noncomputable def mI:E→Bool→List Str→Scope→Expr→Expr→Bool
 | .seq a,rd,N,sc,_,p=>(rd||!isRd a)&&mE a N sc p
 | .rng a,_,N,sc,_,p=>vC (λn=>v1 λq=>(n == "range")&&glB sc n&&!isRd a&&mE a N sc q) p
 | .rng2 a b,_,N,sc,_,p=>vC (λn=>vP λq r=>(n == "range")&&glB sc n&&!isRd a&&!isRd b&&mE a N sc q&&mE b N sc r) p
 | .enum a,rd,N,sc,tg,p=>vC (λn=>v1 λq=>(n == "enumerate")&&glB sc n&&isTupX tg&&(rd||!isRd a)&&mE a N sc q) p
 | .seqD a,_,N,sc,_,p=>!isRd a&&mE a N sc p
 | _,_,_,_,_,_=>false
termination_by structural x=>x
end
end
section
variable {Tx:Txt} {N:List Str} {sc:Scope} {p tg:Expr}
theorem nof {P:Prop} (h:false=true):P:=absurd h Bool.false_ne_true
theorem and2 {a b:Bool} (h:(a&&b)=true):a=true∧b=true:=by rw[Bool.and_eq_true] at h;exact h
theorem not1 {a:Bool} (h:(!a)=true):a=false:=by rw[Bool.not_eq_true'] at h;exact h
theorem beq1 {α:Type} [BEq α] [LawfulBEq α] {a b:α} (h:(a==b)=true):a=b:=eq_of_beq h
theorem i_var {i:Nat} (h:mE Tx (.var i) N sc p=true):∃n pos,p=.Name n pos∧nameB N sc i n=true:=by
 cases p<;>first | exact nof h | exact⟨_,_,rfl,h⟩
theorem i_rd {i:Nat} (h:mE Tx (.rd i) N sc p=true):∃n pos,p=.Name n pos∧nameB N sc i n=true:=by
 cases p<;>first | exact nof h | exact⟨_,_,rfl,h⟩
theorem i_con {d:D} (h:mE Tx (.con d) N sc p=true):∃c k pos,p=.Constant c k pos∧cstIs d c=true:=by
 cases p<;>first | exact nof h | exact⟨_,_,_,rfl,h⟩
theorem i_glob {g:Nat} (h:mE Tx (.glob g) N sc p=true):∃n pos,p=.Name n pos∧(Tx.gn[g]?==some n&&glB sc n&&dbgB n)=true:=by
 cases p<;>first | exact nof h | exact⟨_,_,rfl,h⟩
theorem i_bin {o:Operator} {a b:E} (h:mE Tx (.bin o a b) N sc p=true):∃l r pos,p=.BinOp l o r pos∧mE Tx a N sc l=true∧mE Tx b N sc r=true:=by
 cases p with
 | BinOp l o' r pos =>
  have h:=and2 (show ((o==o')&&mE Tx a N sc l&&mE Tx b N sc r)=true from h)
  have h1:=and2 h.1
  have e:o=o':=beq1 h1.1
  subst e
  exact⟨l,r,pos,rfl,h1.2,h.2⟩
 | _=>exact nof h
theorem i_cmp {o:CmpOp} {a b:E} (h:mE Tx (.cmp o a b) N sc p=true):∃l r pos,p=.Compare l [o] [r] pos∧mE Tx a N sc l=true∧mE Tx b N sc r=true:=by
 cases p with
 | Compare l os rs pos =>
  rcases os with _ | ⟨o',_ | ⟨o'',os⟩⟩
  ·exact nof h
  ·rcases rs with _ | ⟨r,_ | ⟨r',rs⟩⟩
   ·exact nof h
   ·have h:=and2 (show ((o==o')&&mE Tx a N sc l&&mE Tx b N sc r)=true from h)
    have h1:=and2 h.1
    have e:o=o':=beq1 h1.1
    subst e
    exact⟨l,r,pos,rfl,h1.2,h.2⟩
   ·exact nof h
  ·exact nof h
 | _=>exact nof h
theorem i_neg {a:E} (h:mE Tx (.neg a) N sc p=true):∃l pos,p=.UnaryOp .USub l pos∧mE Tx a N sc l=true:=by
 cases p with
 | UnaryOp op l pos=>cases op<;>first | exact nof h | exact⟨_,_,rfl,h⟩
 | _=>exact nof h
theorem i_and {a b:E} (h:mE Tx (.and a b) N sc p=true):∃l r rest pos,p=.BoolOp .And (l::r::rest) pos∧isRd a=false∧isRd b=false∧mE Tx a N sc l=true∧((rest=[]∧mE Tx b N sc r=true)∨(∃r' rs,rest=r'::rs∧mE Tx b N sc (.BoolOp .And (r::rest) pos)=true)):=by
 cases p with
 | BoolOp op vs pos =>
  cases op with
  | Or=>exact nof h
  | And =>
   rcases vs with _ | ⟨l,_ | ⟨r,_ | ⟨r',rest⟩⟩⟩
   ·exact nof h
   ·exact nof h
   ·have h:=and2 (show (!isRd a&&!isRd b&&mE Tx a N sc l&&mE Tx b N sc r)=true from h)
    have h1:=and2 h.1
    have h2:=and2 h1.1
    exact⟨l,r,[],pos,rfl,not1 h2.1,not1 h2.2,h1.2,.inl ⟨rfl,h.2⟩⟩
   ·have h:=and2 (show (!isRd a&&!isRd b&&mE Tx a N sc l&&mE Tx b N sc (.BoolOp .And (r::r'::rest) pos))=true from h)
    have h1:=and2 h.1
    have h2:=and2 h1.1
    exact⟨l,r,r'::rest,pos,rfl,not1 h2.1,not1 h2.2,h1.2,.inr ⟨r',rest,rfl,h.2⟩⟩
 | _=>exact nof h
theorem i_not {a:E} (h:mE Tx (.not a) N sc p=true):∃l pos,p=.UnaryOp .Not l pos∧mE Tx a N sc l=true:=by
 cases p with
 | UnaryOp op l pos=>cases op<;>first | exact nof h | exact⟨_,_,rfl,h⟩
 | _=>exact nof h
theorem i_ife {c a b:E} (h:mE Tx (.ife c a b) N sc p=true):∃l m r pos,p=.IfExp l m r pos∧isRd a=false∧isRd b=false∧mE Tx c N sc l=true∧mE Tx a N sc m=true∧mE Tx b N sc r=true:=by
 cases p with
 | IfExp l m r pos =>
  have h:=and2 (show (!isRd a&&!isRd b&&mE Tx c N sc l&&mE Tx a N sc m&&mE Tx b N sc r)=true from h)
  have h1:=and2 h.1
  have h2:=and2 h1.1
  have h3:=and2 h2.1
  exact⟨l,m,r,pos,rfl,not1 h3.1,not1 h3.2,h2.2,h1.2,h.2⟩
 | _=>exact nof h
theorem i_ix {a b:E} (h:mE Tx (.ix a b) N sc p=true):∃l r pos,p=.Subscript l r pos∧mE Tx a N sc l=true∧mE Tx b N sc r=true:=by
 cases p with
 | Subscript l r pos =>
  have h:=and2 (show (mE Tx a N sc l&&mE Tx b N sc r)=true from h)
  exact⟨l,r,pos,rfl,h.1,h.2⟩
 | _=>exact nof h
theorem i_sl {a lo hi:E} (h:mE Tx (.sl a lo hi) N sc p=true):∃l pl ph pos pos',p=.Subscript l (.Slice pl ph none pos') pos∧mE Tx a N sc l=true∧((pl=none∧isOmit lo=true)∨∃q,pl=some q∧isRd lo=false∧mE Tx lo N sc q=true)∧((ph=none∧isOmit hi=true)∨∃q,ph=some q∧isRd hi=false∧mE Tx hi N sc q=true):=by
 cases p with
 | Subscript l r pos =>
  cases r with
  | Slice pl ph st pos' =>
   cases st with
   | some _=>exact nof h
   | none =>
    refine⟨l,pl,ph,pos,pos',rfl,?_⟩
    cases pl with
    | none =>
     cases ph with
     | none =>
      have h:=and2 (show (mE Tx a N sc l&&isOmit lo&&isOmit hi)=true from h)
      exact⟨(and2 h.1).1,.inl ⟨rfl,(and2 h.1).2⟩,.inl ⟨rfl,h.2⟩⟩
     | some q =>
      have h:=and2 (show (mE Tx a N sc l&&isOmit lo&&(!isRd hi&&mE Tx hi N sc q))=true from h)
      exact⟨(and2 h.1).1,.inl ⟨rfl,(and2 h.1).2⟩,.inr ⟨q,rfl,not1 (and2 h.2).1,(and2 h.2).2⟩⟩
    | some q0 =>
     cases ph with
     | none =>
      have h:=and2 (show (mE Tx a N sc l&&(!isRd lo&&mE Tx lo N sc q0)&&isOmit hi)=true from h)
      exact⟨(and2 h.1).1,.inr ⟨q0,rfl,not1 (and2 (and2 h.1).2).1,(and2 (and2 h.1).2).2⟩,.inl ⟨rfl,h.2⟩⟩
     | some q =>
      have h:=and2 (show (mE Tx a N sc l&&(!isRd lo&&mE Tx lo N sc q0)&&(!isRd hi&&mE Tx hi N sc q))=true from h)
      exact⟨(and2 h.1).1,.inr ⟨q0,rfl,not1 (and2 (and2 h.1).2).1,(and2 (and2 h.1).2).2⟩,.inr ⟨q,rfl,not1 (and2 h.2).1,(and2 h.2).2⟩⟩
  | _=>exact nof h
 | _=>exact nof h
theorem i_tup {a:E} (h:mE Tx (.tup a) N sc p=true):∃es k pos,p=.Tuple es k pos∧mA Tx a false N sc es=true:=by
 cases p<;>first | exact nof h | exact⟨_,_,_,rfl,h⟩
theorem i_lst {a:E} (h:mE Tx (.lst a) N sc p=true):∃es pos,p=.List es pos∧mA Tx a false N sc es=true:=by
 cases p<;>first | exact nof h | exact⟨_,_,rfl,h⟩
theorem i_call {f:Nat} {a:E} (h:mE Tx (.call f a) N sc p=true):∃n pn es pos,p=.Call (.Name n pn) es [] pos∧(Tx.dn[f]?==some n&&glB sc n&&dbgB n&&mA Tx a false N sc es)=true:=by
 exact vC_of h
theorem i_srt {a:E} (h:mE Tx (.srt a) N sc p=true):∃n pn q pos,p=.Call (.Name n pn) [q] [] pos∧((n == "sorted")&&glB sc n&&mE Tx a N sc q)=true:=by
 obtain⟨n,pn,es,pos,rfl,g1⟩:=vC_of h
 obtain⟨q,rfl,g2⟩:=v1_of g1
 exact⟨n,pn,q,pos,rfl,g2⟩
theorem i_dck {a:E} (h:mE Tx (.dck a) N sc p=true):∃n pn q pos,p=.Call (.Name n pn) [q] [] pos∧((n == "dict")&&glB sc n&&!isRd a&&mE Tx a N sc q)=true:=by
 obtain⟨n,pn,es,pos,rfl,g1⟩:=vC_of h
 obtain⟨q,rfl,g2⟩:=v1_of g1
 exact⟨n,pn,q,pos,rfl,g2⟩
theorem i_bt {b:Bt} {a:E} (h:mE Tx (.bt b a) N sc p=true):∃n pn e es pos,p=.Call (.Name n pn) (e::es) [] pos∧(b.use&&(n==b.nm)&&glB sc n&&mA Tx a true N sc (e::es))=true:=by
 obtain⟨n,pn,es,pos,rfl,g1⟩:=vC_of h
 obtain⟨e,es,rfl,g2⟩:=vL_of g1
 exact⟨n,pn,e,es,pos,rfl,g2⟩
end
noncomputable def bltNames:List Str:=["len", "sum", "tuple", "list", "int", "str", "isinstance", "range", "enumerate", "bool", "abs", "min", "max", "all", "any", "set", "zip", "sorted", "dict"]
set_option genInjectivity false in
structure OkX (T:Tab) (cf:Nat→List D→Res D) (Tx:Txt) (X:Cx):Prop where
 calm:X.calm=true
 roomy:Roomy X
 defs:∀f n,Tx.dn[f]?=some n→DefIs T cf X f n
 globs:∀g n,Tx.gn[g]?=some n→GlobIs X n (T.glob g)
 blt:∀n∈bltNames,X.mg n=none
 nd:X.N.Nodup
 tf:∀q∈Tx.tf,TabF T cf X q.1 q.2
 ts:∀q∈Tx.ts,TabS X q.1 q.2
 dm:∀q∈Tx.dm,DefAny T cf X q.1 q.2
section
variable {T:Tab} {cf:Nat→List D→Res D} {Tx:Txt} {X:Cx}
theorem name_of {i:Nat} {n:Str} {N:List Str} {sc:Scope} (h:nameB N sc i n=true):N[i]?=some n∧Vis sc n∧(n==("__debug__" : Str))=false∧(n==("__classdict__" : Str))=false:=by
 simp only[nameB,visB,dbgB,Bool.and_eq_true,Bool.or_eq_true,Bool.not_eq_true',beq_iff_eq] at h
 refine⟨h.1.1,?_,h.2.1,h.2.2⟩
 rcases h.1.2 with (z | z) | z
 ·exact .inl z
 ·exact .inr (.inl z)
 ·exact .inr (.inr z)
theorem gl_of {n:Str} (h:glB X.env.scope n=true):Gl X n:=by
 have h':X.env.scope.names.lookup n=some .globalImplicit:=by simpa[glB] using h
 exact h'
noncomputable def isBoolX:Expr→Bool
 | .BoolOp _ _ _=>true
 | _=>false
theorem dbg_of {n:Str} (h:dbgB n=true):(n==("__debug__" : Str))=false:=by
 simp only[dbgB,Bool.and_eq_true,Bool.not_eq_true'] at h
 exact h.1
theorem sgs_of {loc:Bool} (hN:X.N.Nodup) (hf:∀n,loc=false→X.fn n=true):∀ {is:List Nat} {es:List Expr},mGs loc X.N X.env.scope is es=true→SGs X is es∧names1 es=true∧es.length=is.length
 | [],[],_=>⟨sgs_nil,rfl,rfl⟩
 | [],_::_,h=>by exact nof h
 | _::_,[],h=>by exact nof h
 | i::is,e::es,h=>by
  cases e with
  | Name n pos =>
   change (_&&(_||_)&&_)=true at h
   simp only[Bool.and_eq_true,Bool.or_eq_true,beq_iff_eq,Bool.not_eq_true'] at h
   obtain⟨⟨h1,h2⟩,h3⟩:=h
   obtain⟨a1,a2,a3⟩:=sgs_of hN hf h3
   refine⟨sgs_cons hN h1 ?_ ?_ a1,a2,by rw[List.length_cons,List.length_cons,a3]⟩
   ·rcases h2 with z | z
    ·exact .inl z
    ·exact .inr z.2
   ·rcases h2 with z | z
    ·exact .inr z
    ·exact .inl (hf n z.1)
  | _=>exact nof h
theorem sg_of {loc:Bool} {g:G} {tg:Expr} (hc:X.calm=true) (hN:X.N.Nodup) (hf:∀n,loc=false→X.fn n=true) (h:mG loc X.N X.env.scope g tg=true):SG X g tg∧plainX tg=true:=by
 cases g with
 | one i =>
  cases tg with
  | Name n pos =>
   change (_&&(_||_))=true at h
   simp only[Bool.and_eq_true,Bool.or_eq_true,beq_iff_eq,Bool.not_eq_true'] at h
   refine⟨sg_one hN h.1 ?_ ?_,rfl⟩
   ·rcases h.2 with z | z
    ·exact .inl z
    ·exact .inr z.2
   ·rcases h.2 with z | z
    ·exact .inr z
    ·exact .inl (hf n z.1)
  | _=>exact nof h
 | many is =>
  cases tg with
  | Tuple es k pos =>
   obtain⟨a1,a2,a3⟩:=sgs_of hN hf h
   exact⟨sg_many hc a2 a3 a1,rfl⟩
  | _=>exact nof h
noncomputable def PEx (T:Tab) (cf:Nat→List D→Res D) (Tx:Txt) (x:E):Prop:=∀X p,OkX T cf Tx X→mE Tx x X.N X.env.scope p=true→SR T cf X x p∧(isRd x=false→SE T cf X x p)∧ST T cf X x p∧plainX p=true∧(isBoolX p=true→SW T cf X x p)
noncomputable def PAx (T:Tab) (cf:Nat→List D→Res D) (Tx:Txt) (x:E):Prop:=∀X rd ps,OkX T cf Tx X→mA Tx x rd X.N X.env.scope ps=true→SAr T cf X x ps∧(rd=false→SAv T cf X x ps)∧ps.all plainX=true
noncomputable def PIx (T:Tab) (cf:Nat→List D→Res D) (Tx:Txt) (x:E):Prop:=∀X rd tg p,OkX T cf Tx X→mI Tx x rd X.N X.env.scope tg p=true→SI T cf X tg x rd p∧plainX p=true
theorem noA {x:E} (h:∀rd N sc ps,mA Tx x rd N sc ps=false):PAx T cf Tx x:=λX rd ps _ m=>by rw[h] at m;cases m
theorem noI {x:E} (h:∀rd N sc tg p,mI Tx x rd N sc tg p=false):PIx T cf Tx x:=λX rd tg p _ m=>by rw[h] at m;cases m
theorem noE {x:E} (h:∀N sc p,mE Tx x N sc p=false):PEx T cf Tx x:=λX p _ m=>by rw[h] at m;cases m
theorem of_se {x:E} {p:Expr} (h:SE T cf X x p) (he:∀whole,isTrue p X.env whole=(do let v ←whole;standAt p.pos;holding [v] (truthy v))) (hp:plainX p=true) (hb:isBoolX p=false:=by rfl):SR T cf X x p∧(isRd x=false→SE T cf X x p)∧ST T cf X x p∧plainX p=true∧(isBoolX p=true→SW T cf X x p) :=
 ⟨h.sr,λ_=>h,st_gen h.sr he,hp,λz=>by rw[hb] at z;cases z⟩
theorem okC (ok:OkX T cf Tx X) {scope:Scope} {C:Addr} {Nc:List Str} {s2:Shared} {H2:Hp} {fp:List Addr} (h:Nc.Nodup):OkX T cf Tx (cxC X scope C Nc s2 H2 fp) :=
 ⟨ok.calm,ok.roomy,ok.defs,ok.globs,ok.blt,h,ok.tf,ok.ts,ok.dm⟩
theorem scC_of {scope:Scope} (h:scB X.env.scope scope=true):ScopeC X scope:=by
 simp only[scB,Bool.and_eq_true,List.all_eq_true,Bool.or_eq_true,Bool.not_eq_true',beq_iff_eq,beq_eq_false_iff_ne,ne_eq] at h
 obtain⟨⟨⟨h1,h2⟩,h3⟩,h4⟩:=h
 refine⟨h1,h2,λx hx e=>?_,λx hx e=>?_,λx hx e=>?_⟩
 ·rcases h3 x hx with z | z
  ·exact absurd e z
  ·exact z
 ·rcases h4 x hx with z | z
  ·exact absurd e z
  ·exact z.1
 ·rcases h4 x hx with z | z
  ·exact absurd e z
  ·exact z.2
theorem capsOk {scope:Scope} {caps:List Nat} {own:Nat} {tn:List Str} (h:capB X.N scope caps=true) (hn:nodupB caps=true) (ho:own=tn.length):CapsOk X scope own caps (tn++capNames X.N caps):=by
 refine⟨by rw[List.length_append,ho,capNames,List.length_map],nodup_of hn,λj i hj=>?_⟩
 simp only[capB,List.all_eq_true] at h
 have:=h i (List.mem_of_getElem? hj)
 cases e:X.N[i]? with
 | none=>rw[e] at this;cases this
 | some n =>
  rw[e] at this
  refine⟨n,rfl,?_,by simpa using this⟩
  rw[ho,List.getElem?_append_right (by lia),show tn.length+j - tn.length=j by lia,capNames,List.getElem?_map,hj]
  simp[e]
theorem i_rng {a:E} {rd:Bool} {N:List Str} {sc:Scope} {tg p:Expr} (h:mI Tx (.rng a) rd N sc tg p=true):∃n pn q pos,p=.Call (.Name n pn) [q] [] pos∧((n == "range")&&glB sc n&&!isRd a&&mE Tx a N sc q)=true:=by
 obtain⟨n,pn,es,pos,rfl,g1⟩:=vC_of h
 obtain⟨q,rfl,g2⟩:=v1_of g1
 exact⟨n,pn,q,pos,rfl,g2⟩
theorem i_rng2 {a b:E} {rd:Bool} {N:List Str} {sc:Scope} {tg p:Expr} (h:mI Tx (.rng2 a b) rd N sc tg p=true):∃n pn q r pos,p=.Call (.Name n pn) [q,r] [] pos∧((n == "range")&&glB sc n&&!isRd a&&!isRd b&&mE Tx a N sc q&&mE Tx b N sc r)=true:=by
 obtain⟨n,pn,es,pos,rfl,g1⟩:=vC_of h
 obtain⟨q,r,rfl,g2⟩:=vP_of g1
 exact⟨n,pn,q,r,pos,rfl,g2⟩
theorem i_enum {a:E} {rd:Bool} {N:List Str} {sc:Scope} {tg p:Expr} (h:mI Tx (.enum a) rd N sc tg p=true):∃n pn q pos,p=.Call (.Name n pn) [q] [] pos∧((n == "enumerate")&&glB sc n&&isTupX tg&&(rd||!isRd a)&&mE Tx a N sc q)=true:=by
 obtain⟨n,pn,es,pos,rfl,g1⟩:=vC_of h
 obtain⟨q,rfl,g2⟩:=v1_of g1
 exact⟨n,pn,q,pos,rfl,g2⟩
theorem i_comp {own:Nat} {caps:List Nat} {g:G} {elt src cond:E} {N:List Str} {sc:Scope} {p:Expr} (h:mE Tx (.comp own caps g elt src cond) N sc p=true):∃pe tg iter ifs scope pos,p=.ListComp pe [⟨tg,iter,ifs,0⟩] scope pos ∧
 scB sc scope=true∧capB N scope caps=true∧nodupB caps=true∧nodupB (tgNames tg++capNames N caps)=true∧own=(tgNames tg).length∧g.below own=true∧mG true (tgNames tg++capNames N caps) (relS scope sc) g tg=true ∧
 mI Tx src true N sc tg iter=true∧isRd elt=false∧mE Tx elt (tgNames tg++capNames N caps) (relS scope sc) pe=true ∧
 ((ifs=[]∧isTrueC cond=true)∨∃c,ifs=[c]∧mE Tx cond (tgNames tg++capNames N caps) (relS scope sc) c=true):=by
 cases p with
 | ListComp pe gens scope pos =>
  rcases gens with _ | ⟨⟨tg,iter,ifs,isa⟩,_ | ⟨g2,gens⟩⟩
  ·exact nof h
  ·change (_&&_)=true at h;simp only[Bool.and_eq_true,Bool.not_eq_true',beq_iff_eq] at h
   obtain⟨⟨⟨⟨⟨⟨⟨⟨⟨⟨⟨a1,a2⟩,a3⟩,a4⟩,a5⟩,a6⟩,a7⟩,a8⟩,a9⟩,a10⟩,a11⟩,a12⟩:=h
   subst a1
   refine⟨pe,tg,iter,ifs,scope,pos,rfl,a2,a3,a4,a5,a6,a7,a8,a9,a10,a11,?_⟩
   rcases ifs with _ | ⟨c,_ | ⟨c',ifs⟩⟩
   ·exact .inl ⟨rfl,a12⟩
   ·exact .inr ⟨c,rfl,a12⟩
   ·cases a12
  ·exact nof h
 | _=>exact nof h
theorem comp_parts {own:Nat} {caps:List Nat} {g:G} {elt src cond:E} {pe tg iter:Expr} {ifs:List Expr} {scope:Scope} (ok:OkX T cf Tx X) (ie:PEx T cf Tx elt) (is:PIx T cf Tx src) (ic:PEx T cf Tx cond)
 (a2:scB X.env.scope scope=true) (a3:capB X.N scope caps=true) (a4:nodupB caps=true) (a5:nodupB (tgNames tg++capNames X.N caps)=true) (a6:own=(tgNames tg).length) (a8:mG true (tgNames tg++capNames X.N caps) (relS scope X.env.scope) g tg=true)
 (a9:mI Tx src true X.N X.env.scope tg iter=true) (a10:isRd elt=false) (a11:mE Tx elt (tgNames tg++capNames X.N caps) (relS scope X.env.scope) pe=true)
 (a12:(ifs=[]∧isTrueC cond=true)∨∃c,ifs=[c]∧mE Tx cond (tgNames tg++capNames X.N caps) (relS scope X.env.scope) c=true) :
 ScopeC X scope∧CapsOk X scope own caps (tgNames tg++capNames X.N caps)∧plainX iter=true∧SI T cf X tg src true iter ∧
 ∀C s2 H2 fp,(cxC X scope C (tgNames tg++capNames X.N caps) s2 H2 fp).Ok→SG (cxC X scope C (tgNames tg++capNames X.N caps) s2 H2 fp) g tg∧SE T cf (cxC X scope C (tgNames tg++capNames X.N caps) s2 H2 fp) elt pe∧testsIs ifs cond (ST T cf (cxC X scope C (tgNames tg++capNames X.N caps) s2 H2 fp) cond):=by
 obtain⟨s1,s2⟩:=is X true tg iter ok a9
 refine⟨scC_of a2,capsOk a3 a4 a6,s2,s1,λC s2 H2 fp _=>?_⟩
 have okc:OkX T cf Tx (cxC X scope C (tgNames tg++capNames X.N caps) s2 H2 fp):=okC ok (nodup_of a5)
 refine⟨(sg_of (X:=cxC X scope C (tgNames tg++capNames X.N caps) s2 H2 fp) ok.calm okc.nd (λn z=>by cases z) a8).1,(ie _ _ okc a11).2.1 a10,?_⟩
 rcases a12 with ⟨z1,z2⟩ | ⟨c,z1,z2⟩
 ·refine .inl ⟨z1,?_⟩
  unfold isTrueC at z2
  split at z2
  ·rfl
  ·cases z2
 ·exact .inr ⟨c,z1,(ic _ _ okc z2).2.2.1⟩
theorem wholeE:∀x:E,PEx T cf Tx x∧PAx T cf Tx x∧PIx T cf Tx x:=by
 intro x
 induction x with
 | var i =>
  refine⟨λX p ok h=>?_,noA λrd N sc ps=>rfl,noI λrd N sc tg p=>rfl⟩
  obtain⟨n,pos,rfl,hn⟩:=i_var h
  obtain⟨a1,a2,a3,a4⟩:=name_of hn
  exact of_se (se_var a1 a2 a3 a4) (λ_=>rfl) rfl
 | rd i =>
  refine⟨λX p ok h=>?_,noA λrd N sc ps=>rfl,noI λrd N sc tg p=>rfl⟩
  obtain⟨n,pos,rfl,hn⟩:=i_rd h
  obtain⟨a1,a2,a3,a4⟩:=name_of hn
  exact⟨sr_rd a1 a2 a3 a4,(λz=>by cases z),st_gen (sr_rd a1 a2 a3 a4) (λ_=>rfl),rfl,λz=>by cases z⟩
 | con d =>
  refine⟨λX p ok h=>?_,noA λrd N sc ps=>rfl,noI λrd N sc tg p=>rfl⟩
  obtain⟨c,k,pos,rfl,hn⟩:=i_con h
  exact of_se (se_con hn) (λ_=>rfl) rfl
 | glob g =>
  refine⟨λX p ok h=>?_,noA λrd N sc ps=>rfl,noI λrd N sc tg p=>rfl⟩
  obtain⟨n,pos,rfl,hn⟩:=i_glob h
  simp only[Bool.and_eq_true,beq_iff_eq] at hn
  exact of_se (se_glob (gl_of hn.1.2) (ok.globs g n hn.1.1) (dbg_of hn.2)) (λ_=>rfl) rfl
 | bin o a b iha ihb =>
  refine⟨λX p ok h=>?_,noA λrd N sc ps=>rfl,noI λrd N sc tg p=>rfl⟩
  obtain⟨l,r,pos,rfl,h1,h2⟩:=i_bin h
  exact of_se (se_bin (iha.1 X l ok h1).1 (ihb.1 X r ok h2).1) (λ_=>rfl) rfl
 | cmp o a b iha ihb =>
  refine⟨λX p ok h=>?_,noA λrd N sc ps=>rfl,noI λrd N sc tg p=>rfl⟩
  obtain⟨l,r,pos,rfl,h1,h2⟩:=i_cmp h
  have hb:=ihb.1 X r ok h2
  have se:=se_cmp (o:=o) (pos:=pos) ok.roomy hb.2.2.2.1 (iha.1 X l ok h1).1 hb.1
  exact⟨se.sr,λ_=>se,st_cmp ok.roomy hb.2.2.2.1 (iha.1 X l ok h1).1 hb.1,rfl,λz=>by cases z⟩
 | seqD a iha =>
  refine⟨noE λN sc p=>rfl,noA λrd N sc ps=>rfl,λX rd tg p ok h=>?_⟩
  change (_&&_)=true at h;simp only[Bool.and_eq_true,Bool.not_eq_true'] at h
  obtain⟨a1,a2,_,a4,_⟩:=iha.1 X p ok h.2
  cases rd with
  | true=>exact⟨(si_seqD (a2 h.1)).up,a4⟩
  | false=>exact⟨si_seqD (a2 h.1),a4⟩
 | and a b iha ihb =>
  refine⟨λX p ok h=>?_,noA λrd N sc ps=>rfl,noI λrd N sc tg p=>rfl⟩
  obtain⟨l,r,rest,pos,rfl,ra,rb,h1,h2⟩:=i_and h
  obtain⟨_,sa,ta,_⟩:=iha.1 X l ok h1
  have sb:SE T cf X b (.BoolOp .And (r::rest) pos)∧SW T cf X b (.BoolOp .And (r::rest) pos):=by
   rcases h2 with ⟨rfl,h2⟩ | ⟨r',rs,rfl,h2⟩
   ·obtain⟨_,b1,b2,_⟩:=ihb.1 X r ok h2
    exact⟨se_one (b1 rb),sw_and1 b2⟩
   ·obtain⟨_,b1,b2,_,b5⟩:=ihb.1 X _ ok h2
    exact⟨b1 rb,b5 rfl⟩
  exact⟨(se_and (sa ra) sb.1).sr,λ_=>se_and (sa ra) sb.1,(sw_and ta sb.2).st,rfl,λ_=>sw_and ta sb.2⟩
 | not a iha =>
  refine⟨λX p ok h=>?_,noA λrd N sc ps=>rfl,noI λrd N sc tg p=>rfl⟩
  obtain⟨l,pos,rfl,h1⟩:=i_not h
  obtain⟨a1,_,a3,_,_⟩:=iha.1 X l ok h1
  exact⟨(se_not a3 a1).sr,λ_=>se_not a3 a1,st_not a3,rfl,λz=>by cases z⟩
 | neg a iha =>
  refine⟨λX p ok h=>?_,noA λrd N sc ps=>rfl,noI λrd N sc tg p=>rfl⟩
  obtain⟨l,pos,rfl,h1⟩:=i_neg h
  exact of_se (se_neg (iha.1 X l ok h1).1) (λ_=>rfl) rfl
 | ife c a b ihc iha ihb =>
  refine⟨λX p ok h=>?_,noA λrd N sc ps=>rfl,noI λrd N sc tg p=>rfl⟩
  obtain⟨l,m,r,pos,rfl,ra,rb,h1,h2,h3⟩:=i_ife h
  have se:=se_ife (pos:=pos) (ihc.1 X l ok h1).2.2.1 ((iha.1 X m ok h2).2.1 ra) ((ihb.1 X r ok h3).2.1 rb)
  exact⟨se.sr,λ_=>se,st_ife (ihc.1 X l ok h1).2.2.1 (iha.1 X m ok h2).2.2.1 (ihb.1 X r ok h3).2.2.1,rfl,λz=>by cases z⟩
 | ix a b iha ihb =>
  refine⟨λX p ok h=>?_,noA λrd N sc ps=>rfl,noI λrd N sc tg p=>rfl⟩
  obtain⟨l,r,pos,rfl,h1,h2⟩:=i_ix h
  have hb:=ihb.1 X r ok h2
  exact of_se (se_ix ok.roomy hb.2.2.2.1 (iha.1 X l ok h1).1 hb.1) (λ_=>rfl) rfl
 | sl a lo hi iha ihl ihh =>
  refine⟨λX p ok h=>?_,noA λrd N sc ps=>rfl,noI λrd N sc tg p=>rfl⟩
  obtain⟨l,pl,ph,pos,pos',rfl,h1,h2,h3⟩:=i_sl h
  have part:∀ {y:E} {q:Option Expr},PEx T cf Tx y→((q=none∧isOmit y=true)∨∃r,q=some r∧isRd y=false∧mE Tx y X.N X.env.scope r=true)→SO T cf X y q:=by
   intro y q ih hq
   rcases hq with ⟨rfl,z⟩ | ⟨r,rfl,z1,z2⟩
   ·unfold isOmit at z
    split at z
    ·exact so_omit
    ·cases z
   ·exact so_some ((ih X r ok z2).2.1 z1)
  exact of_se (se_sl (iha.1 X l ok h1).1 (part ihl.1 h2) (part ihh.1 h3)) (λ_=>rfl) rfl
 | «omit»=>exact⟨noE λN sc p=>rfl,noA λrd N sc ps=>rfl,noI λrd N sc tg p=>rfl⟩
 | tup a iha =>
  refine⟨λX p ok h=>?_,noA λrd N sc ps=>rfl,noI λrd N sc tg p=>rfl⟩
  obtain⟨es,k,pos,rfl,h1⟩:=i_tup h
  exact of_se (se_tup ((iha.2.1 X false es ok h1).2.1 rfl)) (λ_=>rfl) rfl
 | lst a iha =>
  refine⟨λX p ok h=>?_,noA λrd N sc ps=>rfl,noI λrd N sc tg p=>rfl⟩
  obtain⟨es,pos,rfl,h1⟩:=i_lst h
  exact of_se (se_lst ((iha.2.1 X false es ok h1).2.1 rfl)) (λ_=>rfl) rfl
 | anil =>
  refine⟨noE λN sc p=>rfl,λX rd ps ok h=>?_,noI λrd N sc tg p=>rfl⟩
  cases ps with
  | nil=>exact⟨sar_nil,λ_=>sav_nil,rfl⟩
  | cons _ _=>exact nof h
 | acons a r iha ihr =>
  refine⟨noE λN sc p=>rfl,λX rd ps ok h=>?_,noI λrd N sc tg p=>rfl⟩
  cases ps with
  | nil=>exact nof h
  | cons p ps =>
   change (_&&_)=true at h;simp only[Bool.and_eq_true,Bool.or_eq_true,Bool.not_eq_true'] at h
   obtain⟨a1,a2,_,a4,_⟩:=iha.1 X p ok h.1.2
   obtain⟨b1,b2,b3⟩:=ihr.2.1 X rd ps ok h.2
   refine⟨sar_cons a4 a1 b1,λz=>sav_cons a4 (a2 ?_) (b2 z),by rw[List.all_cons,a4,b3];rfl⟩
   rcases h.1.1 with q | q
   ·rw[z] at q;cases q
   ·exact q
 | call f a iha =>
  refine⟨λX p ok h=>?_,noA λrd N sc ps=>rfl,noI λrd N sc tg p=>rfl⟩
  obtain⟨n,pn,es,pos,rfl,hn⟩:=i_call h
  simp only[Bool.and_eq_true,beq_iff_eq] at hn
  obtain⟨_,b2,b3⟩:=iha.2.1 X false es ok hn.2
  cases es with
  | nil =>
   cases a with
   | anil=>exact of_se (se_call0 (ok.defs f n hn.1.1.1) (gl_of hn.1.1.2) (dbg_of hn.1.2)) (λ_=>rfl) rfl
   | _=>exact nof hn.2
  | cons e es=>exact of_se (se_call (ok.defs f n hn.1.1.1) (gl_of hn.1.1.2) (dbg_of hn.1.2) b3 (b2 rfl)) (λ_=>rfl) rfl
 | srt a iha =>
  refine⟨λX p ok h=>?_,noA λrd N sc ps=>rfl,noI λrd N sc tg p=>rfl⟩
  obtain⟨n,pn,q,pos,rfl,hn⟩:=i_srt h
  simp only[Bool.and_eq_true,beq_iff_eq] at hn
  obtain⟨⟨rfl,h2⟩,h3⟩:=hn
  obtain⟨a1,_,_,a4,_⟩:=iha.1 X q ok h3
  exact of_se (se_srt ok.calm (ok.blt _ (by decide)) (gl_of h2) a4 a1) (λ_=>rfl) rfl
 | dck a iha =>
  refine⟨λX p ok h=>?_,noA λrd N sc ps=>rfl,noI λrd N sc tg p=>rfl⟩
  obtain⟨n,pn,q,pos,rfl,hn⟩:=i_dck h
  simp only[Bool.and_eq_true,beq_iff_eq,Bool.not_eq_true'] at hn
  obtain⟨⟨⟨rfl,h2⟩,h0⟩,h3⟩:=hn
  obtain⟨_,a2,_,a4,_⟩:=iha.1 X q ok h3
  exact of_se (se_dck ok.calm ok.roomy (ok.blt _ (by decide)) (gl_of h2) a4 (a2 h0)) (λ_=>rfl) rfl
 | bt b a iha =>
  refine⟨λX p ok h=>?_,noA λrd N sc ps=>rfl,noI λrd N sc tg p=>rfl⟩
  obtain⟨n,pn,e,es,pos,rfl,hn⟩:=i_bt h
  simp only[Bool.and_eq_true,beq_iff_eq] at hn
  obtain⟨b1,_,b3⟩:=iha.2.1 X true (e::es) ok hn.2
  exact of_se (se_bt hn.1.1.1 ok.calm hn.1.1.2 (ok.blt _ (by cases b<;>decide)) (gl_of hn.1.2) b3 b1) (λ_=>rfl) rfl
 | comp own caps g elt src cond ihe ihs ihc =>
  refine⟨λX p ok h=>?_,noA λrd N sc ps=>rfl,noI λrd N sc tg p=>rfl⟩
  obtain⟨pe,tg,iter,ifs,scope,pos,rfl,a2,a3,a4,a5,a6,a7,a8,a9,a10,a11,a12⟩:=i_comp h
  obtain⟨c1,c2,c3,c4,c5⟩:=comp_parts ok ihe.1 ihs.2.2 ihc.1 a2 a3 a4 a5 a6 a8 a9 a10 a11 a12
  exact of_se (se_comp ok.calm c1 c2 a7 c3 c4 c5) (λ_=>rfl) rfl
 | seq a iha =>
  refine⟨noE λN sc p=>rfl,noA λrd N sc ps=>rfl,λX rd tg p ok h=>?_⟩
  change (_&&_)=true at h;simp only[Bool.and_eq_true,Bool.or_eq_true,Bool.not_eq_true'] at h
  obtain⟨a1,a2,_,a4,_⟩:=iha.1 X p ok h.2
  refine⟨si_seq a1 λz=>a2 ?_,a4⟩
  rcases h.1 with q | q
  ·rw[z] at q;cases q
  ·exact q
 | rng a iha =>
  refine⟨noE λN sc p=>rfl,noA λrd N sc ps=>rfl,λX rd tg p ok h=>?_⟩
  obtain⟨n,pn,q,pos,rfl,hn⟩:=i_rng h
  simp only[Bool.and_eq_true,beq_iff_eq,Bool.not_eq_true'] at hn
  obtain⟨_,a2,_,a4,_⟩:=iha.1 X q ok hn.2
  exact⟨si_rng hn.1.1.1 (gl_of hn.1.1.2) (ok.blt _ (by simp[bltNames])) a4 (a2 hn.1.2),rfl⟩
 | rng2 a b iha ihb =>
  refine⟨noE λN sc p=>rfl,noA λrd N sc ps=>rfl,λX rd tg p ok h=>?_⟩
  obtain⟨n,pn,q,r,pos,rfl,hn⟩:=i_rng2 h
  simp only[Bool.and_eq_true,beq_iff_eq,Bool.not_eq_true'] at hn
  obtain⟨_,a2,_,a4,_⟩:=iha.1 X q ok hn.1.2
  obtain⟨_,b2,_,b4,_⟩:=ihb.1 X r ok hn.2
  exact⟨si_rng2 hn.1.1.1.1.1 (gl_of hn.1.1.1.1.2) (ok.blt _ (by simp[bltNames])) a4 b4 (a2 hn.1.1.1.2) (b2 hn.1.1.2),rfl⟩
 | enum a iha =>
  refine⟨noE λN sc p=>rfl,noA λrd N sc ps=>rfl,λX rd tg p ok h=>?_⟩
  obtain⟨n,pn,q,pos,rfl,hn⟩:=i_enum h
  simp only[Bool.and_eq_true,beq_iff_eq,Bool.not_eq_true',Bool.or_eq_true] at hn
  obtain⟨a1,a2,_,a4,_⟩:=iha.1 X q ok hn.2
  cases tg with
  | Tuple es kk tpos =>
   refine⟨si_enum hn.1.1.1.1 (gl_of hn.1.1.1.2) (ok.blt _ (by simp[bltNames])) a4 a1 λz=>a2 ?_,rfl⟩
   rcases hn.1.2 with q | q
   ·rw[z] at q;cases q
   ·exact q
  | _=>exact absurd hn.1.1.2 (by simp[isTupX])
end
section
variable (Tx:Txt)
noncomputable def isCallE:E→Bool
 | .call _ _=>true
 | _=>false
noncomputable def vR (G:Str→Expr→Str→Str→Expr→Bool):Expr→Bool
 | .Call (.Name n _) [p,.Name n1 _,.Name n2 _,q] [] _=>G n p n1 n2 q
 | _=>false
noncomputable def vO (neg:Bool) (G:Expr→Bool) (C:Expr→Bool):Expr→Bool
 | .UnaryOp .Not p _=>neg&&G p
 | .BoolOp .Or [c,p] _=>!neg&&G p&&C c
 | _=>false
noncomputable def mRf (neg:Bool) (c:E) (f:Nat) (x:E) (i j:Nat) (y:E) (N:List Str) (sc:Scope):Expr→Bool :=
 vO neg (vR λn p n1 n2 q=>Tx.dm.contains (f,n)&&glB sc n&&dbgB n&&nameB N sc i n1&&nameB N sc j n2&&!isRd x&&!isRd y&&mE Tx x N sc p&&mE Tx y N sc q) (mE Tx c N sc)
mutual
noncomputable def mB:S→List Str→Scope→List Stmt→Bool
 | .nil,_,_,[]=>true
 | .cons (.sealed _) r,N,sc,ps=>mB r N sc ps
 | .cons a r,N,sc,p::ps=>mS a N sc p&&mB r N sc ps
 | _,_,_,_=>false
termination_by structural x=>x
noncomputable def mS:S→List Str→Scope→Stmt→Bool
 | .ret x,N,sc,.Return (some p) _=>!isRd x&&mE Tx x N sc p
 | .retO i,N,sc,.Return (some (.Name n _)) _=>nameB N sc i n
 | .asg g x,N,sc,.Assign [tg] p _=>!isRd x&&mG false N sc g tg&&mE Tx x N sc p&&((notComp p&&notTup p)||(match g,tg with | .one _,.Name _ _=>true | _,_=>false))
 | .asgO i x,N,sc,.Assign [.Name n pn] p _=>!isRd x&&mG false N sc (.one i) (.Name n pn)&&mE Tx x N sc p
 | .ite c a b,N,sc,.If p ps qs _=>mE Tx c N sc p&&mB a N sc ps&&mB b N sc qs
 | .forS g src b,N,sc,.For tg p ps [] _=>mI Tx src false N sc tg p&&mG false N sc g tg&&mB b N sc ps
 | .app i x,N,sc,p=>vM (λn nm apos cpos=>v1 λq=>nameB N sc i n&&(nm == "append")&&(apos.endLine==cpos.line)&&!isRd x&&mE Tx x N sc q) p
 | .ext i x,N,sc,p=>vM (λn nm apos cpos=>v1 λq=>nameB N sc i n&&(nm == "extend")&&(apos.endLine==cpos.line)&&!isRd x&&mE Tx x N sc q) p
 | .never,_,_,_=>true
 | .exp x,N,sc,.Expr p _=>isCallE x&&mE Tx x N sc p
 | .newD i,N,sc,p=>vA (λtg v=>vN (λn pn=>vD v&&mG false N sc (.one i) (.Name n pn)) tg) p
 | .newT i,N,sc,p=>vA (λtg v=>vN (λn pn=>vD v&&mG false N sc (.one i) (.Name n pn)) tg) p
 | .dputV i y x,N,sc,p=>vA (λtg v=>vX (λn q=>nameB N sc i n&&notComp v&&!isRd y&&mE Tx y N sc q&&!isRd x&&mE Tx x N sc v) tg) p
 | .asgN i x,N,sc,.Assign [.Name n pn] p _=>notComp p&&!isRd x&&mG false N sc (.one i) (.Name n pn)&&mE Tx x N sc p
 | .dputR i y x,N,sc,p=>vA (λtg v=>vX (λn q=>nameB N sc i n&&notComp v&&!isRd y&&mE Tx y N sc q&&!isRd x&&mE Tx x N sc v) tg) p
 | .extN i j,N,sc,p=>vM (λn nm apos cpos=>v1 λq=>vN (λm _=>nameB N sc i n&&(nm == "extend")&&(apos.endLine==cpos.line)&&nameB N sc j m) q) p
 | .retR x _ _,N,sc,.Return (some p) _=>!isRd x&&mE Tx x N sc p
 | .ifR neg c f x i j y a b,N,sc,.If p ps qs _=>mRf Tx neg c f x i j y N sc p&&mB a N sc ps&&mB b N sc qs
 | _,_,_,_=>false
termination_by structural x=>x
end
end
set_option genInjectivity false in
structure OkS (T:Tab) (cf:Nat→List D→Res D) (Tx:Txt) (X:Cx):Prop where
 ok:OkX T cf Tx X
 xe:X.xe=λ_ _=>False
 fn:∀n,X.fn n=true
section
variable {T:Tab} {cf:Nat→List D→Res D} {Tx:Txt} {X:Cx}
theorem OkS.pass (o:OkS T cf Tx X):PassesOwn (model X.prog X.w) X.A X.env X.xe:=by rw[o.xe];exact PassesOwn.never
noncomputable def PSx (T:Tab) (cf:Nat→List D→Res D) (Tx:Txt) (x:S):Prop:=∀X p,OkS T cf Tx X→mS Tx x X.N X.env.scope p=true→SS T cf X x p
noncomputable def PBx (T:Tab) (cf:Nat→List D→Res D) (Tx:Txt) (x:S):Prop:=∀X ps,OkS T cf Tx X→mB Tx x X.N X.env.scope ps=true→SB T cf X x ps
theorem noB {x:S} (h:∀N sc ps,mB Tx x N sc ps=false):PBx T cf Tx x:=λX ps _ m=>by rw[h] at m;cases m
theorem noS {x:S} (h:∀N sc p,mS Tx x N sc p=false):PSx T cf Tx x:=λX ps _ m=>by rw[h] at m;cases m
theorem vR_of {G:Str→Expr→Str→Str→Expr→Bool} {p:Expr} (h:vR G p=true):∃n pn q1 n1 p1 n2 p2 q2 pos,p=.Call (.Name n pn) [q1,.Name n1 p1,.Name n2 p2,q2] [] pos∧G n q1 n1 n2 q2=true:=by
 unfold vR at h
 split at h
 ·exact⟨_,_,_,_,_,_,_,_,_,rfl,h⟩
 ·cases h
theorem vO_of {neg:Bool} {G C:Expr→Bool} {p:Expr} (h:vO neg G C p=true):(∃q pos,p=.UnaryOp .Not q pos∧neg=true∧G q=true)∨∃c q pos,p=.BoolOp .Or [c,q] pos∧neg=false∧G q=true∧C c=true:=by
 unfold vO at h
 split at h
 ·rw[Bool.and_eq_true] at h;exact .inl ⟨_,_,rfl,h.1,h.2⟩
 ·rw[Bool.and_eq_true,Bool.and_eq_true,Bool.not_eq_true'] at h;exact .inr ⟨_,_,_,rfl,h.1.1,h.1.2,h.2⟩
 ·cases h
theorem x_comp {x:E} {N:List Str} {sc:Scope} {p:Expr} (hp:notComp p=false) (h:mE Tx x N sc p=true):∃own caps g elt src cond,x=.comp own caps g elt src cond:=by
 cases x with
 | comp own caps g elt src cond=>exact⟨_,_,_,_,_,_,rfl⟩
 | var i=>obtain⟨n,pos,rfl,_⟩:=i_var h;cases hp
 | rd i=>obtain⟨n,pos,rfl,_⟩:=i_rd h;cases hp
 | con d=>obtain⟨c,k,pos,rfl,_⟩:=i_con h;cases hp
 | glob d=>obtain⟨c,pos,rfl,_⟩:=i_glob h;cases hp
 | bin o a b=>obtain⟨c,_,pos,rfl,_⟩:=i_bin h;cases hp
 | cmp o a b=>obtain⟨c,_,pos,rfl,_⟩:=i_cmp h;cases hp
 | and a b=>obtain⟨c,_,_,pos,rfl,_⟩:=i_and h;cases hp
 | not a=>obtain⟨c,pos,rfl,_⟩:=i_not h;cases hp
 | ife c a b=>obtain⟨c,_,_,pos,rfl,_⟩:=i_ife h;cases hp
 | ix a b=>obtain⟨c,_,pos,rfl,_⟩:=i_ix h;cases hp
 | sl a b c=>obtain⟨c,_,_,_,pos,rfl,_⟩:=i_sl h;cases hp
 | tup a=>obtain⟨c,_,pos,rfl,_⟩:=i_tup h;cases hp
 | lst a=>obtain⟨c,pos,rfl,_⟩:=i_lst h;cases hp
 | call f a=>obtain⟨c,_,_,pos,rfl,_⟩:=i_call h;cases hp
 | dck a=>obtain⟨c,_,_,pos,rfl,_⟩:=i_dck h;cases hp
 | srt a=>obtain⟨c,_,_,pos,rfl,_⟩:=i_srt h;cases hp
 | bt f a=>obtain⟨c,_,_,_,pos,rfl,_⟩:=i_bt h;cases hp
 | neg a=>obtain⟨c,pos,rfl,_⟩:=i_neg h;cases hp
 | _=>exact nof h
theorem i_newD {i:Nat} {N:List Str} {sc:Scope} {p:Stmt} (h:mS Tx (.newD i) N sc p=true):∃n pn dpos pos,p=.Assign [.Name n pn] (.Dict [] [] dpos) pos∧mG false N sc (.one i) (.Name n pn)=true:=by
 obtain⟨tg,v,pos,rfl,g1⟩:=vA_of h
 obtain⟨n,pn,rfl,g2⟩:=vN_of g1
 obtain⟨h1,h2⟩:=and2 g2
 obtain⟨dpos,rfl⟩:=vD_of h1
 exact⟨n,pn,dpos,pos,rfl,h2⟩
theorem i_newT {i:Nat} {N:List Str} {sc:Scope} {p:Stmt} (h:mS Tx (.newT i) N sc p=true):∃n pn dpos pos,p=.Assign [.Name n pn] (.Dict [] [] dpos) pos∧mG false N sc (.one i) (.Name n pn)=true:=by
 obtain⟨tg,v,pos,rfl,g1⟩:=vA_of h
 obtain⟨n,pn,rfl,g2⟩:=vN_of g1
 obtain⟨h1,h2⟩:=and2 g2
 obtain⟨dpos,rfl⟩:=vD_of h1
 exact⟨n,pn,dpos,pos,rfl,h2⟩
theorem i_asgN {i:Nat} {x:E} {N:List Str} {sc:Scope} {p:Stmt} (h:mS Tx (.asgN i x) N sc p=true):∃n pn v pos,p=.Assign [.Name n pn] v pos∧(notComp v&&!isRd x&&mG false N sc (.one i) (.Name n pn)&&mE Tx x N sc v)=true:=by
 cases p with
 | Assign tgs v pos =>
  rcases tgs with _ | ⟨tg,_ | ⟨t2,tgs⟩⟩
  ·exact nof h
  ·cases tg with
   | Name n pn=>exact⟨n,pn,v,pos,rfl,h⟩
   | _=>exact nof h
  ·cases tg<;>exact nof h
 | _=>exact nof h
theorem mG_name {i:Nat} {n:Str} {pos:Pos} (o:OkS T cf Tx X) (h:mG false X.N X.env.scope (.one i) (.Name n pos)=true):X.N[i]?=some n∧Loc X.env.scope n∧(X.fn n=true∨X.env.scope.names.lookup n=some .local):=by
 change (_&&(_||_))=true at h
 simp only[Bool.and_eq_true,Bool.or_eq_true,beq_iff_eq,Bool.not_eq_true',Bool.not_false,true_and] at h
 exact⟨h.1,h.2,.inl (o.fn n)⟩
theorem asg_comp {i:Nat} {n:Str} {pos pos':Pos} {x:E} {p:Expr} (b:Bool) (o:OkS T cf Tx X) (hp:notComp p=false) (h1:mG false X.N X.env.scope (.one i) (.Name n pos)=true) (h2:mE Tx x X.N X.env.scope p=true):SS T cf X (if b then .asgO i x else .asg (.one i) x) (.Assign [.Name n pos] p pos'):=by
 obtain⟨own,caps,g,elt,src,cond,rfl⟩:=x_comp hp h2
 obtain⟨pe,tg,iter,ifs,scope,pos2,rfl,a2,a3,a4,a5,a6,a7,a8,a9,a10,a11,a12⟩:=i_comp h2
 obtain⟨c1,c2,c3,c4,c5⟩:=comp_parts o.ok (wholeE elt).1 (wholeE src).2.2 (wholeE cond).1 a2 a3 a4 a5 a6 a8 a9 a10 a11 a12
 obtain⟨n1,n2,n3⟩:=mG_name o h1
 exact ss_asg_comp o.ok.nd n1 n2 n3 o.ok.calm c1 c2 a7 c3 c4 b c5
theorem i_app {i:Nat} {x:E} {N:List Str} {sc:Scope} {p:Stmt} (h:mS Tx (.app i x) N sc p=true):∃n px nm apos q cpos pos,p=.Expr (.Call (.Attribute (.Name n px) nm apos) [q] [] cpos) pos∧(nameB N sc i n&&(nm == "append")&&(apos.endLine==cpos.line)&&!isRd x&&mE Tx x N sc q)=true:=by
 obtain⟨n,px,nm,apos,es,cpos,pos,rfl,g1⟩:=vM_of h
 obtain⟨q,rfl,g2⟩:=v1_of g1
 exact⟨n,px,nm,apos,q,cpos,pos,rfl,g2⟩
theorem i_ext {i:Nat} {x:E} {N:List Str} {sc:Scope} {p:Stmt} (h:mS Tx (.ext i x) N sc p=true):∃n px nm apos q cpos pos,p=.Expr (.Call (.Attribute (.Name n px) nm apos) [q] [] cpos) pos∧(nameB N sc i n&&(nm == "extend")&&(apos.endLine==cpos.line)&&!isRd x&&mE Tx x N sc q)=true:=by
 obtain⟨n,px,nm,apos,es,cpos,pos,rfl,g1⟩:=vM_of h
 obtain⟨q,rfl,g2⟩:=v1_of g1
 exact⟨n,px,nm,apos,q,cpos,pos,rfl,g2⟩
theorem i_dputV {i:Nat} {y x:E} {N:List Str} {sc:Scope} {p:Stmt} (h:mS Tx (.dputV i y x) N sc p=true):∃n px q tpos v pos,p=.Assign [.Subscript (.Name n px) q tpos] v pos∧(nameB N sc i n&&notComp v&&!isRd y&&mE Tx y N sc q&&!isRd x&&mE Tx x N sc v)=true:=by
 obtain⟨tg,v,pos,rfl,g1⟩:=vA_of h
 obtain⟨n,px,q,tpos,rfl,g2⟩:=vX_of g1
 exact⟨n,px,q,tpos,v,pos,rfl,g2⟩
theorem ss_asg1 {i:Nat} {n:Str} {x:E} {p:Expr} {pos pos':Pos} (hx:notComp p=true) (hN:X.N.Nodup) (hi:X.N[i]?=some n) (hl:Loc X.env.scope n) (hf:X.fn n=true∨X.env.scope.names.lookup n=some .local) (h:SE T cf X x p):SS T cf X (.asg (.one i) x) (.Assign [.Name n pos'] p pos):=λH₀ O₀=>by
 refine PS.imp (λD' σ H hq=>?_) (ps_set hN hi hl (h H₀ O₀) (swaps_no hx) hf)
 obtain⟨ts,e,out,⟨O,own,F,tt⟩,ev,k⟩:=hq
 rw[xS_asg] at ev
 obtain⟨d,e1,ev⟩:=Res.bind_ok ev
 obtain⟨e2,e3,ev⟩:=Res.bind_ok ev
 cases ev
 cases e3
 exact⟨O,own,e,d,F,e1,λv H' s' r n=>k _ H' ⟨O,_,(F.grow s').setV i r,λt ht=>(tt t ht).same s'⟩⟩
theorem wholeS:∀x:S,PSx T cf Tx x∧PBx T cf Tx x:=by
 intro x
 induction x with
 | nil =>
  refine⟨noS λN sc p=>rfl,λX ps o h=>?_⟩
  cases ps with
  | nil=>exact sb_nil
  | cons _ _=>exact nof h
 | cons a r iha ihr =>
  refine⟨noS λN sc p=>rfl,λX ps o h=>?_⟩
  by_cases hs:∃i,a=.sealed i
  ·obtain⟨i,rfl⟩:=hs
   exact sb_seal (ihr.2 X ps o h)
  ·cases ps with
   | nil =>
    exfalso
    cases a<;>first | (exact hs ⟨_,rfl⟩) | exact nof h
   | cons p ps =>
    have h':(mS Tx a X.N X.env.scope p&&mB Tx r X.N X.env.scope ps)=true:=by
     cases a<;>first | (exact absurd ⟨_,rfl⟩ hs) | exact h
    rw[Bool.and_eq_true] at h'
    exact sb_cons (iha.1 X p o h'.1) (ihr.2 X ps o h'.2)
 | ret x =>
  refine⟨λX p o h=>?_,noB λN sc ps=>rfl⟩
  cases p with
  | Return v pos=>cases v with
   | some p =>
    change (_&&_)=true at h;simp only[Bool.and_eq_true,Bool.not_eq_true'] at h
    exact ss_ret (((wholeE x).1 X p o.ok h.2).2.1 h.1)
   | none=>exact nof h
  | _=>exact nof h
 | retO i =>
  refine⟨λX p o h=>?_,noB λN sc ps=>rfl⟩
  cases p with
  | Return v pos=>cases v with
   | some p=>cases p with
    | Name n pn =>
     obtain⟨a1,a2,a3,a4⟩:=name_of h
     exact ss_retO a1 a2 a3 a4
    | _=>exact nof h
   | none=>exact nof h
  | _=>exact nof h
 | asg g x =>
  refine⟨λX p o h=>?_,noB λN sc ps=>rfl⟩
  cases p with
  | Assign tgs p pos =>
   rcases tgs with _ | ⟨tg,_ | ⟨t2,tgs⟩⟩
   ·exact nof h
   ·change (_&&_)=true at h;simp only[Bool.and_eq_true,Bool.not_eq_true',Bool.or_eq_true] at h
    obtain⟨⟨⟨h1,h2⟩,h3⟩,h4⟩:=h
    obtain⟨g1,g2⟩:=sg_of o.ok.calm o.ok.nd (λn _=>o.fn n) h2
    by_cases hc:notComp p=true
    ·by_cases ht:notTup p=true
     ·exact ss_asg hc ht g2 (((wholeE x).1 X p o.ok h3).2.1 h1) g1
     ·rcases h4 with z | z
      ·exact absurd z.2 ht
      ·cases g with
       | one i=>cases tg with
        | Name n pn =>
         obtain⟨n1,n2,n3⟩:=mG_name o h2
         exact ss_asg1 hc o.ok.nd n1 n2 n3 (((wholeE x).1 X p o.ok h3).2.1 h1)
        | _=>cases z
       | many _=>cases z
    ·have hc':notComp p=false:=by simpa using hc
     rcases h4 with z | z
     ·exact absurd z.1 hc
     ·cases g with
      | one i=>cases tg with
       | Name n pn=>exact asg_comp false o hc' h2 h3
       | _=>cases z
      | many _=>cases z
   ·exact nof h
  | _=>exact nof h
 | asgO i x =>
  refine⟨λX p o h=>?_,noB λN sc ps=>rfl⟩
  cases p with
  | Assign tgs p pos =>
   rcases tgs with _ | ⟨tg,_ | ⟨t2,tgs⟩⟩
   ·exact nof h
   ·cases tg with
    | Name n pn =>
     change (_&&_)=true at h;simp only[Bool.and_eq_true,Bool.not_eq_true'] at h
     obtain⟨⟨h1,h2⟩,h3⟩:=h
     by_cases hc:notComp p=true
     ·obtain⟨n1,n2,n3⟩:=mG_name o h2
      exact ss_asgO hc o.ok.nd n1 n2 n3 (((wholeE x).1 X p o.ok h3).2.1 h1)
     ·exact asg_comp true o (by simpa using hc) h2 h3
    | _=>exact nof h
   ·cases tg<;>exact nof h
  | _=>exact nof h
 | «sealed» i=>exact⟨noS λN sc p=>rfl,noB λN sc ps=>rfl⟩
 | ite c a b iha ihb =>
  refine⟨λX p o h=>?_,noB λN sc ps=>rfl⟩
  cases p with
  | If p ps qs pos =>
   change (_&&_)=true at h;simp only[Bool.and_eq_true] at h
   exact ss_ite ((wholeE c).1 X p o.ok h.1.1).2.2.1 (iha.2 X ps o h.1.2) (ihb.2 X qs o h.2)
  | _=>exact nof h
 | forS g src b ihb =>
  refine⟨λX p o h=>?_,noB λN sc ps=>rfl⟩
  cases p with
  | For tg p ps qs pos=>cases qs with
   | nil =>
    change (_&&_)=true at h;simp only[Bool.and_eq_true] at h
    have hg:=(sg_of o.ok.calm o.ok.nd (λn _=>o.fn n) h.1.2).1
    obtain⟨s1,s2⟩:=(wholeE src).2.2 X false tg p o.ok h.1.1
    exact ss_for o.pass o.ok.calm s2 s1 hg (ihb.2 X ps o h.2)
   | cons _ _=>exact nof h
  | _=>exact nof h
 | app i x =>
  refine⟨λX p o h=>?_,noB λN sc ps=>rfl⟩
  obtain⟨n,px,nm,apos,q,cpos,pos,rfl,hn⟩:=i_app h
  simp only[Bool.and_eq_true,beq_iff_eq,Bool.not_eq_true'] at hn
  obtain⟨a1,a2,a3,a4⟩:=name_of hn.1.1.1.1
  obtain⟨_,b2,_,b4,_⟩:=(wholeE x).1 X q o.ok hn.2
  exact ss_app a1 a2 a3 a4 hn.1.1.1.2 (by simpa using hn.1.1.2) b4 (b2 hn.1.2)
 | ext i x =>
  refine⟨λX p o h=>?_,noB λN sc ps=>rfl⟩
  obtain⟨n,px,nm,apos,q,cpos,pos,rfl,hn⟩:=i_ext h
  simp only[Bool.and_eq_true,beq_iff_eq,Bool.not_eq_true'] at hn
  obtain⟨a1,a2,a3,a4⟩:=name_of hn.1.1.1.1
  obtain⟨_,b2,_,b4,_⟩:=(wholeE x).1 X q o.ok hn.2
  exact ss_ext a1 a2 a3 a4 hn.1.1.1.2 (by simpa using hn.1.1.2) b4 (b2 hn.1.2)
 | never =>
  exact⟨λX p o h=>ss_never,noB λN sc ps=>rfl⟩
 | exp x =>
  refine⟨λX p o h=>?_,noB λN sc ps=>rfl⟩
  cases p with
  | Expr q pos =>
   change (_&&_)=true at h;simp only[Bool.and_eq_true] at h
   cases x with
   | call f a =>
    have b:=((wholeE (.call f a)).1 X q o.ok h.2).2.1 rfl
    obtain⟨c,_,_,pos2,rfl,_⟩:=i_call h.2
    exact ss_exp rfl b
   | _=>exact nof h.1
  | _=>exact nof h
 | newD i =>
  refine⟨λX p o h=>?_,noB λN sc ps=>rfl⟩
  obtain⟨n,pn,dpos,pos,rfl,hn⟩:=i_newD h
  obtain⟨n1,n2,n3⟩:=mG_name o hn
  exact ss_newD o.ok.nd n1 n2 n3
 | newT i =>
  refine⟨λX p o h=>?_,noB λN sc ps=>rfl⟩
  obtain⟨n,pn,dpos,pos,rfl,hn⟩:=i_newT h
  obtain⟨n1,n2,n3⟩:=mG_name o hn
  exact ss_newT o.ok.nd n1 n2 n3
 | dputR i y x =>
  refine⟨λX p o h=>?_,noB λN sc ps=>rfl⟩
  obtain⟨tg,v,pos,rfl,g1⟩:=vA_of h
  obtain⟨n,px,q,tpos,rfl,hn⟩:=vX_of g1
  simp only[Bool.and_eq_true,Bool.not_eq_true'] at hn
  obtain⟨⟨⟨⟨⟨h1,h2⟩,h3⟩,h4⟩,h5⟩,h6⟩:=hn
  obtain⟨a1,a2,a3,a4⟩:=name_of h1
  exact ss_dputR o.ok.roomy a1 a2 a3 a4 h2 (((wholeE y).1 X q o.ok h4).2.1 h3) (((wholeE x).1 X v o.ok h6).2.1 h5)
 | extN i j =>
  refine⟨λX p o h=>?_,noB λN sc ps=>rfl⟩
  obtain⟨n,px,nm,apos,es,cpos,pos,rfl,g1⟩:=vM_of h
  obtain⟨q,rfl,g2⟩:=v1_of g1
  obtain⟨m,pm,rfl,hn⟩:=vN_of g2
  simp only[Bool.and_eq_true,beq_iff_eq] at hn
  obtain⟨⟨⟨h1,h2⟩,h3⟩,h4⟩:=hn
  obtain⟨a1,a2,a3,a4⟩:=name_of h1
  exact ss_extN a1 a2 a3 a4 h2 (by rw[beq_iff_eq];exact h3) (name_of h4)
 | retR x i j =>
  refine⟨λX p o h=>?_,noB λN sc ps=>rfl⟩
  cases p with
  | Return v pos=>cases v with
   | some p =>
    change (_&&_)=true at h;simp only[Bool.and_eq_true,Bool.not_eq_true'] at h
    exact ss_retR (((wholeE x).1 X p o.ok h.2).2.1 h.1)
   | none=>exact nof h
  | _=>exact nof h
 | ifR neg c f x i j y a b iha ihb =>
  refine⟨λX p o h=>?_,noB λN sc ps=>rfl⟩
  cases p with
  | If p ps qs pos =>
   change (_&&_&&_)=true at h
   rw[Bool.and_eq_true,Bool.and_eq_true] at h
   have sa:=iha.2 X ps o h.1.2
   have sb:=ihb.2 X qs o h.2
   have go:∀p,vR (λn p n1 n2 q=>Tx.dm.contains (f,n)&&glB X.env.scope n&&dbgB n&&nameB X.N X.env.scope i n1&&nameB X.N X.env.scope j n2&&!isRd x&&!isRd y&&mE Tx x X.N X.env.scope p&&mE Tx y X.N X.env.scope q) p=true→∃n pn q1 n1 p1 n2 p2 q2 pos,p=.Call (.Name n pn) [q1,.Name n1 p1,.Name n2 p2,q2] [] pos∧DefAny T cf X f n∧Gl X n∧(n==("__debug__" : Str))=false∧plainX q1=true∧plainX q2=true ∧
    (X.N[i]?=some n1∧Vis X.env.scope n1∧(n1==("__debug__" : Str))=false∧(n1==("__classdict__" : Str))=false)∧(X.N[j]?=some n2∧Vis X.env.scope n2∧(n2==("__debug__" : Str))=false∧(n2==("__classdict__" : Str))=false)∧SE T cf X x q1∧SE T cf X y q2:=by
    intro p hp
    obtain⟨n,pn,q1,n1,p1,n2,p2,q2,pos,rfl,hn⟩:=vR_of hp
    simp only[Bool.and_eq_true,Bool.not_eq_true'] at hn
    obtain⟨⟨⟨⟨⟨⟨⟨⟨h1,h2⟩,h3⟩,h4⟩,h5⟩,h6⟩,h7⟩,h8⟩,h9⟩:=hn
    obtain⟨_,x2,_,x4,_⟩:=(wholeE x).1 X q1 o.ok h8
    obtain⟨_,y2,_,y4,_⟩:=(wholeE y).1 X q2 o.ok h9
    exact⟨n,pn,q1,n1,p1,n2,p2,q2,pos,rfl,o.ok.dm (f,n) (List.contains_iff_mem.mp h1),gl_of h2,dbg_of h3,x4,y4,name_of h4,name_of h5,x2 h6,y2 h7⟩
   rcases vO_of h.1.1 with ⟨p',pos',rfl,rfl,g⟩ | ⟨c',p',pos',rfl,rfl,g,gc⟩
   ·obtain⟨n,pn,q1,n1,p1,n2,p2,q2,pos2,rfl,d1,d2,d3,d4,d5,d6,d7,d8,d9⟩:=go p' g
    exact ss_ifN d1 d2 d3 d4 d5 d6 d7 d8 d9 sa sb
   ·obtain⟨n,pn,q1,n1,p1,n2,p2,q2,pos2,rfl,d1,d2,d3,d4,d5,d6,d7,d8,d9⟩:=go p' g
    exact ss_ifC d1 d2 d3 d4 d5 d6 d7 ((wholeE c).1 X c' o.ok gc).2.2.1 d8 d9 sa sb
  | _=>exact nof h
 | dputV i y x =>
  refine⟨λX p o h=>?_,noB λN sc ps=>rfl⟩
  obtain⟨n,px,q,tpos,v,pos,rfl,hn⟩:=i_dputV h
  simp only[Bool.and_eq_true,Bool.not_eq_true'] at hn
  obtain⟨⟨⟨⟨⟨h1,h2⟩,h3⟩,h4⟩,h5⟩,h6⟩:=hn
  obtain⟨a1,a2,a3,a4⟩:=name_of h1
  exact ss_dputV o.ok.roomy a1 a2 a3 a4 h2 (((wholeE y).1 X q o.ok h4).2.1 h3) (((wholeE x).1 X v o.ok h6).2.1 h5)
 | asgN i x =>
  refine⟨λX p o h=>?_,noB λN sc ps=>rfl⟩
  obtain⟨n,pn,v,pos,rfl,hn⟩:=i_asgN h
  simp only[Bool.and_eq_true,Bool.not_eq_true'] at hn
  obtain⟨n1,n2,n3⟩:=mG_name o hn.1.2
  cases hv:isVar x with
  | none=>exact ss_asgN hn.1.1.1 o.ok.nd n1 n2 n3 hv (((wholeE x).1 X v o.ok hn.2).2.1 hn.1.1.2)
  | some j =>
   cases x with
   | var j =>
    obtain⟨m,pm,rfl,hm⟩:=i_var hn.2
    obtain⟨a1,a2,a3,a4⟩:=name_of hm
    exact ss_asgNv o.ok.nd n1 n2 n3 a1 a2 a3 a4
   | _=>cases hv
end
end Tr
namespace Tr
open PySem PySem.Spec PyProof.Rows L2 PySem.W
section
variable {T:Tab} {cf:Nat→List D→Res D} {Tx:Txt}
end
end Tr
namespace Tr
open PySem PySem.Spec PyProof.Rows L2
set_option genInjectivity false in
structure DefT where
 nm:Str
 st:Stmt
 N:List Str
 ps:List Str
 body:S
 told:Option Told:=none
noncomputable def DefT.df (t:DefT):Df:=⟨t.N.length,t.ps.length,t.body,t.told⟩
noncomputable def fnScB (N P:List Str) (sc:Scope):Bool:=(sc.kind==.function)&&!sc.isCoroutine&&!sc.isGenerator&&nodupB N&&(N.take P.length==P)&&P.all (λx=>(sc.names.lookup x==some .local)||(sc.names.lookup x==some .cell))&&sc.names.all (λy=>!(y.2==.free))
theorem fnSc_of {N P:List Str} {sc:Scope} (h:fnScB N P sc=true):FnScope N P sc:=by
 simp only[fnScB,Bool.and_eq_true,List.all_eq_true,Bool.or_eq_true,Bool.not_eq_true',beq_iff_eq,beq_eq_false_iff_ne,ne_eq] at h
 obtain⟨⟨⟨⟨⟨⟨h1,h2⟩,h3⟩,h4⟩,h5⟩,h6⟩,h7⟩:=h
 exact⟨h1,h2,h3,nodup_of h4,h5,h6,h7⟩
noncomputable def DefT.okB (Tx:Txt) (t:DefT):Bool:=fnScB t.N t.ps (defScope t.st)&&(t.told.isSome||mB Tx t.body t.N (defScope t.st) (defBody t.st))
noncomputable def GlobK (K:PySem.W.Frag) (mg:Str→Option Value) (n:Str) (d:D):Prop:=∃v u,mg n=some u∧RelV v u∧∀H O,RD K H O d v
noncomputable def initB (f:Str) (ps N:List Str) (st:Stmt):Bool:=fnScB N ps (defScope st)&&(ps.length==2)&&(match defBody st with
 | [.Assign [.Attribute (.Name s _) g _] (.Name x _) _]=>(g==f)&&nameB N (defScope st) 0 s&&nameB N (defScope st) 1 x
 | _=>false)
noncomputable def IniK (K:PySem.W.Frag) (mg:Str→Option Value) (c:Str):Prop:=∃(C fI:Addr) (fd:FuncData) (ps N:List Str) (qual:Str) (st:Stmt),mg c=some (.ref C)∧cvK K c=.ref C∧InitCls K C fI "at" ∧ PySem.W.isFn K (.ref fI)=true∧Fun K "__init__" qual st fI fd∧Binds K fd ps []∧initB "at" ps N st=true
structure TextOk0 (K:PySem.W.Frag) (mg:Str→Option Value) (T:Tab) (Tx:Txt) (defs:List DefT):Prop where
 dn:∀g nm,Tx.dn[g]?=some nm→T.mv g=none∧∃t,defs[g]?=some t∧nm=t.nm
 ok:defs.all (·.okB Tx)=true
 funs:∀t∈defs,∃f fd,Fun K t.nm t.nm t.st f fd∧mg t.nm=some (.ref f)∧Binds K fd t.ps []
 globs:∀g n,Tx.gn[g]?=some n→GlobK K mg n (T.glob g)
 blt:∀n∈bltNames,mg n=none
 tf:∀q∈Tx.tf,∃(a:Addr) (xs:List V),mg q.1=some (.ref a)∧(∀H,SqT K H a xs)∧xs.length=q.2.length∧∀(j f:Nat),q.2[j]?=some f→∃(ad:Addr) (t:DefT),xs[j]?=some (V.ref ad)∧mg t.nm=some (.ref ad)∧defs[f]?=some t
 ts:∀q∈Tx.ts,∃a:Addr,mg q.1=some (.ref a)∧ModS K a q.2
 cls:∀c∈Tx.cls,∃C,ClsIs K mg c C
 ini:∀c∈Tx.icl,IniK K mg c
 dm:∀q∈Tx.dm,∃t,defs[q.1]?=some t∧q.2=t.nm
 tmv:∀q∈Tx.tf,∀f∈q.2,T.mv f=none
noncomputable def ToldOk (K:PySem.W.Frag) (mg:Str→Option Value) (T:Tab) (defs:List DefT) (t:DefT):Prop:=∀(P:Program) (w:World) (base:Heap) (n i:Nat) (f:Addr) (fd:FuncData),defs[i]?=some t→Fun K t.nm t.nm t.st f fd →
 (∀i t,defs[i]?=some t→∀f fd,Fun K t.nm t.nm t.st f fd→FnOk P w K mg base (CXE P w) (n+2) f fd t.ps (spOf K T (callF T (defs.map DefT.df) n i) i)) →
 FnOk P w K mg base (CXE P w) (n+1+2) f fd t.ps (spD K (callF T (defs.map DefT.df) (n+1) i) (T.fresh i))
set_option genInjectivity false in
structure TextOk (K:PySem.W.Frag) (mg:Str→Option Value) (T:Tab) (Tx:Txt) (defs:List DefT):Prop extends TextOk0 K mg T Tx defs where
 told:∀t∈defs,∀td,t.told=some td→ToldOk K mg T defs t
 nmv:∀i t,defs[i]?=some t→t.told.isSome=true→T.mv i=none
theorem dn_of {T:Tab} {Tx:Txt} {defs:List DefT} (h1:(defs.take Tx.dn.length).map (·.nm)=Tx.dn) (h2:(List.range Tx.dn.length).all (λg=>(T.mv g).isNone)=true):∀g nm,Tx.dn[g]?=some nm→T.mv g=none∧∃t,defs[g]?=some t∧nm=t.nm:=λg nm h=>by
 have hl:g < Tx.dn.length:=by
  by_cases z:g < Tx.dn.length
  ·exact z
  ·rw[List.getElem?_eq_none (by lia)] at h;cases h
 refine⟨Option.isNone_iff_eq_none.mp (List.all_eq_true.mp h2 g (List.mem_range.mpr hl)),?_⟩
 rw[←h1,List.getElem?_map,List.getElem?_take_of_lt hl] at h
 cases e:defs[g]? with
 | none=>rw[e] at h;cases h
 | some t=>rw[e] at h;cases h;exact⟨t,rfl,rfl⟩
theorem okx_of {P:Program} {w:World} {K:PySem.W.Frag} {mg:Str→Option Value} {base:Heap} {T:Tab} {Tx:Txt} {defs:List DefT} (X:TextOk0 K mg T Tx defs) {n:Nat} {N:List Str} {nm:Str} {sc:Scope} {f:Addr} {cdv:Value} {A:Around} {outer:List Env} {s:Shared} {H:Hp} {E:XK} (hr:Room (n+2) (A.deeper (envOfC nm sc s.heap.objs.size f cdv))) (nd:N.Nodup)
 (ih:∀i t,defs[i]?=some t→∀f fd,Fun K t.nm t.nm t.st f fd→FnOk P w K mg base (CXE P w) (n+2) f fd t.ps (spOf K T (callF T (defs.map DefT.df) n i) i)) :
 OkX T (callF T (defs.map DefT.df) n) Tx (cxOf (CXE P w) P w K mg base N nm sc f cdv A outer s H E).nox:=by
 have dfa:∀g t',defs[g]?=some t'→DefAny T (callF T (defs.map DefT.df) n) (cxOf (CXE P w) P w K mg base N nm sc f cdv A outer s H E).nox g t'.nm:=λg t' e=>by
  obtain⟨f',fd',F',m',b'⟩:=X.funs t' (List.mem_of_getElem? e)
  exact⟨n+2,f',fd',t'.ps,ih g t' e f' fd' F',hr,m',F'.kp,b'⟩
 have dfi:∀g t',T.mv g=none→defs[g]?=some t'→DefIs T (callF T (defs.map DefT.df) n) (cxOf (CXE P w) P w K mg base N nm sc f cdv A outer s H E).nox g t'.nm:=λg t' hm e=>by
  obtain⟨k',f',fd',ps',h1,h2⟩:=dfa g t' e
  rw[spOf_none hm] at h1
  exact⟨k',f',fd',ps',h1,h2⟩
 exact⟨rfl,hr.units,λg nm hg=>by
  obtain⟨hm,t',e,rfl⟩:=X.dn g nm hg
  exact dfi g t' hm e,λg nm hg=>X.globs g nm hg,X.blt,nd,λq hq=>by
  obtain⟨a,xs,h1,h2,h3,h4⟩:=X.tf q hq
  refine⟨a,xs,h1,h2,h3,λj g hg=>?_⟩
  obtain⟨ad,t',h5,h6,h7⟩:=h4 j g hg
  exact⟨ad,t'.nm,h5,h6,dfi g t' (X.tmv q hq g (List.mem_of_getElem? hg)) h7⟩,X.ts,λq hq=>by
  obtain⟨t',e,e2⟩:=X.dm q hq
  rw[e2]
  exact dfa q.1 t' e⟩
theorem fun_okE {P:Program} {w:World} {K:PySem.W.Frag} {mg:Str→Option Value} {base:Heap} {x qual:Str} {st:Stmt} {f:Addr} {fd:FuncData} {N ps:List Str} {k:Nat} {sp:Sp} (F:Fun K x qual st f fd) (S:FnScope N ps (defScope st)) (len:∀vs H Q E,sp vs H Q E→vs.length=ps.length)
 (hbody:∀(cdv:Value) (A:Around) (outer:List Env) (s:Shared) (H:Hp) (vs:List V) (Q:VK) (E:XK),Room k (A.deeper (envOfC qual (defScope st) s.heap.objs.size f cdv))→sp vs H Q E →
  ∃t,PSs (cxOf (CXE P w) P w K mg base N qual (defScope st) f cdv A outer s H E) (defBody st) t∧t { nx:=λ_ H'=>Q .non H',rt:=Q } (start N vs) H):FnOk P w K mg base (CXE P w) (k+1) f fd ps sp:=by
 obtain⟨oc,od,kV,doc,pm,an,cdv,ct,osl,rfl,lk,hcd⟩:=F.ex
 exact fn_of lk hcd S len λA outer s H vs Q E hr hsp=>hbody cdv A outer s H vs Q E hr hsp
section
variable {P:Program} {w:World} {K:PySem.W.Frag} {mg:Str→Option Value} {base:Heap} {T:Tab} {Tx:Txt} {defs:List DefT}
theorem fm_start0 {H Hb:Hp} {O:Addr→Prop} {N:List Str} {ds:List D} {vs:List V} (sm:Same Hb H) (w:RDs K H O ds vs) (tr:∀a,O a→∃o,Hb a=some o) (n:Nat) (hn:n=N.length - vs.length) :
 Fm K Hb O H O (λ_=>none) (ds.map Sl.v++List.replicate n Sl.no) (start N vs) where
 len:=by
  unfold L2.start
  rw[List.length_append,List.length_append,List.length_map,List.length_map,List.length_replicate,List.length_replicate,w.length,hn,w.length]
 sl:=λi=>by
  by_cases hi:i < ds.length
  ·obtain⟨v,h1,h2⟩:=w.get (List.getElem?_eq_getElem hi)
   have e1:Nv.at (ds.map Sl.v++List.replicate n Sl.no) i=.v ds[i]:=by
    unfold Nv.at
    rw[List.getElem?_append_left (by rw[List.length_map];exact hi),List.getElem?_map,List.getElem?_eq_getElem hi];rfl
   have e2:stAt (start N vs) i=some v:=by
    unfold stAt L2.start
    rw[List.getElem?_append_left (by rw[List.length_map,w.length];exact hi),List.getElem?_map,h1];rfl
   rw[e1,e2]
   exact⟨v,rfl,h2⟩
  ·have e1:Nv.at (ds.map Sl.v++List.replicate n Sl.no) i=.no:=by
    unfold Nv.at
    rw[List.getElem?_append_right (by rw[List.length_map];lia),List.getElem?_replicate]
    split<;>rfl
   rw[e1];trivial
 inj:=λ_ _ _ h=>by cases h
 same:=sm
 sub:=λ_ h=>h
 trk0:=tr
 trk:=λa h=>let ⟨o,q⟩:=tr a h;⟨o,sm _ _ q⟩
 new:=λ_ _ h=>by cases h
 nw:=λi d a h _=>by
  exfalso
  by_cases hi:i < ds.length
  ·have e1:Nv.at (ds.map Sl.v++List.replicate n Sl.no) i=.v ds[i]:=by
    unfold Nv.at
    rw[List.getElem?_append_left (by rw[List.length_map];exact hi),List.getElem?_map,List.getElem?_eq_getElem hi];rfl
   rw[e1] at h;cases h
  ·have e1:Nv.at (ds.map Sl.v++List.replicate n Sl.no) i=.no:=by
    unfold Nv.at
    rw[List.getElem?_append_right (by rw[List.length_map];lia),List.getElem?_replicate]
    split<;>rfl
   rw[e1] at h;cases h
theorem fm_start {H:Hp} {O:Addr→Prop} {N:List Str} {ds:List D} {vs:List V} (w:RDs K H O ds vs) (tr:∀a,O a→∃o,H a=some o) (n:Nat) (hn:n=N.length - vs.length) :
 Fm K H O H O (λ_=>none) (ds.map Sl.v++List.replicate n Sl.no) (start N vs):=fm_start0 (Same.refl H) w tr n hn
theorem fm_startM {H Hb:Hp} {O:Addr→Prop} {N:List Str} {ds:List D} {vs:List V} (sm:Same Hb H) (w:RDs K H O ds vs) (tr:∀a,O a→∃o,Hb a=some o) (n:Nat) (hn:n=N.length - vs.length) {j:Nat} {d0:D} {v0:V} (h1:ds[j]?=some d0) (h2:vs[j]?=some v0) (h3:NV K H O d0 v0) (h4:∀a,v0=.ref a→Hb a=none) :
 ∃own,Fm K Hb O H O own (startE (some j) ds++List.replicate n Sl.no) (start N vs):=by
 have F:=(fm_start0 (N:=N) sm w tr n hn).setN j h3 h4
 have e1:(ds.map Sl.v++List.replicate n Sl.no).set j (.n d0)=startE (some j) ds++List.replicate n Sl.no:=by
  have hj:j < ds.length:=by
   by_cases z:j < ds.length
   ·exact z
   ·rw[List.getElem?_eq_none (by lia)] at h1;cases h1
  rw[List.set_append_left _ _ (by rw[List.length_map];exact hj)]
  show _=(ds.map Sl.v).set j (.n (ds.getD j .non))++_
  rw[List.getD_eq_getElem?_getD,h1];rfl
 have e2:(start N vs).set j (some v0)=start N vs:=by
  have q:(start N vs)[j]?=some (some v0):=by
   unfold L2.start
   have hj:j < vs.length:=by
    by_cases z:j < vs.length
    ·exact z
    ·rw[List.getElem?_eq_none (by lia)] at h2;cases h2
   rw[List.getElem?_append_left (by rw[List.length_map];exact hj),List.getElem?_map,h2];rfl
  apply List.ext_getElem?
  intro i
  by_cases z:j=i
  ·subst z
   obtain⟨hl,_⟩:=List.getElem?_eq_some_iff.mp q
   rw[List.getElem?_set_self hl,q]
  ·rw[List.getElem?_set_ne z]
 rw[e1,e2] at F
 exact⟨_,F⟩
noncomputable def hid2 (H:Hp) (a b:Addr):Hp:=λc=>if c=a∨c=b then none else H c
theorem hid2_ne {H:Hp} {a b c:Addr} (h1:c≠a) (h2:c≠b):hid2 H a b c=H c:=if_neg λz=>z.elim h1 h2
theorem fm_startR {H:Hp} {O:Addr→Prop} {N:List Str} {x y:D} {j k:List (Sum Int Str×D)} {v w:V} {a b:Addr} (ab:a≠b) (oa:O a) (ob:O b) (tr:∀c,O c→∃o,H c=some o) (rx:RD K H O x v) (ry:RD K H O y w) (ha:OwnAt K H O a (.dct j)) (hb:OwnAt K H O b (.dct k)) (n:Nat) (hn:n=N.length - 4) :
 Fm K (hid2 H a b) (λc=>O c∧c≠a∧c≠b) H O (λi=>if i=1 then some a else if i=2 then some b else none) ([.v x,.r a (.dct j),.r b (.dct k),.v y]++List.replicate n Sl.no) (start N [v,.ref a,.ref b,w]) where
 len:=by
  unfold L2.start
  rw[List.length_append,List.length_append,List.length_replicate,List.length_replicate,hn];rfl
 sl:=λi=>by
  match i with
  | 0=>exact⟨v,rfl,rx⟩
  | 1=>exact⟨rfl,rfl,ha⟩
  | 2=>exact⟨rfl,rfl,hb⟩
  | 3=>exact⟨w,rfl,ry⟩
  | i+4 =>
   have e1:Nv.at ([.v x,.r a (.dct j),.r b (.dct k),.v y]++List.replicate n Sl.no) (i+4)=.no:=by
    unfold Nv.at
    rw[List.getElem?_append_right (by show 4≤i+4;lia),List.getElem?_replicate]
    split<;>rfl
   rw[e1];trivial
 inj:=λi i' c h1 h2=>by
  split at h1<;>split at h2
  ·lia
  ·split at h2
   ·cases h1;cases h2;exact absurd rfl ab
   ·cases h2
  ·split at h1
   ·cases h1;cases h2;exact absurd rfl ab
   ·cases h1
  ·split at h1<;>split at h2
   ·lia
   ·cases h2
   ·cases h1
   ·cases h1
 same:=λc o q=>by
  unfold hid2 at q
  split at q
  ·cases q
  ·exact q
 sub:=λc h=>h.1
 trk0:=λc h=>by rw[hid2_ne h.2.1 h.2.2];exact tr c h.1
 trk:=tr
 new:=λi c h=>by
  split at h
  ·cases h;exact⟨oa,if_pos (.inl rfl)⟩
  ·split at h
   ·cases h;exact⟨ob,if_pos (.inr rfl)⟩
   ·cases h
 nw:=λi d c h _=>by
  exfalso
  match i with
  | 0=>cases h
  | 1=>cases h
  | 2=>cases h
  | 3=>cases h
  | i+4 =>
   have e1:Nv.at ([.v x,.r a (.dct j),.r b (.dct k),.v y]++List.replicate n Sl.no) (i+4)=.no:=by
    unfold Nv.at
    rw[List.getElem?_append_right (by show 4≤i+4;lia),List.getElem?_replicate]
    split<;>rfl
   rw[e1] at h;cases h
theorem defs_ok (X:TextOk K mg T Tx defs):∀n i t,defs[i]?=some t→∀f fd,Fun K t.nm t.nm t.st f fd→FnOk P w K mg base (CXE P w) (n+2) f fd t.ps (spOf K T (callF T (defs.map DefT.df) n i) i)
 | 0,i,t,hi,f,fd,F=>by
  have no:∀vs H Q E,¬spOf K T (callF T (defs.map DefT.df) 0 i) i vs H Q E:=λvs H Q E h=>by
   cases hmv:T.mv i with
   | none =>
    rw[spOf_none hmv] at h
    obtain⟨O,ds,_,_,⟨d,ev,_⟩ | ⟨c,d,ev,_⟩⟩:=h
    ·cases ev
    ·cases ev
   | some j =>
    by_cases hj:j=1000
    ·subst hj
     rw[spOf_ref hmv] at h
     obtain⟨_,_,_,_,_,_,_,_,_,_,_,_,_,_,_,_,ev,_⟩:=h
     cases ev
    ·rw[spOf_some hmv hj] at h
     obtain⟨O,ds,Hb,d0,v0,_,_,_,_,_,_,_,⟨d,ev,_⟩ | ⟨c,d,ev,_⟩⟩:=h
     ·cases ev
     ·cases ev
  exact⟨λvs H Q E h=>absurd h (no vs H Q E),λA outer s H args us vs Q E _ _ _ _ h=>absurd h (no vs H Q E)⟩
 | n+1,i,t,hi,f,fd,F=>by
  have ih:=defs_ok X n
  cases ht:t.told with
  | some td =>
   rw[spOf_none (X.nmv i t hi (by rw[ht];rfl))]
   exact X.told t (List.mem_of_getElem? hi) td ht P w base n i f fd hi F ih
  | none =>
  have hok:=List.all_eq_true.mp X.ok t (List.mem_of_getElem? hi)
  unfold DefT.okB at hok
  rw[ht,Option.isSome_none,Bool.false_or,Bool.and_eq_true] at hok
  have S:=fnSc_of hok.1
  have hdf:(defs.map DefT.df)[i]?=some ⟨t.N.length,t.ps.length,t.body,none⟩:=by rw[List.getElem?_map,hi];show some (DefT.df t)=_;unfold DefT.df;rw[ht]
  have lenOf:∀ds r,callF T (defs.map DefT.df) (n+1) i ds=r→r≠.no→ds.length=t.ps.length:=by
   intro ds r ev hr
   rw[callF,hdf] at ev
   by_cases c:(ds.length==t.df.pars)=true
   ·exact (by simpa using c:ds.length=t.df.pars)
   ·have c':(ds.length==t.df.pars)=false:=by simpa using c
    have ev:when (ds.length==t.df.pars) _=r:=ev
    rw[c'] at ev
    exact absurd ev.symm hr
  by_cases hrf:T.mv i=some 1000
  ·rw[spOf_ref hrf]
   have len4:∀vs H Q E,spR K (callF T (defs.map DefT.df) (n+1) i) vs H Q E→vs.length=t.ps.length:=λvs H Q E h=>by
    obtain⟨_,_,_,_,_,_,_,_,_,_,_,_,rfl,_,_,_,ev,_⟩:=h
    exact lenOf _ _ ev (λz=>by cases z)
   refine fun_okE F S len4 (λcdv A outer s H vs Q E hr h=>?_)
   have hl:=len4 vs H Q E h
   obtain⟨O,x,y,j,k,v,u,a,b,r,j',k',rfl,ab,⟨oa,ob,tr⟩,⟨rx,ry,ha,hb⟩,ev,kk⟩:=h
   have okx:=okx_of (P:=P) (w:=w) (base:=base) X.toTextOk0 (cdv:=cdv) (outer:=outer) (H:=H) (E:=E) (f:=f) hr S.nd ih
   have oks:OkS T (callF T (defs.map DefT.df) n) Tx (cxOf (CXE P w) P w K mg base t.N t.nm (defScope t.st) f cdv A outer s H E).nox:=⟨okx,rfl,λ_=>rfl⟩
   rw[callF,hdf] at ev
   obtain⟨_,ev⟩:=when_ok ev
   rw[if_pos hrf] at ev
   have ev:(match exS T (callF T (defs.map DefT.df) n) t.body ([.v x,.r (a:Nat) (.dct j),.r (b:Nat) (.dct k),.v y]++List.replicate (t.N.length - t.ps.length) Sl.no) with
    | .ok (.rr x a1 j b1 k)=>when (a1==a&&b1==b) (Res.ok (D.tup [x,.dct j,.dct k]))
    | _=>.no)=.ok (.tup [r,.dct j',.dct k']):=ev
   cases hs:exS T (callF T (defs.map DefT.df) n) t.body ([.v x,.r (a:Nat) (.dct j),.r (b:Nat) (.dct k),.v y]++List.replicate (t.N.length - t.ps.length) Sl.no) with
   | ok out =>
    rw[hs] at ev
    cases out with
    | rr x1 a1 j1 b1 k1 =>
     obtain⟨c2,ev⟩:=when_ok ev
     cases ev
     rw[Bool.and_eq_true,beq_iff_eq,beq_iff_eq] at c2
     obtain⟨rfl,rfl⟩:=c2
     refine⟨_,((wholeS t.body).2 _ _ oks hok.2 (hid2 H a1 b1) (λc=>O c∧c≠a1∧c≠b1)).nox,?_⟩
     refine⟨[],_,_,⟨O,_,fm_startR (N:=t.N) ab oa ob tr rx ry ha hb (t.N.length - t.ps.length) (by rw[←hl];rfl),λt ht=>by cases ht⟩,hs,?_⟩
     intro v' H' s' r' o1 o2
     have wk:∀c,O c→(O c∧c≠a1∧c≠b1)∨c=a1∨c=b1:=λc hc=>by
      by_cases z1:c=a1
      ·exact .inr (.inl z1)
      ·by_cases z2:c=b1
       ·exact .inr (.inr z2)
       ·exact .inl ⟨hc,z1,z2⟩
     exact kk v' H' (λc o n1 n2 q=>s' c o (by rw[hid2_ne n1 n2];exact q)) (r'.weak wk) (o1.weak wk) (o2.weak wk)
    | _=>cases ev
   | err _ _=>rw[hs] at ev;cases ev
   | no=>rw[hs] at ev;cases ev
  have open1:∀ds,ds.length=t.ps.length→callF T (defs.map DefT.df) (n+1) i ds=(match exX T (callF T (defs.map DefT.df) n) t.body (startE (T.mv i) ds++List.replicate (t.N.length - t.ps.length) Sl.no) with
   | some z=>.err z.1 z.2
   | none=>match exS T (callF T (defs.map DefT.df) n) t.body (startE (T.mv i) ds++List.replicate (t.N.length - t.ps.length) Sl.no) with
    | .ok (.rt x k)=>when (k||!T.fresh i) (.ok x)
    | .ok (.nx _)=>when (!T.fresh i) (.ok .non)
    | _=>.no):=by
   intro ds hl
   rw[callF,hdf]
   exact (when_of (by simpa using hl) _).trans (if_neg hrf)
  have un:∀ds d,callF T (defs.map DefT.df) (n+1) i ds=.ok d→∃out,exS T (callF T (defs.map DefT.df) n) t.body (startE (T.mv i) ds++List.replicate (t.N.length - t.ps.length) Sl.no)=.ok out ∧
   ((∃k,out=.rt d k∧(k=true∨T.fresh i=false))∨(∃e,out=.nx e∧d=.non∧T.fresh i=false)):=by
   intro ds d ev
   rw[open1 ds (lenOf ds _ ev (λz=>by cases z))] at ev
   cases hx:exX T (callF T (defs.map DefT.df) n) t.body (startE (T.mv i) ds++List.replicate (t.N.length - t.ps.length) Sl.no) with
   | some z=>rw[hx] at ev;cases ev
   | none =>
    rw[hx] at ev
    cases hs:exS T (callF T (defs.map DefT.df) n) t.body (startE (T.mv i) ds++List.replicate (t.N.length - t.ps.length) Sl.no) with
    | ok out =>
     rw[hs] at ev
     refine⟨out,rfl,?_⟩
     cases out with
     | nx e =>
      obtain⟨c2,ev⟩:=when_ok ev
      cases ev
      exact .inr ⟨e,rfl,rfl,by simpa using c2⟩
     | rt x k =>
      obtain⟨c2,ev⟩:=when_ok ev
      cases ev
      exact .inl ⟨k,rfl,by simpa using c2⟩
     | bk e=>cases ev
     | ct e=>cases ev
     | rr _ _ _ _ _=>cases ev
    | err _ _=>rw[hs] at ev;cases ev
    | no=>rw[hs] at ev;cases ev
  have unX:∀ds c d,callF T (defs.map DefT.df) (n+1) i ds=.err c d→exX T (callF T (defs.map DefT.df) n) t.body (startE (T.mv i) ds++List.replicate (t.N.length - t.ps.length) Sl.no)=some (c,d):=by
   intro ds c d ev
   rw[open1 ds (lenOf ds _ ev (λz=>by cases z))] at ev
   cases hx:exX T (callF T (defs.map DefT.df) n) t.body (startE (T.mv i) ds++List.replicate (t.N.length - t.ps.length) Sl.no) with
   | some z=>rw[hx] at ev;cases ev;rfl
   | none =>
    rw[hx] at ev
    exfalso
    cases hs:exS T (callF T (defs.map DefT.df) n) t.body (startE (T.mv i) ds++List.replicate (t.N.length - t.ps.length) Sl.no) with
    | ok out =>
     rw[hs] at ev
     cases out with
     | nx e=>have ev:when (!T.fresh i) (Res.ok D.non)=Res.err c d:=ev;unfold when at ev;split at ev<;>cases ev
     | rt x k=>have ev:when (k||!T.fresh i) (Res.ok x)=Res.err c d:=ev;unfold when at ev;split at ev<;>cases ev
     | bk e=>cases ev
     | ct e=>cases ev
     | rr _ _ _ _ _=>cases ev
    | err _ _=>rw[hs] at ev;cases ev
    | no=>rw[hs] at ev;cases ev
  have core:∀(cdv:Value) (A:Around) (outer:List Env) (s:Shared) (H Hb:Hp) (O:Addr→Prop) (ds:List D) (vs:List V) (own:Nat→Option Addr) (Q:VK) (E:XK),Room (n+2) (A.deeper (envOfC t.nm (defScope t.st) s.heap.objs.size f cdv))→Fm K Hb O H O own (startE (T.mv i) ds++List.replicate (t.N.length - t.ps.length) Sl.no) (start t.N vs) →
   ((∃d,callF T (defs.map DefT.df) (n+1) i ds=.ok d∧∀v H',Same Hb H'→RD K H' O d v→(T.fresh i=true→NewR K Hb H' O d v)→Q v H')∨∃c d,callF T (defs.map DefT.df) (n+1) i ds=.err c d∧∀od H',Same Hb H'→PayOk d od H'→E (cvK K c) od H') →
   ∃tt,PSs (cxOf (CXE P w) P w K mg base t.N t.nm (defScope t.st) f cdv A outer s H E) (defBody t.st) tt∧tt { nx:=λ_ H'=>Q .non H',rt:=Q } (start t.N vs) H:=by
   intro cdv A outer s H Hb O ds vs own Q E hr Fs h
   have okx:=okx_of (P:=P) (w:=w) (base:=base) X.toTextOk0 (cdv:=cdv) (outer:=outer) (H:=H) (E:=E) (f:=f) hr S.nd ih
   have oks:OkS T (callF T (defs.map DefT.df) n) Tx (cxOf (CXE P w) P w K mg base t.N t.nm (defScope t.st) f cdv A outer s H E).nox:=⟨okx,rfl,λ_=>rfl⟩
   rcases h with ⟨d,ev,k⟩ | ⟨c,d,ev,k⟩
   ·obtain⟨out,e1,e2⟩:=un ds d ev
    refine⟨_,((wholeS t.body).2 _ _ oks hok.2 Hb O).nox,?_⟩
    refine⟨[],_,out,⟨O,own,Fs,λt ht=>by cases ht⟩,e1,?_⟩
    rcases e2 with ⟨fr,rfl,hf⟩ | ⟨e,rfl,rfl,hf⟩
    ·intro v H' s' r nl
     refine k v H' s' r λz=>nl ?_
     rcases hf with q | q
     ·exact q
     ·rw[z] at q;cases q
    ·rintro σ' H' ⟨O',own',F',_⟩
     exact k .non H' F'.same rfl λz=>by rw[z] at hf;cases hf
   ·exact nomatch unX ds c d ev
  cases hmv:T.mv i with
  | none =>
   rw[spOf_none hmv]
   rw[hmv] at core
   refine fun_okE F S (λvs H Q E h=>?_) (λcdv A outer s H vs Q E hr h=>?_)
   ·obtain⟨O,ds,_,rr,⟨d,ev,_⟩ | ⟨c,d,ev,_⟩⟩:=h
    ·rw[rr.length];exact lenOf ds _ ev (λz=>by cases z)
    ·rw[rr.length];exact lenOf ds _ ev (λz=>by cases z)
   ·obtain⟨O,ds,tr,rr,h⟩:=h
    have hl:ds.length=t.ps.length:=by
     rcases h with ⟨d,ev,_⟩ | ⟨c,d,ev,_⟩
     ·exact lenOf ds _ ev (λz=>by cases z)
     ·exact lenOf ds _ ev (λz=>by cases z)
    exact core cdv A outer s H H O ds vs _ Q E hr (fm_start (N:=t.N) rr tr (t.N.length - t.ps.length) (by rw[rr.length,hl])) h
  | some j =>
   rw[spOf_some hmv (λz=>hrf (by rw[hmv,z]))]
   rw[hmv] at core
   refine fun_okE F S (λvs H Q E h=>?_) (λcdv A outer s H vs Q E hr h=>?_)
   ·obtain⟨O,ds,Hb,d0,v0,_,_,rr,_,_,_,_,⟨d,ev,_⟩ | ⟨c,d,ev,_⟩⟩:=h
    ·rw[rr.length];exact lenOf ds _ ev (λz=>by cases z)
    ·rw[rr.length];exact lenOf ds _ ev (λz=>by cases z)
   ·obtain⟨O,ds,Hb,d0,v0,sm,tr,rr,g1,g2,g3,g4,h⟩:=h
    have hl:ds.length=t.ps.length:=by
     rcases h with ⟨d,ev,_⟩ | ⟨c,d,ev,_⟩
     ·exact lenOf ds _ ev (λz=>by cases z)
     ·exact lenOf ds _ ev (λz=>by cases z)
    obtain⟨own,Fs⟩:=fm_startM (N:=t.N) sm rr tr (t.N.length - t.ps.length) (by rw[rr.length,hl]) g1 g2 g3 g4
    exact core cdv A outer s H Hb O ds vs own Q E hr Fs h
theorem law_sp {i n:Nat} (hT:∀ns:List Int,ns.length≤63→callF T (defs.map DefT.df) n i [.lst (ns.map D.int)]=.ok (.bl true)) (K:PySem.W.Frag) (H:Hp) (a:Addr) (ns:List Int) (hl:ns.length≤63) (hS:SqL K H a (ns.map V.int)) :
 spD K (callF T (defs.map DefT.df) n i) (T.fresh i) [.ref a] H (λv _=>v=.bl true) (λ_ _ _=>False):=by
 refine⟨no,[.lst (ns.map D.int)],λa h=>h.elim,⟨.ref a,[],rfl,⟨a,ns.map V.int,rfl,?_,?_⟩,rfl⟩,.inl ⟨.bl true,hT ns hl,λv H' _ r _=>r⟩⟩
 ·rcases hS with z | z
  ·exact .inl ⟨λq=>q,z⟩
  ·exact .inr z
 ·clear hl hS
  induction ns with
  | nil=>exact rfl
  | cons i r ih=>exact⟨.int i,r.map V.int,rfl,rfl,ih⟩
end
end Tr
namespace Tr
open PySem PySem.Spec PyProof.Rows L2 PySem.W
section
variable {X:Cx} {i:Nat} {x c:Str} {C:Addr} {b:Bool} {p:Expr}
end
noncomputable def isNon:D→Bool
 | .non=>true
 | _=>false
section
variable {T:Tab} {cf:Nat→List D→Res D}
end
section
variable {K:PySem.W.Frag} {mg:Str→Option Value} {T:Tab} {Tx:Txt} {defs:List DefT}
end
section
variable {K:PySem.W.Frag} {mg:Str→Option Value} {T:Tab} {Tx:Txt} {defs:List DefT}
theorem text_plain (X:TextOk0 K mg T Tx defs) (h:defs.filter (λt=>t.told.isSome)=[]):TextOk K mg T Tx defs :=
 ⟨X,λt ht td e=>by
  have:t∈defs.filter (λt=>t.told.isSome):=List.mem_filter.mpr ⟨ht,by rw[e];rfl⟩
  rw[h] at this;exact (nomatch this),λi t hi hs=>by
  have:t∈defs.filter (λt=>t.told.isSome):=List.mem_filter.mpr ⟨List.mem_of_getElem? hi,hs⟩
  rw[h] at this;cases this⟩
end
section
variable {K:PySem.W.Frag} {mg:Str→Option Value} {T:Tab} {Tx:Txt} {defs:List DefT}
end
section
variable {K:PySem.W.Frag} {mg:Str→Option Value} {T:Tab} {Tx:Txt} {defs:List DefT}
end
end Tr
namespace Tr
open PySem PySem.Spec PyProof.Rows L2
theorem len1 {P:List Value→Prop} (h:∀a0:Value,P [a0]):∀us:List Value,us.length=1→P us
 | [_],_=>h _
theorem len2 {P:List Value→Prop} (h:∀a0 a1:Value,P [a0,a1]):∀us:List Value,us.length=2→P us
 | [_,_],_=>h _ _
theorem len3 {P:List Value→Prop} (h:∀a0 a1 a2:Value,P [a0,a1,a2]):∀us:List Value,us.length=3→P us
 | [_,_,_],_=>h _ _ _
theorem len4 {P:List Value→Prop} (h:∀a0 a1 a2 a3:Value,P [a0,a1,a2,a3]):∀us:List Value,us.length=4→P us
 | [_,_,_,_],_=>h _ _ _ _
theorem len5 {P:List Value→Prop} (h:∀a0 a1 a2 a3 a4:Value,P [a0,a1,a2,a3,a4]):∀us:List Value,us.length=5→P us
 | [_,_,_,_,_],_=>h _ _ _ _ _
theorem fun_in {K:PySem.W.Frag} {h:Heap} {mg:Str→Option Value} (X:K.In h) (G:h.Ns mainGlobals mg) {x:Str} {st:Stmt} {ps:List Str} {f:Addr} {oc:Value} {od an:Option Addr} {osl:Array (Option Value)} {kV doc pm cdv ct:Value}
 (a:PySem.W.nsIn K mainGlobals x=some (some (.ref f))) (l:K.lookup f=some ⟨oc,od,.func (PySem.W.fnOf x x (defArgs st) (defBody st) (defScope st) .none kV doc pm an cdv ct),osl⟩)
 (c:PySem.W.codeIn K cdv x=true) (k:PySem.W.keepIn K (.ref f)=true)
 (hb:∀(kV doc pm:Value) (an:Option Addr) (cdv ct:Value) (us:List Value),us.length=ps.length→bindArgs (PySem.W.fnOf x x (defArgs st) (defBody st) (defScope st) .none kV doc pm an cdv ct) ⟨us,[]⟩=pure (ps.zip us)) :
 ∃f fd,Fun K x x st f fd∧mg x=some (.ref f)∧Binds K fd ps [] :=
 ⟨f,_,fun_mk l c k,PySem.W.mg_of X G a,(fun_mk (st:=st) l c k).binds hb⟩
theorem glob_int {K:PySem.W.Frag} {h:Heap} {mg:Str→Option Value} (X:K.In h) (G:h.Ns mainGlobals mg) {x:Str} {i:Int} {t:Tok} (a:PySem.W.nsIn K mainGlobals x=some (some (.int i t))):GlobK K mg x (.int i) :=
 ⟨.int i,.int i t,PySem.W.mg_of X G a,⟨t,rfl⟩,λ_ _=>rfl⟩
theorem blt_none {K:PySem.W.Frag} {h:Heap} {mg:Str→Option Value} (X:K.In h) (G:h.Ns mainGlobals mg) {x:Str} (a:PySem.W.nsIn K mainGlobals x=some none):mg x=none:=PySem.W.mg_none_of X G a
theorem walkT {l:PySem.W.OpenLaw} {q:Program} {loose:List Str} {XP:(Str→Option Value)→Heap→Prop} {YP:World→Heap→Prop} {d:DefRec} {K:Params→PySem.W.Frag} {T:Tab} {Tx:Txt} {defs:List DefT} {i n:Nat} {tl:DefT} {x:Str}
 (hi:defs[i]?=some tl) (hps:tl.ps=[x]) (hnm:tl.nm=d.name)
 (hn:l.most=some 63) (hdf:d.params.defaults=[]) (hr:Room (n+2) callerA)
 (hT:∀ns:List Int,ns.length≤63→callF T (defs.map DefT.df) n i [.lst (ns.map D.int)]=.ok (.bl true))
 (hY:∀(w:World) (h:Heap),YP w h→(K w.params).In h)
 (hX:∀(w:World) (mg:Str→Option Value) (h:Heap),(K w.params).In h→h.Ns mainGlobals mg→TextOk (K w.params) mg T Tx defs)
 (hb:∀(kV doc pm:Value) (an:Option Addr) (cdv ct:Value) (u:Value),bindArgs (PySem.W.fnOf tl.nm tl.nm (defArgs tl.st) (defBody tl.st) (defScope tl.st) .none kV doc pm an cdv ct) ⟨[u],[]⟩=pure [(x,u)]) (hmv:T.mv i=none:=by rfl) :
 PySem.W.WalkO q loose XP YP l.row.toRowW d [] (λf vs=>PySem.call f vs):=by
 refine L2.walk_of (K:=K) (n:=63) (k:=n+2) (x:=x) (CX:=λw=>CXE l.prog w) (sp:=λw=>spD (K w.params) (callF T (defs.map DefT.df) n i) (T.fresh i)) hn (by decide) hdf hr hY ?_ (λw H a ns hl _ hS=>law_sp hT (K w.params) H a ns hl hS) (λ_ _ _ _ _ h=>by obtain⟨_,_,_,_,_,_,_,_,_,_,_,_,_,_,_,_,_,z⟩:=h;exact z.elim)
 intro w mg fa h KX G hmg
 have tx:=hX w mg h KX G
 obtain⟨f,fd,F,m,_⟩:=tx.funs tl (List.mem_of_getElem? hi)
 rw[hnm,hmg] at m
 cases m
 refine⟨fd,λs u=>?_,λbase kb nb=>?_⟩
 ·obtain⟨oc,od,kV,doc,pm,an,cdv,ct,osl,rfl,lk,hcd⟩:=F.ex
  exact .of_eq (hb kV doc pm an cdv ct u)
 ·have:=defs_ok (P:=l.prog) (w:=w) (base:=base) tx n i tl hi fa fd F
  rw[hps,spOf_none hmv] at this
  exact this
end Tr
namespace Tr
theorem all_cons {α:Type} {p:α→Prop} {a:α} {l:List α} (h:p a) (r:∀x∈l,p x):∀x∈a::l,p x:=List.forall_mem_cons.mpr ⟨h,r⟩
theorem all_nil {α:Type} {p:α→Prop}:∀x∈([]:List α),p x:=λ_ h=>by cases h
theorem gl_cons {α:Type} {p:Nat→α→Prop} {a:α} {l:List α} (h:p 0 a) (r:∀g n,l[g]?=some n→p (g+1) n):∀g n,(a::l)[g]?=some n→p g n
 | 0,n,e=>by simp at e;subst e;exact h
 | g+1,n,e=>r g n (by simpa using e)
theorem gl_nil {α:Type} {p:Nat→α→Prop}:∀g n,([]:List α)[g]?=some n→p g n:=λg n e=>by simp at e
end Tr
namespace Tr
open PySem
section
variable {T:Tab} {cf:Nat→List D→Res D} {e:Nv}
@[simp] theorem evE_var {i:Nat}:evE T cf (.var i) e=(e.at i).val:=id rfl
@[simp] theorem evE_rd {i:Nat}:evE T cf (.rd i) e=(e.at i).any:=id rfl
@[simp] theorem evE_con {d:D}:evE T cf (.con d) e=.ok d:=id rfl
@[simp] theorem evE_glob {g:Nat}:evE T cf (.glob g) e=.ok (T.glob g):=id rfl
@[simp] theorem evE_bin {o:Operator} {a b:E}:evE T cf (.bin o a b) e=(do let x ←evE T cf a e;let y ←evE T cf b e;D.bin o x y):=id rfl
@[simp] theorem evE_cmp {o:CmpOp} {a b:E}:evE T cf (.cmp o a b) e=(do let x ←evE T cf a e;let y ←evE T cf b e;D.cmp o x y):=id rfl
@[simp] theorem evE_and {a b:E}:evE T cf (.and a b) e=(do let x ←evE T cf a e;let k ←x.truth;if k then evE T cf b e else .ok x):=id rfl
@[simp] theorem evE_not {a:E}:evE T cf (.not a) e=(do let x ←evE T cf a e;let k ←x.truth;.ok (.bl (!k))):=id rfl
@[simp] theorem evE_ife {c a b:E}:evE T cf (.ife c a b) e=(do let x ←evE T cf c e;let k ←x.truth;if k then evE T cf a e else evE T cf b e):=id rfl
@[simp] theorem evE_ix {a b:E}:evE T cf (.ix a b) e=(do let x ←evE T cf a e;let y ←evE T cf b e;D.ix x y):=id rfl
@[simp] theorem evE_sl {a lo hi:E}:evE T cf (.sl a lo hi) e=(do let x ←evE T cf a e;let l ←evE T cf lo e;let l ←l.part;let h ←evE T cf hi e;let h ←h.part;D.sl x l h):=id rfl
@[simp] theorem evE_omit:evE T cf .omit e=.ok .non:=id rfl
@[simp] theorem evE_tup {a:E}:evE T cf (.tup a) e=(do let xs ←evA T cf a e;.ok (.tup xs)):=id rfl
@[simp] theorem evE_lst {a:E}:evE T cf (.lst a) e=(do let xs ←evA T cf a e;.ok (.lst xs)):=id rfl
@[simp] theorem evE_call {f:Nat} {a:E}:evE T cf (.call f a) e=(do let xs ←evA T cf a e;cf f xs):=id rfl
@[simp] theorem evI_seqD {a:E}:evI T cf (.seqD a) e=(do let x ←evE T cf a e;dkeysR x):=id rfl
@[simp] theorem evE_srt {a:E}:evE T cf (.srt a) e=(do let x ←evE T cf a e;srtA x):=id rfl
@[simp] theorem evE_dck {a:E}:evE T cf (.dck a) e=(do let x ←evE T cf a e;dckR x):=id rfl
@[simp] theorem evE_bt {b:Bt} {a:E}:evE T cf (.bt b a) e=(do let xs ←evA T cf a e;b.run xs):=id rfl
noncomputable def negR:D→Res D
 | .int i=>.ok (.int (-i))
 | _=>.no
@[simp] theorem neg_int {i:Int}:negR (.int i)=.ok (.int (-i)):=id rfl
@[simp] theorem evE_neg {a:E}:evE T cf (.neg a) e=(evE T cf a e>>=negR):=by
 rw[xE_neg]
 cases evE T cf a e with
 | ok x=>cases x<;>rfl
 | err _ _=>rfl
 | no=>rfl
noncomputable def compF (T:Tab) (cf:Nat→List D→Res D) (own:Nat) (caps:List Nat) (g:G) (elt cond:E) (e:Nv) (d:D):Res (Option D):=do
 let e1 ←g.put d (compEnv own caps e)
 let c ←evE T cf cond e1
 let k ←c.truth
 if k then do let y ←evE T cf elt e1;.ok (some y) else .ok none
@[simp] theorem evE_comp {own:Nat} {caps:List Nat} {g:G} {elt src cond:E}:evE T cf (.comp own caps g elt src cond) e=(do
 let ds ←evI T cf src e
 let ys ←compL (compF T cf own caps g elt cond e) ds
 when (decide (ds.length≤big)) (.ok (.lst ys))):=id rfl
@[simp] theorem evA_nil:evA T cf .anil e=.ok []:=id rfl
@[simp] theorem evA_cons {a r:E}:evA T cf (.acons a r) e=(do let x ←evE T cf a e;let q ←evA T cf r e;when (decide (q.length < 1000)) (.ok (x::q))):=id rfl
@[simp] theorem evI_seq {a:E}:evI T cf (.seq a) e=(do let x ←evE T cf a e;x.items):=id rfl
noncomputable def rngR:D→Res (List D)
 | .int n=>when (small62 n) (.ok (rangeD 0 n.toNat))
 | _=>.no
noncomputable def rng2R:D→D→Res (List D)
 | .int n,.int m=>when (small62 n&&small62 m) (.ok (rangeD n (m - n).toNat))
 | _,_=>.no
noncomputable def enumR:D→Res (List D)
 | .lst ds=>.ok (enumD 0 ds)
 | _=>.no
@[simp] theorem evI_rng {a:E}:evI T cf (.rng a) e=(do let x ←evE T cf a e;rngR x):=by
 rw[xI_rng]
 cases evE T cf a e with
 | ok x=>cases x<;>rfl
 | err _ _=>rfl
 | no=>rfl
@[simp] theorem evI_rng2 {a b:E}:evI T cf (.rng2 a b) e=(do let x ←evE T cf a e;match x with | .int _=>do let y ←evE T cf b e;rng2R x y | _=>.no):=by
 rw[xI_rng2]
 cases evE T cf a e with
 | ok x =>
  cases x<;>try rfl
  show (do let y ←evE T cf b e;_)=(do let y ←evE T cf b e;_)
  cases evE T cf b e with
  | ok y=>cases y<;>rfl
  | err _ _=>rfl
  | no=>rfl
 | err _ _=>rfl
 | no=>rfl
@[simp] theorem evI_enum {a:E}:evI T cf (.enum a) e=(do let x ←evE T cf a e;enumR x):=by
 rw[xI_enum]
 cases evE T cf a e with
 | ok x=>cases x<;>rfl
 | err _ _=>rfl
 | no=>rfl
theorem rng_ok {n:Nat} (h:n < 4611686018427387904):rngR (.int n)=.ok (rangeD 0 n):=by
 show when (small62 n) _=_
 rw[when_of (by unfold small62;rw[decide_eq_true (by lia),decide_eq_true (by lia)];rfl)]
 simp
theorem rng2_ok {n m:Nat} (h:n < 4611686018427387904) (h2:m < 4611686018427387904):rng2R (.int n) (.int m)=.ok (rangeD n (m - n)):=by
 show when (small62 n&&small62 m) _=_
 rw[when_of (by unfold small62;rw[decide_eq_true (by lia),decide_eq_true (by lia),decide_eq_true (by lia),decide_eq_true (by lia)];rfl)]
 congr 2
 lia
noncomputable def bodyF (T:Tab) (cf:Nat→List D→Res D) (g:G) (b:S) (d:D) (e0:Nv):Res Out:=do let e1 ←g.put d e0;exS T cf b e1
noncomputable def thenS (T:Tab) (cf:Nat→List D→Res D) (r:S):Out→Res Out
 | .nx e1=>exS T cf r e1
 | o=>.ok o
@[simp] theorem thenS_nx {r:S}:thenS T cf r (.nx e)=exS T cf r e:=id rfl
@[simp] theorem thenS_rr {r:S} {d:D} {a b:Nat} {j k:List (Sum Int Str×D)}:thenS T cf r (.rr d a j b k)=.ok (.rr d a j b k):=id rfl
@[simp] theorem thenS_rt {r:S} {d:D} {k:Bool}:thenS T cf r (.rt d k)=.ok (.rt d k):=id rfl
@[simp] theorem exS_nil:exS T cf .nil e=.ok (.nx e):=id rfl
@[simp] theorem exS_cons {a r:S}:exS T cf (.cons a r) e=(exS T cf a e>>=thenS T cf r):=by
 rw[xS_cons]
 cases exS T cf a e with
 | ok o=>cases o<;>rfl
 | err _ _=>rfl
 | no=>rfl
@[simp] theorem exS_ret {x:E}:exS T cf (.ret x) e=(do let d ←evE T cf x e;.ok (.rt d (freshE T x&&!tupL d))):=id rfl
@[simp] theorem tupL_lst {a:List D}:tupL (.lst a)=false:=id rfl
@[simp] theorem tupL_int {a:Int}:tupL (.int a)=false:=id rfl
@[simp] theorem tupL_str {a:Str}:tupL (.str a)=false:=id rfl
@[simp] theorem exS_retO {i:Nat}:exS T cf (.retO i) e=(do let a ←(e.at i).ownA;.ok (.rt a (!a.isDct))):=id rfl
@[simp] theorem exS_newD {i:Nat}:exS T cf (.newD i) e=.ok (.nx (e.set i (.o (.dct [])))):=id rfl
@[simp] theorem exS_newT {i:Nat}:exS T cf (.newT i) e=.ok (.nx (e.set i (.o (.tdc [])))):=id rfl
@[simp] theorem exS_dputV {i:Nat} {k x:E}:exS T cf (.dputV i k x) e=(do
 let d ←evE T cf x e
 let a ←(e.at i).ownT
 let y ←evE T cf k e
 let key ←keyV y
 when (decide (a.length < big)) (.ok (.nx (e.set i (.o (.tdc (putTD a key d))))))):=id rfl
@[simp] theorem exS_asg {g:G} {x:E}:exS T cf (.asg g x) e=(do let d ←evE T cf x e;let e1 ←g.put d e;.ok (.nx e1)):=id rfl
noncomputable def setO (k:Bool) (i:Nat) (e:Nv):D→Res Out
 | .lst a=>when k (.ok (.nx (e.set i (.o (.lst a)))))
 | .dct a=>when k (.ok (.nx (e.set i (.o (.dct a)))))
 | .tdc a=>when k (.ok (.nx (e.set i (.o (.tdc a)))))
 | _=>.no
@[simp] theorem setO_ok {i:Nat} {a:List D}:setO true i e (.lst a)=.ok (.nx (e.set i (.o (.lst a)))):=id rfl
@[simp] theorem exS_asgO {i:Nat} {x:E}:exS T cf (.asgO i x) e=(do let d ←evE T cf x e;setO (freshE T x) i e d):=by
 rw[xS_asgO]
 cases evE T cf x e with
 | ok o=>cases o<;>rfl
 | err _ _=>rfl
 | no=>rfl
@[simp] theorem exS_sealed {i:Nat}:exS T cf (.sealed i) e=(do let a ←(e.at i).ownA;.ok (.nx (e.set i (.v a)))):=id rfl
@[simp] theorem exS_ite {c:E} {a b:S}:exS T cf (.ite c a b) e=(do let x ←evE T cf c e;let k ←x.truth;if k then exS T cf a e else exS T cf b e):=id rfl
@[simp] theorem any_r {a:Nat} {d:D}:(Sl.r a d).any=.ok d:=id rfl
@[simp] theorem refD_r {a:Nat} {k:List (Sum Int Str×D)}:(Sl.r a (.dct k)).refD=.ok (a,k):=id rfl
@[simp] theorem givD_r {a:Nat} {k:List (Sum Int Str×D)}:(Sl.r a (.dct k)).givD=.ok k:=id rfl
@[simp] theorem givD_o {k:List (Sum Int Str×D)}:(Sl.o (.dct k)).givD=.ok k:=id rfl
@[simp] theorem giv_r {a:Nat} {d x:D}:(Sl.r a d).giv x=.r a x:=id rfl
@[simp] theorem giv_o {d x:D}:(Sl.o d).giv x=.o x:=id rfl
@[simp] theorem exS_dputR {i:Nat} {k x:E}:exS T cf (.dputR i k x) e=(do
 let d ←evE T cf x e
 let a ←(e.at i).refD
 let y ←evE T cf k e
 let key ←Res.of (keyOf y)
 when (decide (a.2.length < big)) (.ok (.nx (e.set i (.r a.1 (.dct (putKD a.2 key d))))))):=id rfl
@[simp] theorem exS_retR {x:E} {i j:Nat}:exS T cf (.retR x i j) e=(do
 let d ←evE T cf x e
 let a ←(e.at i).refD
 let b ←(e.at j).refD
 .ok (.rr d a.1 a.2 b.1 b.2)):=id rfl
theorem ifR_t {c:E} {f:Nat} {x:E} {i j:Nat} {y:E} {a b:S} {z:D} (hm:T.mv f=some 1000) (ij:i≠j) (h:evE T cf c e=.ok z) (hz:z.truth=.ok true):exS T cf (.ifR false c f x i j y a b) e=exS T cf a e:=by
 rw[xS_ifR,when_of (by rw[decide_eq_true hm,decide_eq_true ij];rfl),if_neg Bool.false_ne_true,h,Res.ok_bind,hz,Res.ok_bind,if_pos rfl]
theorem ifR_c {neg:Bool} {c:E} {f:Nat} {x:E} {i j:Nat} {y:E} {a b:S} {z d1 d2 r:D} {g h g' h':List (Sum Int Str×D)} {k:Bool} (hm:T.mv f=some 1000) (ij:i≠j) (h0:neg=true∨(evE T cf c e=.ok z∧z.truth=.ok false)) (h1:evE T cf x e=.ok d1) (h2:(e.at i).givD=.ok g) (h3:(e.at j).givD=.ok h) (h4:evE T cf y e=.ok d2)
 (h5:refC cf f d1 g h d2=.ok (r,g',h')) (h6:r.truth=.ok k):exS T cf (.ifR neg c f x i j y a b) e=if (k != neg)=true then exS T cf a ((e.set i ((e.at i).giv (.dct g'))).set j ((e.at j).giv (.dct h'))) else exS T cf b ((e.set i ((e.at i).giv (.dct g'))).set j ((e.at j).giv (.dct h'))):=by
 rw[xS_ifR,when_of (by rw[decide_eq_true hm,decide_eq_true ij];rfl)]
 have e0:(if neg=true then Res.ok false else do let z ←evE T cf c e;z.truth)=.ok false:=by
  rcases h0 with h0 | ⟨h0,h0'⟩
  ·rw[if_pos h0]
  ·cases neg with
   | true=>rfl
   | false=>rw[if_neg Bool.false_ne_true,h0,Res.ok_bind,h0']
 rw[e0,Res.ok_bind,if_neg Bool.false_ne_true,h1,Res.ok_bind,h2,Res.ok_bind,h3,Res.ok_bind,h4,Res.ok_bind,h5,Res.ok_bind,h6,Res.ok_bind]
@[simp] theorem exS_for {g:G} {src:E} {b:S}:exS T cf (.forS g src b) e=(do let ds ←evI T cf src e;forL (bodyF T cf g b) ds e):=id rfl
@[simp] theorem exS_app {i:Nat} {x:E}:exS T cf (.app i x) e=(do
 let d ←evE T cf x e
 let a ←(e.at i).own
 when (decide (a.length < big)) (.ok (.nx (e.set i (.o (.lst (a++[d]))))))):=id rfl
noncomputable def extO (k:Bool) (i:Nat) (e:Nv):D→Res Out
 | .lst b=>do
  let a ←(e.at i).own
  when (k&&decide (a.length+b.length≤big)) (.ok (.nx (e.set i (.o (.lst (a++b))))))
 | _=>.no
@[simp] theorem extO_eq {k:Bool} {i:Nat} {b:List D}:extO k i e (.lst b)=(do
 let a ←(e.at i).own
 when (k&&decide (a.length+b.length≤big)) (.ok (.nx (e.set i (.o (.lst (a++b))))))):=id rfl
@[simp] theorem exS_ext {i:Nat} {x:E}:exS T cf (.ext i x) e=(do let d ←evE T cf x e;extO (freshE T x) i e d):=by
 rw[xS_ext]
 cases evE T cf x e with
 | ok o=>cases o<;>rfl
 | err _ _=>rfl
 | no=>rfl
@[simp] theorem exS_never:exS T cf .never e=.no:=id rfl
@[simp] theorem exS_exp {x:E}:exS T cf (.exp x) e=(do let _ ←evE T cf x e;.ok (.nx e)):=id rfl
@[simp] theorem fresh_lst {a:E}:freshE T (.lst a)=true:=id rfl
@[simp] theorem fresh_add {a b:E}:freshE T (.bin .Add a b)=true:=id rfl
@[simp] theorem fresh_comp {n:Nat} {c:List Nat} {g:G} {x y z:E}:freshE T (.comp n c g x y z)=true:=id rfl
@[simp] theorem fresh_call {f:Nat} {a:E}:freshE T (.call f a)=T.fresh f:=id rfl
end
@[simp] theorem when_if {α:Type} {c:Bool} (h:c=true) (r:Res α):when c r=r:=when_of h r
@[simp] theorem at_zero {x:Sl} {r:List Sl}:Nv.at (x::r) 0=x:=id rfl
@[simp] theorem at_succ {x:Sl} {r:List Sl} {i:Nat}:Nv.at (x::r) (i+1)=Nv.at r i:=id rfl
@[simp] theorem val_v {d:D}:(Sl.v d).val=.ok d:=id rfl
@[simp] theorem any_o {d:D}:(Sl.o d).any=.ok d:=id rfl
@[simp] theorem own_o {a:List D}:(Sl.o (.lst a)).own=.ok a:=id rfl
@[simp] theorem ownA_o {d:D}:(Sl.o d).ownA=.ok d:=id rfl
@[simp] theorem ownT_o {a:List (List (Sum Int Str)×D)}:(Sl.o (.tdc a)).ownT=.ok a:=id rfl
@[simp] theorem key_int {i:Int}:Res.of (keyOf (.int i))=.ok (.inl i):=id rfl
@[simp] theorem isDct_lst {i:List D}:(D.lst i).isDct=false:=id rfl
theorem ix_dct {k:D} {kvs:List (Sum Int Str×D)}:D.ix (.dct kvs) k=(do let q ←Res.of (keyOf k);Res.of (valK kvs q)):=by cases k<;>rfl
@[simp] theorem put_one {i:Nat} {d:D} {e:Nv}:G.put (.one i) d e=.ok (e.set i (.v d)):=id rfl
@[simp] theorem put_many {is:List Nat} {ds:List D} {e:Nv}:G.put (.many is) (.tup ds) e=puts is ds e:=id rfl
@[simp] theorem puts_nil {e:Nv}:puts [] [] e=.ok e:=id rfl
@[simp] theorem puts_cons {i:Nat} {is:List Nat} {d:D} {ds:List D} {e:Nv}:puts (i::is) (d::ds) e=puts is ds (e.set i (.v d)):=id rfl
@[simp] theorem truth_bl {b:Bool}:(D.bl b).truth=.ok b:=id rfl
@[simp] theorem bin_add {i j:Int}:D.bin .Add (.int i) (.int j)=.ok (.int (i+j)):=id rfl
@[simp] theorem bin_mulL {i j:Int} (h:-(2^64) < i∧i < 2^64):D.bin .Mult (.int i) (.int j)=.ok (.int (i*j)):=by
 show when (small64 i||small64 j) _=_
 rw[when_of]
 unfold small64
 rw[decide_eq_true h.1,decide_eq_true h.2];rfl
@[simp] theorem bin_mod {i j:Int} (h:0 < j):D.bin .Mod (.int i) (.int j)=.ok (.int (i % j)):=by
 show when (decide (0 < j)) _=_
 rw[when_of (decide_eq_true h)]
@[simp] theorem bin_fdiv {i j:Int} (h:0 < j∧j < 1073741824):D.bin .FloorDiv (.int i) (.int j)=.ok (.int (i / j)):=by
 show when (decide (0 < j)&&decide (j < 1073741824)) _=_
 rw[when_of]
 rw[decide_eq_true h.1,decide_eq_true h.2];rfl
theorem bin_pow {i j:Int} (h:0≤j∧j≤1000000∧i.natAbs < 2^64):D.bin .Pow (.int i) (.int j)=.ok (.int (i^j.toNat)):=by
 show when (decide (0≤j)&&decide (j≤1000000)&&decide (i.natAbs < 2^64)) _=_
 rw[when_of]
 rw[decide_eq_true h.1,decide_eq_true h.2.1,decide_eq_true h.2.2];rfl
@[simp] theorem bin_pow9:D.bin .Pow (.int 10) (.int 9)=.ok (.int 1000000000):=bin_pow ⟨by decide,by decide,by decide⟩
@[simp] theorem cmp_lt {i j:Int}:D.cmp .Lt (.int i) (.int j)=.ok (.bl (decide (i < j))):=id rfl
@[simp] theorem cmp_eqi {i j:Int}:D.cmp .Eq (.int i) (.int j)=.ok (.bl (i==j)):=id rfl
@[simp] theorem cmp_is {a:D}:D.cmp .Is a .non=.ok (.bl a.isNon):=id rfl
@[simp] theorem cmp_isnot {a:D}:D.cmp .IsNot a .non=.ok (.bl (!a.isNon)):=id rfl
@[simp] theorem isNon_non:D.non.isNon=true:=id rfl
@[simp] theorem isNon_int {i:Int}:(D.int i).isNon=false:=id rfl
@[simp] theorem run_len_l {a:List D}:Bt.run .len [.lst a]=.ok (.int a.length):=id rfl
@[simp] theorem run_len_t {a:List D}:Bt.run .len [.tup a]=.ok (.int a.length):=id rfl
@[simp] theorem run_tup_l {a:List D}:Bt.run .tuple [.lst a]=.ok (.tup a):=id rfl
@[simp] theorem run_int_b {b:Bool}:Bt.run .int [.bl b]=.ok (.int (b2z b)):=id rfl
theorem intsOf_map:∀ns:List Int,intsOf (ns.map D.int)=.ok ns
 | []=>rfl
 | i::r=>by rw[List.map_cons,intsOf,intsOf_map r];rfl
@[simp] theorem run_sum {ns:List Int}:Bt.run .sum [.lst (ns.map D.int)]=.ok (.int ns.sum):=by
 show (do let q ←intsOf (ns.map D.int);.ok (D.int q.sum))=_
 rw[intsOf_map];rfl
@[simp] theorem run_sum_map {α:Type} {f:α→Int} {xs:List α}:Bt.run .sum [.lst (xs.map (D.int∘f))]=.ok (.int (xs.map f).sum):=by rw[←List.map_map,run_sum]
@[simp] theorem part_int {i:Int}:(D.int i).part=.ok (some i):=id rfl
@[simp] theorem part_non:D.non.part=.ok none:=id rfl
@[simp] theorem sl_l {a:List D} {lo hi:Option Int}:D.sl (.lst a) lo hi=.ok (.lst (cut a lo hi)):=id rfl
@[simp] theorem sl_t {a:List D} {lo hi:Option Int}:D.sl (.tup a) lo hi=.ok (.tup (cut a lo hi)):=id rfl
@[simp] theorem items_l {a:List D}:(D.lst a).items=.ok a:=id rfl
@[simp] theorem items_t {a:List D}:(D.tup a).items=.ok a:=id rfl
theorem ix_l {a:List D} {i:Nat} {d:D} (h:a[i]?=some d):D.ix (.lst a) (.int i)=.ok d:=by
 have hi:=(List.getElem?_eq_some_iff.mp h).1
 show Res.of (atI a i)=_
 unfold atI ixN
 rw[if_pos (Int.natCast_nonneg i),if_pos (by lia)]
 simp[h,Res.of]
theorem ix_t {a:List D} {i:Nat} {d:D} (h:a[i]?=some d):D.ix (.tup a) (.int i)=.ok d:=by
 have hi:=(List.getElem?_eq_some_iff.mp h).1
 show Res.of (atI a i)=_
 unfold atI ixN
 rw[if_pos (Int.natCast_nonneg i),if_pos (by lia)]
 simp[h,Res.of]
theorem callF_rt {T:Tab} {D:List Df} {n f:Nat} {ds:List Tr.D} {d:Df} {x:Tr.D} {k:Bool} (h:D[f]?=some d) (hl:ds.length=d.pars) (hk:(k||!T.fresh f)=true)
 (he:exS T (callF T D n) d.body (ds.map Sl.v++List.replicate (d.names - d.pars) Sl.no)=.ok (.rt x k)) (ht:d.told=none:=by rfl) (hm:T.mv f=none:=by rfl):callF T D (n+1) f ds=.ok x:=by
 rw[callF,h]
 show when (ds.length==d.pars) _=_
 rw[when_of (by simpa using hl),ht,hm,show startE none ds=ds.map Sl.v from rfl]
 dsimp only
 rw[if_neg (λz=>by cases z)]
 cases hx:exX T (callF T D n) d.body (ds.map Sl.v++List.replicate (d.names - d.pars) Sl.no) with
 | some z=>exact absurd he (exX_not hx _)
 | none =>
  dsimp only
  rw[he]
  show when (k||!T.fresh f) _=_
  rw[when_of hk]
theorem callF_nx {T:Tab} {D:List Df} {n f:Nat} {ds:List Tr.D} {d:Df} {e:Nv} (h:D[f]?=some d) (hl:ds.length=d.pars) (hk:T.fresh f=false)
 (he:exS T (callF T D n) d.body (ds.map Sl.v++List.replicate (d.names - d.pars) Sl.no)=.ok (.nx e)) (ht:d.told=none:=by rfl) (hm:T.mv f=none:=by rfl):callF T D (n+1) f ds=.ok .non:=by
 rw[callF,h]
 show when (ds.length==d.pars) _=_
 rw[when_of (by simpa using hl),ht,hm,show startE none ds=ds.map Sl.v from rfl]
 dsimp only
 rw[if_neg (λz=>by cases z)]
 cases hx:exX T (callF T D n) d.body (ds.map Sl.v++List.replicate (d.names - d.pars) Sl.no) with
 | some z=>exact absurd he (exX_not hx _)
 | none =>
  dsimp only
  rw[he]
  show when (!T.fresh f) _=_
  rw[hk];rfl
theorem callF_rf {T:Tab} {D:List Df} {n f a b:Nat} {x y r:Tr.D} {j k j' k':List (Sum Int Str×Tr.D)} {d:Df} (hm:T.mv f=some 1000) (h:D[f]?=some d) (hl:4=d.pars)
 (he:exS T (callF T D n) d.body ([.v x,.r a (.dct j),.r b (.dct k),.v y]++List.replicate (d.names - d.pars) Sl.no)=.ok (.rr r a j' b k')) (ht:d.told=none:=by rfl) :
 callF T D (n+1) f [x,.tup [.int a,.dct j],.tup [.int b,.dct k],y]=.ok (.tup [r,.dct j',.dct k']):=by
 rw[callF,h]
 show when (4==d.pars) _=_
 rw[when_of (by simpa using hl),ht]
 dsimp only
 rw[if_pos hm]
 show (match exS T (callF T D n) d.body ([.v x,.r a (.dct j),.r b (.dct k),.v y]++List.replicate (d.names - d.pars) Sl.no) with
  | .ok (.rr x a1 j b1 k)=>when (a1==a&&b1==b) (Res.ok (Tr.D.tup [x,.dct j,.dct k]))
  | _=>.no)=_
 rw[he]
 show when (a==a&&b==b) _=_
 rw[when_of (by simp)]
@[simp] theorem ix_t0 {a:D} {r:List D}:D.ix (.tup (a::r)) (.int 0)=.ok a:=ix_t (i:=0) rfl
@[simp] theorem ix_t1 {a b:D} {r:List D}:D.ix (.tup (a::b::r)) (.int 1)=.ok b:=ix_t (i:=1) rfl
@[simp] theorem ix_t2 {a b c:D} {r:List D}:D.ix (.tup (a::b::c::r)) (.int 2)=.ok c:=ix_t (i:=2) rfl
@[simp] theorem ix_t3 {a b c d:D} {r:List D}:D.ix (.tup (a::b::c::d::r)) (.int 3)=.ok d:=ix_t (i:=3) rfl
@[simp] theorem ix_t4 {a b c d e:D} {r:List D}:D.ix (.tup (a::b::c::d::e::r)) (.int 4)=.ok e:=ix_t (i:=4) rfl
@[simp] theorem ix_l0 {a:D} {r:List D}:D.ix (.lst (a::r)) (.int 0)=.ok a:=ix_l (i:=0) rfl
@[simp] theorem ix_l1 {a b:D} {r:List D}:D.ix (.lst (a::b::r)) (.int 1)=.ok b:=ix_l (i:=1) rfl
theorem forL_nil {f:D→Nv→Res Out} {e:Nv}:forL f [] e=.ok (.nx e):=rfl
theorem forL_nx {f:D→Nv→Res Out} {d:D} {r:List D} {e e1:Nv} (h:f d e=.ok (.nx e1)):forL f (d::r) e=forL f r e1:=by rw[forL,h];rfl
theorem forL_ct {f:D→Nv→Res Out} {d:D} {r:List D} {e e1:Nv} (h:f d e=.ok (.ct e1)):forL f (d::r) e=forL f r e1:=by rw[forL,h];rfl
theorem forL_rr {f:D→Nv→Res Out} {d:D} {r:List D} {e:Nv} {x:D} {a b:Nat} {j k:List (Sum Int Str×D)} (h:f d e=.ok (.rr x a j b k)):forL f (d::r) e=.ok (.rr x a j b k):=by rw[forL,h];rfl
theorem forL_rt {f:D→Nv→Res Out} {d:D} {r:List D} {e:Nv} {x:D} {k:Bool} (h:f d e=.ok (.rt x k)):forL f (d::r) e=.ok (.rt x k):=by rw[forL,h];rfl
theorem forL_inv {f:D→Nv→Res Out} (I:Nat→Nv→Prop):∀(ds:List D) (e:Nv) (j:Nat),I j e→(∀i d e,ds[i]?=some d→I (j+i) e→∃e',(f d e=.ok (.nx e')∨f d e=.ok (.ct e'))∧I (j+i+1) e')→∃e',forL f ds e=.ok (.nx e')∧I (j+ds.length) e'
 | [],e,j,h,_=>⟨e,rfl,h⟩
 | d::r,e,j,h,st=>by
  obtain⟨e1,h1,h2⟩:=st 0 d e rfl h
  obtain⟨e2,h3,h4⟩:=forL_inv I r e1 (j+1) h2 λi d' e' hd hI=>by
   have:=st (i+1) d' e' (by simpa using hd) (by rw[show j+(i+1)=j+1+i by lia];exact hI)
   rw[show j+(i+1)+1=j+1+i+1 by lia] at this
   exact this
  refine⟨e2,?_,by rw[List.length_cons,show j+(r.length+1)=j+1+r.length by lia];exact h4⟩
  rcases h1 with h1 | h1
  ·rw[forL_nx h1,h3]
  ·rw[forL_ct h1,h3]
theorem rangeD_eq:∀(lo:Int) (n:Nat),rangeD lo n=(List.range n).map λi=>.int (lo+(i:Int))
 | lo,0=>rfl
 | lo,n+1=>by
  rw[rangeD,rangeD_eq (lo+1) n,List.range_succ_eq_map,List.map_cons,List.map_map]
  congr 1
  ·simp
  ·apply List.map_congr_left
   intro i _
   simp only[Function.comp]
   congr 1
   push_cast
   lia
@[simp] theorem rangeD_length {lo:Int} {n:Nat}:(rangeD lo n).length=n:=by rw[rangeD_eq];simp
@[simp] theorem enumD_length:∀ {k:Int} {ds:List D},(enumD k ds).length=ds.length
 | k,[]=>rfl
 | k,x::r=>by rw[enumD,List.length_cons,List.length_cons,enumD_length]
end Tr
set_option maxRecDepth 100000
namespace Tr
open PySem
noncomputable def cellV (ns:List Int) (k:Nat):Int:=ns.getD k 0
noncomputable def minV (n:Int):Int:=([0,n / 5 % 7,n / 5 % 31,n / 5 % 400,n*n % 1000000000]:List Int).getD (n % 5).toNat 0
set_option genInjectivity false in
structure Part where
 name:Str
 voice:Str
 off:Int
 on:Int
noncomputable def Part.enc (p:Part):D:=.tup [.str p.name,.str p.voice,.int p.off,.int p.on]
structure Scene where
 name:Str
 len:Int
 pause:Int
 who:List Nat
noncomputable def natD (ws:List Nat):List D:=ws.map λ(i:Nat)=>D.int (i:Int)
noncomputable def Scene.enc (s:Scene):D:=.tup [.str s.name,.int s.len,.int s.pause,.tup (natD s.who)]
theorem ix_str {x:Str} {i:Nat} (h:i < x.cps.size) (hb:x.length≤big):∃y:Str,D.ix (.str x) (.int i)=.ok (.str y)∧y.length=1:=by
 refine⟨⟨#[x.cps[i]]⟩,?_,rfl⟩
 show when (decide (x.length≤big)) (Res.of ((atI x.cps.toList i).map λc=>D.str ⟨#[c]⟩))=_
 rw[when_of (decide_eq_true hb)]
 unfold atI ixN
 rw[if_pos (Int.natCast_nonneg i),if_pos (by simp;lia)]
 simp[h,Res.of]
@[simp] theorem add_str {x y:Str} (h:x.length+y.length≤big):D.bin .Add (.str x) (.str y)=.ok (.str (x++y)):=by
 show when (decide (x.length+y.length≤big)) _=_
 rw[when_of (decide_eq_true h)]
theorem ten_big:(1000:Nat) < big:=by decide
set_option genInjectivity false in
structure GoodScene (many:Nat) (s:Scene):Prop where
 len:0≤s.len
 pause:0≤s.pause
 nd:s.who.Nodup
 lt:∀i∈s.who,i < many
theorem natD_length (ws:List Nat):(natD ws).length=ws.length:=by unfold natD;simp
theorem natD_mem (i:Nat):∀ws:List Nat,D.mem (.int i) (natD ws)=decide (i∈ws)
 | []=>rfl
 | w::r=>by
  show (D.eqb (.int w) (.int i)||D.mem (.int i) (natD r))=_
  rw[natD_mem i r]
  have:D.eqb (.int w) (.int i)=decide (i=w):=by
   show ((w:Int)==(i:Int))=_
   by_cases h:i=w
   ·subst h;simp
   ·rw[decide_eq_false h];simp;lia
  rw[this]
  by_cases h1:i=w<;>by_cases h2:i∈r<;>simp[h1,h2]
theorem natD_pls (k:Nat):∀ws:List Nat,D.pls (k+1) (natD ws)=true
 | []=>rfl
 | w::r=>by
  show (D.pl k (.int w)&&D.pls (k+1) (natD r))=true
  rw[natD_pls k r];cases k<;>rfl
@[simp] theorem inn_natD {i:Nat} {ws:List Nat}:D.cmp .In (.int i) (.tup (natD ws))=.ok (.bl (decide (i∈ws))):=by
 show (do let k ←D.inn (.int i) (.tup (natD ws));.ok (D.bl k))=_
 show (do let k ←when (D.pls 30 (natD ws)&&D.pl 29 (.int i)) (.ok (D.mem (.int i) (natD ws)));.ok (D.bl k))=_
 rw[natD_pls,natD_mem];rfl
theorem pls_map {α:Type} (f:α→D) (k:Nat) (h:∀a,D.pl k (f a)=true):∀xs:List α,D.pls (k+1) (xs.map f)=true
 | []=>rfl
 | a::r=>by rw[List.map_cons,D.pls,h a,pls_map f k h r];rfl
@[simp] theorem pl_tup {n:Nat} {a:List D}:D.pl n (.tup a)=D.pls n a:=by rw[D.pl]
@[simp] theorem pl_lst {n:Nat} {a:List D}:D.pl n (.lst a)=D.pls n a:=by rw[D.pl]
noncomputable def Scene.both (s:Scene):Int:=s.len+s.pause
noncomputable def between (ss:List Scene) (s t:Nat):Int:=((ss[s]?).map Scene.pause).getD 0+(((ss.drop (s+1)).take (t - (s+1))).map Scene.both).sum
theorem between_next (ss:List Scene) (s:Nat):between ss s (s+1)=((ss[s]?).map Scene.pause).getD 0:=by unfold between;simp
theorem take_add_one {α:Type} (l:List α) (n:Nat) (a:α) (h:l[n]?=some a):l.take (n+1)=l.take n++[a]:=by
 rw[List.take_add_one,h];rfl
theorem between_succ {ss:List Scene} {s t:Nat} {x:Scene} (h:s < t) (hx:ss[t]?=some x):between ss s (t+1)=between ss s t+x.both:=by
 unfold between
 have e:(ss.drop (s+1))[t - (s+1)]?=some x:=by rw[List.getElem?_drop,show s+1+(t - (s+1))=t by lia];exact hx
 rw[show t+1 - (s+1)=t - (s+1)+1 by lia,take_add_one _ _ _ e,List.map_append,List.sum_append]
 simp
 lia
theorem cut_nn {α:Type} {xs:List α} {a b:Nat} (ha:a≤xs.length) (hb:b≤xs.length):cut xs (some (a:Int)) (some (b:Int))=(xs.drop a).take (b - a):=by
 unfold cut sIx
 simp only[]
 rw[if_neg (by lia),if_neg (by lia),Int.toNat_natCast,Int.toNat_natCast,Nat.min_eq_left ha,Nat.min_eq_left hb]
theorem ss_at {ss:List Scene} {s:Nat} {x:Scene} (h:ss[s]?=some x):D.ix (.tup (ss.map Scene.enc)) (.int s)=.ok x.enc:=ix_t (by rw[List.getElem?_map,h];rfl)
theorem ps_at {ss:List Part} {s:Nat} {x:Part} (h:ss[s]?=some x):D.ix (.tup (ss.map Part.enc)) (.int s)=.ok x.enc:=ix_t (by rw[List.getElem?_map,h];rfl)
@[simp] theorem enc1 {s:Scene}:D.ix s.enc (.int 1)=.ok (.int s.len):=ix_t1
@[simp] theorem enc2 {s:Scene}:D.ix s.enc (.int 2)=.ok (.int s.pause):=ix_t2
@[simp] theorem enc3 {s:Scene}:D.ix s.enc (.int 3)=.ok (.tup (natD s.who)):=ix_t3
@[simp] theorem penc2 {s:Part}:D.ix s.enc (.int 2)=.ok (.int s.off):=ix_t2
@[simp] theorem penc3 {s:Part}:D.ix s.enc (.int 3)=.ok (.int s.on):=ix_t3
end Tr
set_option maxRecDepth 100000
namespace Tr
open PySem
noncomputable def natI (t:Nat):D:=.int (t:Int)
theorem rangeD_nat (lo n:Nat):rangeD (lo:Int) n=(List.range' lo n).map natI:=by
 rw[rangeD_eq,List.range'_eq_map_range,List.map_map]
 apply List.map_congr_left
 intro i _
 simp[natI]
theorem rng_nat {n:Nat} (h:n≤1000):rngR (.int (n:Int))=.ok ((List.range n).map natI):=by
 rw[rng_ok (by lia),rangeD_eq]
 congr 1
 apply List.map_congr_left
 intro i _
 simp[natI]
theorem rng2_succ {s m:Nat} (h:s≤1000) (h2:m≤1000):rng2R (.int ((s:Int)+1)) (.int (m:Int))=.ok ((List.range' (s+1) (m - (s+1))).map natI):=by
 have:rng2R (.int ((s+1:Nat):Int)) (.int (m:Int))=_:=rng2_ok (by lia) (by lia)
 rw[rangeD_nat] at this
 exact this
theorem forL_findN {f:D→Nv→Res Out} (I:Nv→Prop) (g:Nat→Option (D×Bool)) (ts:List Nat) (e:Nv) (h:I e)
 (st:∀t∈ts,∀e,I e→match g t with | some (x,k)=>f (natI t) e=.ok (.rt x k) | none=>∃e',(f (natI t) e=.ok (.nx e')∨f (natI t) e=.ok (.ct e'))∧I e') :
 match ts.findSome? g with | some (x,k)=>forL f (ts.map natI) e=.ok (.rt x k) | none=>∃e',forL f (ts.map natI) e=.ok (.nx e')∧I e':=by
 induction ts generalizing e with
 | nil=>exact⟨e,rfl,h⟩
 | cons t r ih =>
  have h1:=st t List.mem_cons_self e h
  rw[List.findSome?_cons,List.map_cons]
  cases hg:g t with
  | some y =>
   rw[hg] at h1
   exact forL_rt h1
  | none =>
   rw[hg] at h1
   obtain⟨e',h2,h3⟩:=h1
   have eq:forL f (natI t::r.map natI) e=forL f (r.map natI) e':=by
    rcases h2 with h2 | h2
    ·exact forL_nx h2
    ·exact forL_ct h2
   rw[eq]
   exact ih e' h3 λd' hd=>st d' (List.mem_cons_of_mem _ hd)
theorem findSome_omap {α β γ:Type} (h:α→Option β) (F:β→γ):∀l:List α,l.findSome? (λt=>(h t).map F)=(l.findSome? h).map F
 | []=>rfl
 | a::r=>by
  rw[List.findSome?_cons,List.findSome?_cons]
  cases e:h a with
  | none=>simp[findSome_omap h F r]
  | some b=>rfl
inductive Rz where
 | sc (s:Nat) | ch (s t:Nat) (have_ need:Int)
noncomputable def Rz.enc:Rz→D
 | .sc s=>.tup [.str "scene", .int s]
 | .ch s t h n=>.tup [.str "change", .int s,.int t,.int h,.int n]
noncomputable def optR:Option Rz→D
 | none=>.non
 | some r=>r.enc
@[simp] theorem isNon_optR {o:Option Rz}:(optR o).isNon=o.isNone:=by
 cases o with
 | none=>rfl
 | some r=>cases r<;>rfl
noncomputable def whoAt (ss:List Scene) (t:Nat):List Nat:=((ss[t]?).map Scene.who).getD []
noncomputable def needV (ps:List Part) (i j:Nat):Int:=((ps[i]?).map Part.off).getD 0+((ps[j]?).map Part.on).getD 0
noncomputable def shortAt (ps:List Part) (ss:List Scene) (s one other t:Nat):Option Rz :=
 if other∈whoAt ss t∧between ss s t < needV ps one other then some (.ch s t (between ss s t) (needV ps one other)) else none
noncomputable def shortFrom (ps:List Part) (ss:List Scene) (s one other:Nat):Option Rz:=(List.range' (s+1) (ss.length - (s+1))).findSome? (shortAt ps ss s one other)
noncomputable def reasonFrom (ps:List Part) (ss:List Scene) (i j s:Nat):Option Rz :=
 if i∈whoAt ss s∧j∈whoAt ss s then some (.sc s) else if i∈whoAt ss s then shortFrom ps ss s i j else if j∈whoAt ss s then shortFrom ps ss s j i else none
noncomputable def reasonOf (ps:List Part) (ss:List Scene) (i j:Nat):Option Rz:=(List.range ss.length).findSome? (reasonFrom ps ss i j)
noncomputable def begV (ss:List Scene) (k:Nat):Int:=((ss.take k).map Scene.both).sum
theorem begV_succ {ss:List Scene} {k:Nat} {x:Scene} (h:ss[k]?=some x):begV ss (k+1)=begV ss k+x.both:=by
 unfold begV
 rw[take_add_one _ _ _ h,List.map_append,List.sum_append]
 simp
theorem begV_between {ss:List Scene} {s:Nat} {x:Scene} (hx:ss[s]?=some x):∀ {t:Nat},s < t→t≤ss.length→begV ss t - begV ss s - x.len=between ss s t:=by
 intro t
 induction t with
 | zero=>intro h;lia
 | succ t ih =>
  intro h1 h2
  by_cases hs:s=t
  ·subst hs
   rw[begV_succ hx,between_next,hx]
   simp[Scene.both]
   lia
  ·have hy:=List.getElem?_eq_getElem (l:=ss) (i:=t) (by lia)
   rw[begV_succ hy,between_succ (by lia) hy,←ih (by lia) (by lia)]
   lia
theorem who_at {ss:List Scene} {s:Nat} (h:s < ss.length):whoAt ss s=ss[s].who:=by unfold whoAt;rw[List.getElem?_eq_getElem h];rfl
theorem need_at {ps:List Part} {i j:Nat} (h:i < ps.length) (h2:j < ps.length):needV ps i j=ps[i].off+ps[j].on:=by unfold needV;rw[List.getElem?_eq_getElem h,List.getElem?_eq_getElem h2];rfl
noncomputable def Rz.out (r:Rz):D×Bool:=(r.enc,false)
theorem rz_find {f:D→Nv→Res Out} {I:Nv→Prop} {g:Nat→Option Rz} {ts:List Nat} {e:Nv} (h:I e)
 (st:∀t∈ts,∀e,I e→match g t with | some r=>f (natI t) e=.ok (.rt r.enc false) | none=>∃e',f (natI t) e=.ok (.nx e')∧I e') :
 match ts.findSome? g with | some r=>forL f (ts.map natI) e=.ok (.rt r.enc false) | none=>∃e',forL f (ts.map natI) e=.ok (.nx e')∧I e':=by
 have:=forL_findN (f:=f) I (λt=>(g t).map Rz.out) ts e h (by
  intro t ht e he
  have:=st t ht e he
  cases hg:g t with
  | none=>rw[hg] at this;obtain⟨e',h1,h2⟩:=this;exact⟨e',.inl h1,h2⟩
  | some r=>rw[hg] at this;exact this)
 rw[findSome_omap] at this
 cases hg:ts.findSome? g with
 | none=>rw[hg] at this;exact this
 | some r=>rw[hg] at this;exact this
end Tr
set_option maxRecDepth 100000
namespace Tr
open PySem
theorem valK_map (k j:Sum Int Str) (y:D):∀kvs:List (Sum Int Str×D),valK (kvs.map λkv=>if kv.1=k then (kv.1,y) else kv) j=(valK kvs j).map λx=>if j=k then y else x
 | []=>rfl
 | (k',d)::r=>by
  have ih:=valK_map k j y r
  rw[List.map_cons]
  unfold valK at ih ⊢
  by_cases h1:k'=k<;>by_cases h2:k'=j
  ·subst h1;subst h2;simp[List.find?_cons]
  ·rw[if_pos h1]
   simp only[List.find?_cons,h2,decide_false,ih]
  ·have h3:j≠k:=λz=>h1 (h2.trans z)
   rw[if_neg h1]
   simp[List.find?_cons,h2,h3]
  ·rw[if_neg h1]
   simp only[List.find?_cons,h2,decide_false,ih]
theorem valK_any (k:Sum Int Str):∀kvs:List (Sum Int Str×D),(kvs.any λkv=>decide (kv.1=k))=(valK kvs k).isSome
 | []=>rfl
 | (k',d)::r=>by
  have ih:=valK_any k r
  unfold valK at ih ⊢
  by_cases h:k'=k
  ·simp[List.find?_cons,h]
  ·simp only[List.any_cons,List.find?_cons,h,decide_false,Bool.false_or,ih]
theorem valK_snoc (k j:Sum Int Str) (y:D):∀kvs:List (Sum Int Str×D),valK kvs k=none→valK (kvs++[(k,y)]) j=if j=k then some y else valK kvs j
 | [],_=>by
  by_cases h:k=j
  ·subst h;simp[valK,List.find?_cons]
  ·have h':¬j=k:=λz=>h z.symm
   simp[valK,List.find?_cons,h,h']
 | (k',d)::r,hn=>by
  have hk:¬k'=k:=λz=>by subst z;simp[valK,List.find?_cons] at hn
  have hn':valK r k=none:=by simpa[valK,List.find?_cons,hk] using hn
  have ih:=valK_snoc k j y r hn'
  unfold valK at ih ⊢
  by_cases h:k'=j
  ·have h':¬j=k:=λz=>hk (h.trans z)
   simp[List.find?_cons,h,h']
  ·simp only[List.cons_append,List.find?_cons,h,decide_false,ih]
theorem valK_put (kvs:List (Sum Int Str×D)) (k j:Sum Int Str) (y:D):valK (putKD kvs k y) j=if j=k then some y else valK kvs j:=by
 unfold putKD
 rw[valK_any]
 cases h:valK kvs k with
 | none =>
  rw[if_neg (by simp)]
  exact valK_snoc k j y kvs h
 | some x =>
  rw[if_pos (by simp),valK_map]
  by_cases e:j=k
  ·subst e;rw[h];simp
  ·rw[if_neg e]
   cases valK kvs j<;>simp[e]
theorem compL_enc {α:Type} {f:D→Res (Option D)} (enc:α→D) (g:α→Option D):∀ {xs:List α},(∀a∈xs,f (enc a)=.ok (g a))→compL f (xs.map enc)=.ok (xs.filterMap g)
 | [],_=>rfl
 | a::r,h=>by
  rw[List.map_cons,compL,h a List.mem_cons_self,Res.ok_bind,compL_enc enc g λx hx=>h x (List.mem_cons_of_mem _ hx),Res.ok_bind,List.filterMap_cons]
  cases g a<;>rfl
theorem compL_keep {α:Type} {f:D→Res (Option D)} (enc:α→D) (p:α→Bool) {xs:List α} (h:∀a∈xs,f (enc a)=.ok (if p a=true then some (enc a) else none)):compL f (xs.map enc)=.ok ((xs.filter p).map enc):=by
 rw[compL_enc enc (λa=>if p a=true then some (enc a) else none) h]
 congr 1
 induction xs with
 | nil=>rfl
 | cons a r ih =>
  rw[List.filterMap_cons,List.filter_cons,ih λx hx=>h x (List.mem_cons_of_mem _ hx)]
  cases p a<;>rfl
noncomputable def pairD (p:Nat×Nat):D:=.tup [.int p.1,.int p.2]
noncomputable def pairsFrom (many i:Nat):List (Nat×Nat):=(List.range' (i+1) (many - (i+1))).map λj=>(i,j)
noncomputable def pairsTo (many:Nat):Nat→List (Nat×Nat)
 | 0=>[]
 | k+1=>pairsTo many k++pairsFrom many k
noncomputable def pairsOf (many:Nat):List (Nat×Nat):=pairsTo many many
theorem pairsFrom_mem {many i:Nat} {p:Nat×Nat} (h:p∈pairsFrom many i):p.1=i∧i < p.2∧p.2 < many:=by
 obtain⟨j,hj,rfl⟩:=List.mem_map.mp h
 have:=List.mem_range'_1.mp hj
 exact⟨rfl,by lia,by lia⟩
theorem pairsTo_mem {many:Nat} {p:Nat×Nat}:∀ {k:Nat},p∈pairsTo many k→p.1 < p.2∧p.2 < many
 | 0,h=>by simp[pairsTo] at h
 | k+1,h=>by
  rcases List.mem_append.mp h with q | q
  ·exact pairsTo_mem q
  ·have:=pairsFrom_mem q;lia
theorem pairsTo_length (many:Nat):∀k,(pairsTo many k).length≤k*many
 | 0=>by simp[pairsTo]
 | k+1=>by
  have:=pairsTo_length many k
  rw[pairsTo,List.length_append,pairsFrom,List.length_map,List.length_range',Nat.succ_mul]
  lia
noncomputable def lenAt (ss:List Scene) (t:Nat):Int:=((ss[t]?).map Scene.len).getD 0
noncomputable def lastEnd (ss:List Scene) (one:Nat):Nat→Option Int
 | 0=>none
 | k+1=>if one∈whoAt ss k then some (begV ss k+lenAt ss k) else lastEnd ss one k
noncomputable def hitAt (ps:List Part) (ss:List Scene) (one other t:Nat):Bool :=
 decide (other∈whoAt ss t)&&(match lastEnd ss one t with | some e=>decide (begV ss t - e < needV ps one other) | none=>false)
noncomputable def hit (ps:List Part) (ss:List Scene) (i j t:Nat):Bool:=(decide (i∈whoAt ss t)&&decide (j∈whoAt ss t))||hitAt ps ss i j t||hitAt ps ss j i t
theorem begV_mono {ss:List Scene} (g:∀s∈ss,0≤s.len∧0≤s.pause) {s t:Nat} (h:s < t) (ht:t≤ss.length):begV ss s+lenAt ss s≤begV ss t:=by
 have hs:s < ss.length:=by lia
 have hx:=List.getElem?_eq_getElem hs
 have e:=begV_between hx h ht
 have hl:lenAt ss s=ss[s].len:=by unfold lenAt;rw[hx];rfl
 have hb:0≤between ss s t:=by
  unfold between
  rw[hx]
  have h1:=(g ss[s] (List.getElem_mem hs)).2
  have h2:0≤(((ss.drop (s+1)).take (t - (s+1))).map Scene.both).sum:=by
   have:∀l:List Scene,(∀x∈l,0≤x.len∧0≤x.pause)→0≤(l.map Scene.both).sum:=by
    intro l
    induction l with
    | nil=>intro _;simp
    | cons x r ih =>
     intro h
     have a:=h x List.mem_cons_self
     have b:=ih λy hy=>h y (List.mem_cons_of_mem _ hy)
     rw[List.map_cons,List.sum_cons]
     unfold Scene.both at *
     lia
   exact this _ λx hx=>g x (List.mem_of_mem_drop (List.mem_of_mem_take hx))
  simp only[Option.map_some,Option.getD_some]
  lia
 lia
theorem between_eq {ss:List Scene} {s t:Nat} (h:s < t) (ht:t≤ss.length):between ss s t=begV ss t - (begV ss s+lenAt ss s):=by
 have hx:=List.getElem?_eq_getElem (l:=ss) (i:=s) (by lia)
 have e:=begV_between hx h ht
 have hl:lenAt ss s=(ss[s]'(by lia)).len:=by unfold lenAt;rw[hx];rfl
 lia
theorem find_some {α β:Type} {f:α→Option β} {l:List α}:(l.findSome? f).isSome=l.any λa=>(f a).isSome:=by
 induction l with
 | nil=>rfl
 | cons a r ih =>
  rw[List.findSome?_cons,List.any_cons]
  cases f a<;>simp[ih]
theorem short_some {ps:List Part} {ss:List Scene} {s i j:Nat}:(shortFrom ps ss s i j).isSome=true↔∃t,s < t∧t < ss.length∧j∈whoAt ss t∧between ss s t < needV ps i j:=by
 unfold shortFrom
 rw[find_some,List.any_eq_true]
 constructor
 ·rintro⟨t,h1,h2⟩
  have:=List.mem_range'_1.mp h1
  unfold shortAt at h2
  split at h2
  ·rename_i c;exact⟨t,by lia,by lia,c.1,c.2⟩
  ·cases h2
 ·rintro⟨t,h1,h2,h3,h4⟩
  refine⟨t,List.mem_range'_1.mpr ⟨by lia,by lia⟩,?_⟩
  unfold shortAt
  rw[if_pos ⟨h3,h4⟩];rfl
theorem from_some {ps:List Part} {ss:List Scene} {s i j:Nat}:(reasonFrom ps ss i j s).isSome=true↔(i∈whoAt ss s∧j∈whoAt ss s)∨(i∈whoAt ss s∧(shortFrom ps ss s i j).isSome=true∧¬j∈whoAt ss s)∨(j∈whoAt ss s∧(shortFrom ps ss s j i).isSome=true∧¬i∈whoAt ss s):=by
 unfold reasonFrom
 by_cases h1:i∈whoAt ss s<;>by_cases h2:j∈whoAt ss s<;>simp[h1,h2]
theorem reason_some {ps:List Part} {ss:List Scene} {i j:Nat}:(reasonOf ps ss i j).isSome=true↔∃s,s < ss.length∧(reasonFrom ps ss i j s).isSome=true:=by
 unfold reasonOf
 rw[find_some,List.any_eq_true]
 constructor
 ·rintro⟨s,h1,h2⟩;exact⟨s,by simpa using h1,h2⟩
 ·rintro⟨s,h1,h2⟩;exact⟨s,by simpa using h1,h2⟩
theorem calm_reason {ps:List Part} {ss:List Scene} (g:∀s∈ss,0≤s.len∧0≤s.pause) (hp:∀p∈ps,p.off=0∧p.on=0) (i j:Nat):(reasonOf ps ss i j).isSome=ss.any λs=>decide (i∈s.who)&&decide (j∈s.who):=by
 have need0:∀i j,needV ps i j=0:=by
  intro i j
  unfold needV
  have a:((ps[i]?).map Part.off).getD 0=0:=by
   cases e:ps[i]? with
   | none=>rfl
   | some p=>exact (hp p (List.mem_of_getElem? e)).1
  have b:((ps[j]?).map Part.on).getD 0=0:=by
   cases e:ps[j]? with
   | none=>rfl
   | some p=>exact (hp p (List.mem_of_getElem? e)).2
  lia
 have noshort:∀s i j,(shortFrom ps ss s i j).isSome=true→False:=by
  intro s i j h
  obtain⟨t,h1,h2,h3,h4⟩:=short_some.mp h
  rw[need0,between_eq h1 (by lia)] at h4
  have:=begV_mono g h1 (by lia)
  lia
 rw[Bool.eq_iff_iff,reason_some,List.any_eq_true]
 constructor
 ·rintro⟨s,h1,h2⟩
  rcases from_some.mp h2 with h | ⟨_,h',_⟩ | ⟨_,h',_⟩
  ·refine⟨ss[s],List.getElem_mem h1,?_⟩
   rw[who_at h1] at h
   rw[decide_eq_true h.1,decide_eq_true h.2];rfl
  ·exact (noshort _ _ _ h').elim
  ·exact (noshort _ _ _ h').elim
 ·rintro⟨x,h1,h2⟩
  obtain⟨s,hs,rfl⟩:=List.getElem_of_mem h1
  refine⟨s,hs,from_some.mpr (.inl ?_)⟩
  rw[who_at hs]
  simpa using h2
end Tr
set_option maxRecDepth 100000
namespace Tr
open PySem
noncomputable def hasC (g:Str) (c:Nat):Bool:=decide (c∈g.cps.toList)
noncomputable def signs (x:Str):List Nat:=x.cps.toList
@[simp] theorem run_len_str (x:Str):Bt.run .len [.str x]=when (decide (x.length≤big)) (.ok (.int x.length)):=id rfl
theorem len_signs (x:Str):x.length=(signs x).length:=by cases x;simp[Str.length,signs]
section
variable {T:Tab}
@[simp] theorem fresh_cmp {o:CmpOp} {a b:E}:freshE T (.cmp o a b)=false:=id rfl
@[simp] theorem fresh_and {a b:E}:freshE T (.and a b)=false:=id rfl
@[simp] theorem fresh_mod {a b:E}:freshE T (.bin .Mod a b)=false:=id rfl
@[simp] theorem fresh_con {d:D}:freshE T (.con d)=false:=id rfl
@[simp] theorem fresh_var {i:Nat}:freshE T (.var i)=false:=id rfl
@[simp] theorem fresh_tup {a:E}:freshE T (.tup a)=false:=id rfl
end
theorem cmp_eq_str (x y:Str):D.cmp .Eq (.str x) (.str y)=.ok (.bl (x==y)):=rfl
theorem str_eq_signs {x y:Str} (h:signs x=signs y):x=y:=by
 cases x;cases y
 simp only[signs] at h
 congr 1
 exact Array.toList_inj.mp h
theorem atI_nat {α:Type} {xs:List α} {k:Nat} {x:α} (h:xs[k]?=some x):atI xs (k:Int)=some x:=by
 have hk:=(List.getElem?_eq_some_iff.mp h).1
 unfold atI ixN
 rw[if_pos (by lia),if_pos (by lia)]
 exact h
@[simp] theorem ix_lst2 {a b c:D} {r:List D}:(D.lst (a::b::c::r)).ix (.int 2)=.ok c:=by
 show Res.of (atI _ ((2:Nat):Int))=_
 rw[atI_nat (x:=c) rfl];rfl
@[simp] theorem ix_lst3 {a b c d:D} {r:List D}:(D.lst (a::b::c::d::r)).ix (.int 3)=.ok d:=by
 show Res.of (atI _ ((3:Nat):Int))=_
 rw[atI_nat (x:=d) rfl];rfl
@[simp] theorem ix_lst4 {a b c d f:D} {r:List D}:(D.lst (a::b::c::d::f::r)).ix (.int 4)=.ok f:=by
 show Res.of (atI _ ((4:Nat):Int))=_
 rw[atI_nat (x:=f) rfl];rfl
theorem cut_from {α:Type} {xs:List α} {a:Nat} (ha:a≤xs.length):cut xs (some (a:Int)) none=xs.drop a:=by
 unfold cut sIx
 simp only[]
 rw[if_neg (by lia),Int.toNat_natCast,Nat.min_eq_left ha,List.take_of_length_le (by simp)]
theorem add_strs {a b:List Nat} (h:a.length+b.length≤big):D.bin .Add (.str ⟨a.toArray⟩) (.str ⟨b.toArray⟩)=.ok (.str ⟨(a++b).toArray⟩):=by
 show when (decide ((⟨a.toArray⟩:Str).length+(⟨b.toArray⟩:Str).length≤big)) (.ok (D.str ((⟨a.toArray⟩:Str)++(⟨b.toArray⟩:Str))))=_
 rw[show decide ((⟨a.toArray⟩:Str).length+(⟨b.toArray⟩:Str).length≤big)=true by
  rw[len_signs,len_signs];simp only[signs,List.toList_toArray];exact decide_eq_true h]
 refine congrArg (λz=>Res.ok (D.str z)) (str_eq_signs ?_)
 show (a.toArray++b.toArray).toList=(a++b).toArray.toList
 simp
theorem cut_to {α:Type} {xs:List α} {b:Nat} (hb:b≤xs.length):cut xs none (some (b:Int))=xs.take b:=by
 unfold cut sIx
 simp only[]
 rw[if_neg (by lia),Int.toNat_natCast,Nat.min_eq_left hb,List.drop_zero,Nat.sub_zero]
theorem add_lsts {a b:List D} (h:a.length+b.length≤big):D.bin .Add (.lst a) (.lst b)=.ok (.lst (a++b)):=by
 show when (decide (a.length+b.length≤big)) (.ok (D.lst (a++b)))=_
 rw[show decide (a.length+b.length≤big)=true by simpa using h]
 rfl
noncomputable def rotV {α:Type} (c:Int) (l:List α):List α:=l.drop (c % ((l.length:Int)+1)).toNat++l.take (c % ((l.length:Int)+1)).toNat
theorem rot_le {α:Type} (c:Int) (l:List α):(c % ((l.length:Int)+1)).toNat≤l.length:=by
 have:=Int.emod_lt_of_pos c (show (0:Int) < (l.length:Int)+1 by lia)
 lia
theorem rot_mem {α:Type} {c:Int} {l:List α} {x:α}:x∈rotV c l↔x∈l:=by
 unfold rotV
 rw[List.mem_append]
 constructor
 ·rintro (h | h)
  ·exact List.mem_of_mem_drop h
  ·exact List.mem_of_mem_take h
 ·intro h
  rw[←List.take_append_drop (c % ((l.length:Int)+1)).toNat l,List.mem_append] at h
  exact h.symm
theorem rot_perm {α:Type} (c:Int) (l:List α):(rotV c l).Perm l:=by
 unfold rotV
 refine (List.perm_append_comm).trans ?_
 rw[List.take_append_drop]
theorem rot_map {α β:Type} (f:α→β) (c:Int) (l:List α):rotV c (l.map f)=(rotV c l).map f:=by
 unfold rotV
 rw[List.length_map,List.map_append,List.map_drop,List.map_take]
@[simp] theorem ix_lst5 {a b c d f g:D} {r:List D}:(D.lst (a::b::c::d::f::g::r)).ix (.int 5)=.ok g:=by
 show Res.of (atI _ ((5:Nat):Int))=_
 rw[atI_nat (x:=g) rfl];rfl
@[simp] theorem ix_lst6 {a b c d f g h:D} {r:List D}:(D.lst (a::b::c::d::f::g::h::r)).ix (.int 6)=.ok h:=by
 show Res.of (atI _ ((6:Nat):Int))=_
 rw[atI_nat (x:=h) rfl];rfl
@[simp] theorem ix_lst7 {a b c d f g h i:D} {r:List D}:(D.lst (a::b::c::d::f::g::h::i::r)).ix (.int 7)=.ok i:=by
 show Res.of (atI _ ((7:Nat):Int))=_
 rw[atI_nat (x:=i) rfl];rfl
noncomputable def ent (p:Str×List D):D:=.tup (.str p.1::p.2)
end Tr
set_option maxRecDepth 100000
namespace Tr
open PySem
set_option genInjectivity false in
structure Player where
 name:Str
 voices:Str
 hire:Int
noncomputable def Player.enc (p:Player):D:=.tup [.str p.name,.str p.voices,.int p.hire]
@[simp] theorem qenc1 {s:Player}:D.ix s.enc (.int 1)=.ok (.str s.voices):=ix_t1
@[simp] theorem penc1 {s:Part}:D.ix s.enc (.int 1)=.ok (.str s.voice):=ix_t1
theorem qs_at {ss:List Player} {s:Nat} {x:Player} (h:ss[s]?=some x):D.ix (.tup (ss.map Player.enc)) (.int s)=.ok x.enc:=ix_t (by rw[List.getElem?_map,h];rfl)
noncomputable def optN:Option Nat→D
 | none=>.non
 | some j=>.int (j:Int)
@[simp] theorem optN_none:optN none=.non:=id rfl
@[simp] theorem optN_some {j:Nat}:optN (some j)=.int (j:Int):=id rfl
noncomputable def hasV (p:Part) (q:Player):Bool:=match signs p.voice with
 | [c]=>hasC q.voices c
 | _=>false
theorem notin_voices {p:Part} {q:Player} (h:(signs p.voice).length=1):D.cmp .NotIn (.str p.voice) (.str q.voices)=.ok (.bl (!hasV p q)):=by
 obtain⟨c,hc⟩:∃c,signs p.voice=[c]:=List.length_eq_one_iff.mp h
 have e:p.voice=chr1 c:=str_eq_signs (by rw[hc];rfl)
 unfold hasV
 rw[hc]
 rw[e]
 rfl
noncomputable def mayB (P:List Part) (Q:List Player) (k j:Nat):Bool:=((P[k]?).bind λp=>(Q[j]?).map λq=>hasV p q).getD false
theorem mayB_at {P:List Part} {Q:List Player} {k j:Nat} (hk:k < P.length) (hj:j < Q.length):mayB P Q k j=hasV P[k] Q[j]:=by
 unfold mayB;rw[List.getElem?_eq_getElem hk,List.getElem?_eq_getElem hj];rfl
theorem cast_at {cs:List (Option Nat)} {k:Nat} {o:Option Nat} (h:cs[k]?=some o):D.ix (.lst (cs.map optN)) (.int k)=.ok (optN o):=ix_l (by rw[List.getElem?_map,h];rfl)
theorem cast_eqi (o:Option Nat) (j:Nat):D.cmp .Eq (optN o) (.int j)=.ok (.bl (decide (o=some j))):=by
 cases o with
 | none=>rfl
 | some i =>
  show Res.ok (D.bl ((i:Int)==(j:Int)))=_
  by_cases h:i=j
  ·subst h;simp
  ·rw[show ((i:Int)==(j:Int))=false by simp;lia];simp[h]
theorem cast_eqo (o o':Option Nat):D.cmp .Eq (optN o) (optN o')=.ok (.bl (decide (o=o'))):=by
 cases o' with
 | none=>cases o<;>rfl
 | some j=>exact cast_eqi o j
theorem cmp_tup_nil {xs:List D} (h:D.pls 30 xs=true):D.cmp .Eq (.tup xs) (.tup [])=.ok (.bl xs.isEmpty):=by
 show when (D.eqOk _ _) (.ok (D.bl (D.eqb (.tup xs) (.tup []))))=_
 rw[when_of (by unfold D.eqOk;rw[pl_tup,h];rfl)]
 cases xs<;>simp[D.eqb,D.eqs]
inductive Flt where
 | nob (i:Nat) | voi (i k:Nat) | cla (i j:Nat)
noncomputable def Flt.enc:Flt→D
 | .nob i=>.tup [.str "nobody", .int i]
 | .voi i k=>.tup [.str "voice", .int i,.int k]
 | .cla i j=>.tup [.str "clash", .int i,.int j]
noncomputable def optF:Option Flt→D
 | none=>.non
 | some x=>x.enc
@[simp] theorem isNon_optF {o:Option Flt}:(optF o).isNon=o.isNone:=by
 cases o with
 | none=>rfl
 | some x=>cases x<;>rfl
noncomputable def faultP (P:List Part) (Q:List Player) (cs:List (Option Nat)) (k:Nat):Option Flt:=match cs.getD k none with
 | none=>some (.nob k)
 | some j=>if mayB P Q k j=true then none else some (.voi k j)
noncomputable def oneB (cs:List (Option Nat)) (i j:Nat):Bool:=(cs.getD i none).isSome&&decide (cs.getD i none=cs.getD j none)
noncomputable def faultsV (P:List Part) (Q:List Player) (ps:List (Nat×Nat)) (cs:List (Option Nat)):List Flt :=
 (List.range cs.length).filterMap (faultP P Q cs)++(ps.filter λp=>oneB cs p.1 p.2).map λp=>.cla p.1 p.2
theorem enumD_range {α:Type} (f:α→D) (x:α):∀(cs:List α) (j:Nat),enumD (j:Int) (cs.map f)=(List.range cs.length).map (λk=>D.tup [.int ((j+k:Nat):Int),f (cs.getD k x)])
 | [],_=>rfl
 | c::r,j=>by
  rw[List.map_cons,enumD,List.length_cons,List.range_succ_eq_map,List.map_cons,List.map_map]
  have h:=enumD_range f x r (j+1)
  rw[show ((j+1:Nat):Int)=(j:Int)+1 by push_cast;rfl] at h
  rw[h]
  congr 1
  apply List.map_congr_left
  intro k _
  simp only[Function.comp,List.getD_cons_succ]
  congr 4
  lia
theorem getD_at {cs:List (Option Nat)} {k:Nat} (h:k < cs.length):cs[k]?=some (cs.getD k none):=by
 rw[List.getD_eq_getElem?_getD,List.getElem?_eq_getElem h];rfl
theorem castD_at {cs:List (Option Nat)} {k:Nat} (h:k < cs.length):D.ix (.lst (cs.map optN)) (.int k)=.ok (optN (cs.getD k none)):=cast_at (getD_at h)
noncomputable def Flt.names (p:Nat):Flt→Bool
 | .nob i=>i==p
 | .voi i _=>i==p
 | .cla i j=>i==p||j==p
end Tr
set_option maxRecDepth 100000
namespace Tr
open PySem
end Tr
set_option maxRecDepth 100000
namespace Tr
open PySem
end Tr
set_option maxRecDepth 100000
namespace Tr
open PySem
noncomputable def getA (c:List (Nat×Nat)) (p:Nat):Option Nat:=(c.find? λx=>x.1==p).map (·.2)
noncomputable def putA (c:List (Nat×Nat)) (p g:Nat):List (Nat×Nat):=if (c.any λx=>x.1==p)=true then c.map (λx=>if x.1=p then (x.1,g) else x) else c++[(p,g)]
noncomputable def fcL (rec:Nat→List (Nat×Nat)→List Nat→Option (Bool×List (Nat×Nat)×List Nat)) (gap:Nat):List Nat→List (Nat×Nat)→List Nat→Option (Bool×List (Nat×Nat)×List Nat)
 | [],c,a=>some (false,c,a)
 | p::r,c,a=>if p∈a then fcL rec gap r c a else
  match getA c p with
  | none=>some (true,putA c p gap,a++[p])
  | some g=>match rec g c (a++[p]) with
   | some (true,c',a')=>some (true,putA c' p gap,a')
   | some (false,c',a')=>fcL rec gap r c' a'
   | none=>none
noncomputable def fc (ch:Nat→List Nat):Nat→Nat→List (Nat×Nat)→List Nat→Option (Bool×List (Nat×Nat)×List Nat)
 | 0,_,_,_=>none
 | n+1,gap,c,a=>fcL (fc ch n) gap (ch gap) c a
theorem getA_none {c:List (Nat×Nat)} {p:Nat}:getA c p=none↔p∉c.map (·.1):=by
 unfold getA
 rw[Option.map_eq_none_iff,List.find?_eq_none]
 constructor
 ·intro h hm
  obtain⟨x,hx,e⟩:=List.mem_map.mp hm
  exact h x hx (by simpa using e)
 ·intro h x hx e
  exact h (List.mem_map.mpr ⟨x,hx,by simpa using e⟩)
theorem nodup_sub_len:∀ {l U:List Nat},l.Nodup→(∀x∈l,x∈U)→l.length≤U.length
 | [],_,_,_=>Nat.zero_le _
 | a::r,U,h,hs=>by
  rw[List.nodup_cons] at h
  have ha:=hs a List.mem_cons_self
  have:=nodup_sub_len (l:=r) (U:=U.erase a) h.2 λx hx=>(List.mem_erase_of_ne (λe:x=a=>h.1 (e▸hx))).mpr (hs x (List.mem_cons_of_mem _ hx))
  have l:=List.length_erase_of_mem ha
  have:=List.length_pos_of_mem ha
  rw[List.length_cons];lia
theorem getA_mem {c:List (Nat×Nat)} {p g:Nat} (h:getA c p=some g):(p,g)∈c:=by
 unfold getA at h
 obtain⟨x,hx,rfl⟩:=Option.map_eq_some_iff.mp h
 have h1:=List.mem_of_find?_eq_some hx
 have h2:=List.find?_some hx
 have:x.1=p:=by simpa using h2
 rw[←this];exact h1
theorem any_key {c:List (Nat×Nat)} {p:Nat}:(c.any λx=>x.1==p)=true↔p∈c.map (·.1):=by
 rw[List.any_eq_true,List.mem_map]
 simp
theorem keys_put {c:List (Nat×Nat)} {p g:Nat}:(putA c p g).map (·.1)=if p∈c.map (·.1) then c.map (·.1) else c.map (·.1)++[p]:=by
 unfold putA
 by_cases h:p∈c.map (·.1)
 ·rw[if_pos (any_key.mpr h),if_pos h,List.map_map]
  apply List.map_congr_left
  intro x _
  show (if x.1=p then (x.1,g) else x).1=x.1
  split<;>rfl
 ·rw[if_neg (λz=>h (any_key.mp z)),if_neg h,List.map_append];rfl
theorem getA_cons {x:Nat×Nat} {c:List (Nat×Nat)} {p:Nat}:getA (x::c) p=if x.1=p then some x.2 else getA c p:=by
 unfold getA
 rw[List.find?_cons]
 by_cases h:x.1=p
 ·rw[if_pos h,show (x.1==p)=true by simpa using h];rfl
 ·rw[if_neg h,show (x.1==p)=false by simpa using h]
theorem getA_append {c d:List (Nat×Nat)} {p:Nat}:getA (c++d) p=(getA c p).or (getA d p):=by
 induction c with
 | nil=>simp[getA]
 | cons x c ih =>
  rw[List.cons_append,getA_cons,getA_cons,ih]
  split<;>simp
theorem getA_map {c:List (Nat×Nat)} {p g q:Nat}:getA (c.map λx=>if x.1=p then (x.1,g) else x) q=if q=p then (getA c p).map (λ_=>g) else getA c q:=by
 induction c with
 | nil=>simp[getA]
 | cons x c ih =>
  rw[List.map_cons,getA_cons,getA_cons,getA_cons,ih]
  by_cases hx:x.1=p
  ·simp only[hx,if_true]
   by_cases hq:q=p
   ·subst hq;simp
   ·have hq':¬p=q:=λe=>hq e.symm
    simp[hq,hq']
  ·simp only[hx,if_false]
   by_cases hq:q=p
   ·subst hq;simp[hx]
   ·simp[hq]
theorem get_put {c:List (Nat×Nat)} {p g q:Nat}:getA (putA c p g) q=if q=p then some g else getA c q:=by
 unfold putA
 by_cases h:p∈c.map (·.1)
 ·rw[if_pos (any_key.mpr h),getA_map]
  by_cases hq:q=p
  ·rw[if_pos hq,if_pos hq]
   cases e:getA c p with
   | none=>exact absurd h (getA_none.mp e)
   | some z=>rfl
  ·rw[if_neg hq,if_neg hq]
 ·rw[if_neg (λz=>h (any_key.mp z)),getA_append,getA_cons]
  by_cases hq:q=p
  ·subst hq
   rw[if_pos rfl,if_pos rfl,getA_none.mpr h];rfl
  ·rw[if_neg (λe=>hq e.symm),if_neg hq]
   cases getA c q<;>simp[getA]
noncomputable def cntA (c:List (Nat×Nat)) (g:Nat):Nat:=(c.filter λx=>x.2==g).length
theorem cnt_map {c:List (Nat×Nat)} (hd:(c.map (·.1)).Nodup) {p g0 g:Nat} (h:getA c p=some g0) (q:Nat) :
 cntA (c.map λx=>if x.1=p then (x.1,g) else x) q+(if g0=q then 1 else 0)=cntA c q+if g=q then 1 else 0:=by
 induction c with
 | nil=>simp[getA] at h
 | cons x c ih =>
  rw[List.map_cons,List.nodup_cons] at hd
  rw[getA_cons] at h
  by_cases hx:x.1=p
  ·rw[if_pos hx] at h
   cases h
   have same:c.map (λx=>if x.1=p then (x.1,g) else x)=c:=by
    refine (List.map_congr_left λy hy=>?_).trans (List.map_id c)
    have:y.1≠p:=λe=>hd.1 (by rw[hx,←e];exact List.mem_map_of_mem hy)
    rw[if_neg this];rfl
   rw[List.map_cons,same,if_pos hx]
   unfold cntA
   rw[List.filter_cons,List.filter_cons]
   by_cases a:x.2=q<;>by_cases b:g=q<;>simp[a,b]
  ·rw[if_neg hx] at h
   have:=ih hd.2 h
   rw[List.map_cons,if_neg hx]
   unfold cntA at this ⊢
   rw[List.filter_cons,List.filter_cons]
   by_cases a:x.2=q
   ·simp only[a,beq_self_eq_true,if_true,List.length_cons];lia
   ·simp only[show (x.2==q)=false by simpa using a,Bool.false_eq_true,if_false];exact this
theorem cnt_put_new {c:List (Nat×Nat)} {p g:Nat} (h:getA c p=none) (q:Nat):cntA (putA c p g) q=cntA c q+if g=q then 1 else 0:=by
 unfold putA
 rw[if_neg (λz=>getA_none.mp h (any_key.mp z))]
 unfold cntA
 rw[List.filter_append,List.length_append]
 congr 1
 by_cases a:g=q<;>simp[a]
theorem cnt_put_old {c:List (Nat×Nat)} (hd:(c.map (·.1)).Nodup) {p g0 g:Nat} (h:getA c p=some g0) (q:Nat):cntA (putA c p g) q+(if g0=q then 1 else 0)=cntA c q+if g=q then 1 else 0:=by
 unfold putA
 rw[if_pos (any_key.mpr (Classical.byContradiction λz=>by rw[getA_none.mpr z] at h;cases h))]
 exact cnt_map hd h q
theorem nd_put {c:List (Nat×Nat)} (hd:(c.map (·.1)).Nodup) (p g:Nat):((putA c p g).map (·.1)).Nodup:=by
 rw[keys_put]
 split
 ·exact hd
 ·rename_i h
  rw[List.nodup_append]
  refine⟨hd,by simp,λx hx y hy e=>?_⟩
  rw[List.mem_singleton.mp hy] at e
  exact h (e▸hx)
noncomputable def OkA (ch:Nat→List Nat) (c:List (Nat×Nat)):Prop:=(c.map (·.1)).Nodup∧∀p g,getA c p=some g→p∈ch g
theorem OkA.put {ch:Nat→List Nat} {c:List (Nat×Nat)} (h:OkA ch c) {p g:Nat} (hp:p∈ch g):OkA ch (putA c p g):=by
 refine⟨nd_put h.1 p g,λq k e=>?_⟩
 rw[get_put] at e
 split at e
 ·rename_i z
  cases e
  rw[z];exact hp
 ·exact h.2 q k e
structure Won (ch:Nat→List Nat) (gap:Nat) (c:List (Nat×Nat)) (a:List Nat) (c':List (Nat×Nat)) (a':List Nat):Prop where
 ok:OkA ch c'
 keep:∀p∈a,getA c' p=getA c p
 cnt:∀q,cntA c' q=cntA c q+if gap=q then 1 else 0
structure Lost (ch:Nat→List Nat) (gap:Nat) (xs:List Nat) (c:List (Nat×Nat)) (a:List Nat) (c':List (Nat×Nat)) (a':List Nat):Prop where
 same:c'=c
 sub:∀p∈a,p∈a'
 nd:a.Nodup→a'.Nodup
 all:∀p∈xs,p∈a'
 new:∀p∈a',p∉a→(∃g,getA c p=some g∧∀q∈ch g,q∈a')∧(p∈xs∨∃q g,q∈a'∧q∉a∧getA c q=some g∧p∈ch g)
theorem fcL_ok {ch:Nat→List Nat} {rec:Nat→List (Nat×Nat)→List Nat→Option (Bool×List (Nat×Nat)×List Nat)}
 (ih:∀g c a b c' a',OkA ch c→rec g c a=some (b,c',a')→if b=true then Won ch g c a c' a' else Lost ch g (ch g) c a c' a') (gap:Nat) :
 ∀(xs:List Nat) (c:List (Nat×Nat)) (a:List Nat) (b:Bool) (c':List (Nat×Nat)) (a':List Nat),(∀p∈xs,p∈ch gap)→OkA ch c→fcL rec gap xs c a=some (b,c',a')→if b=true then Won ch gap c a c' a' else Lost ch gap xs c a c' a'
 | [],c,a,b,c',a',_,ok,h=>by
  cases h
  rw[if_neg Bool.false_ne_true]
  exact⟨rfl,λp hp=>hp,λh=>h,λp hp=>(by cases hp),λp hp hn=>absurd hp hn⟩
 | p::r,c,a,b,c',a',hx,ok,h=>by
  have hr:∀q∈r,q∈ch gap:=λq hq=>hx q (List.mem_cons_of_mem _ hq)
  have hp:=hx p List.mem_cons_self
  rw[fcL] at h
  by_cases pa:p∈a
  ·rw[if_pos pa] at h
   have:=fcL_ok ih gap r c a b c' a' hr ok h
   cases b with
   | true=>exact this
   | false =>
    rw[if_neg Bool.false_ne_true] at this ⊢
    exact⟨this.same,this.sub,this.nd,λq hq=>by
     rcases List.mem_cons.mp hq with rfl | hq
     ·exact this.sub _ pa
     ·exact this.all q hq,λq hq hn=>⟨(this.new q hq hn).1,(this.new q hq hn).2.imp (List.mem_cons_of_mem _) id⟩⟩
  ·rw[if_neg pa] at h
   cases e:getA c p with
   | none =>
    rw[e] at h
    cases h
    rw[if_pos rfl]
    exact⟨ok.put hp,λq hq=>by rw[get_put,if_neg (λz:q=p=>pa (z▸hq))],λq=>cnt_put_new e q⟩
   | some g =>
    rw[e] at h
    dsimp only at h
    cases e2:rec g c (a++[p]) with
    | none=>rw[e2] at h;cases h
    | some z =>
     obtain⟨b1,c1,a1⟩:=z
     rw[e2] at h
     have i:=ih g c (a++[p]) b1 c1 a1 ok e2
     cases b1 with
     | true =>
      rw[if_pos rfl] at i
      cases h
      rw[if_pos rfl]
      have gp:getA c1 p=some g:=by rw[i.keep p (by simp),e]
      refine⟨i.ok.put hp,λq hq=>?_,λq=>?_⟩
      ·rw[get_put,if_neg (λz:q=p=>pa (z▸hq)),i.keep q (by simp[hq])]
      ·have h1:=cnt_put_old i.ok.1 (g:=gap) gp q
       have h2:=i.cnt q
       lia
     | false =>
      rw[if_neg Bool.false_ne_true] at i
      dsimp only at h
      obtain⟨rfl,i2,i3,i4,i5⟩:=i
      have j:=fcL_ok ih gap r c1 a1 b c' a' hr ok h
      have pin:p∈a1:=i2 p (by simp)
      cases b with
      | true =>
       rw[if_pos rfl] at j ⊢
       exact⟨j.ok,λq hq=>j.keep q (i2 q (by simp[hq])),j.cnt⟩
      | false =>
       rw[if_neg Bool.false_ne_true] at j ⊢
       obtain⟨j1,j2,j3,j4,j5⟩:=j
       refine⟨j1,λq hq=>j2 q (i2 q (by simp[hq])),λnd=>j3 (i3 ?_),λq hq=>?_,λq hq hn=>?_⟩
       ·rw[List.nodup_append]
        exact⟨nd,by simp,λx hx y hy e=>pa (by rw[List.mem_singleton.mp hy] at e;exact e▸hx)⟩
       ·rcases List.mem_cons.mp hq with rfl | hq
        ·exact j2 _ pin
        ·exact j4 q hq
       ·by_cases q1:q∈a1
        ·by_cases qp:q=p
         ·subst qp
          exact⟨⟨g,e,λy hy=>j2 y (i4 y hy)⟩,.inl List.mem_cons_self⟩
         ·obtain⟨⟨k,k1,k2⟩,k3⟩:=i5 q q1 (by simp[hn,qp])
          refine⟨⟨k,k1,λy hy=>j2 y (k2 y hy)⟩,.inr ?_⟩
          rcases k3 with k3 | ⟨y,z,y1,y2,y3,y4⟩
          ·exact⟨p,g,j2 p pin,pa,e,k3⟩
          ·exact⟨y,z,j2 y y1,λya=>y2 (by simp[ya]),y3,y4⟩
        ·obtain⟨k1,k3⟩:=j5 q hq q1
         refine⟨k1,?_⟩
         rcases k3 with k3 | ⟨y,z,y1,y2,y3,y4⟩
         ·exact .inl (List.mem_cons_of_mem _ k3)
         ·exact .inr ⟨y,z,y1,λya=>y2 (i2 y (by simp[ya])),y3,y4⟩
theorem fc_ok (ch:Nat→List Nat):∀(n g:Nat) (c:List (Nat×Nat)) (a:List Nat) (b:Bool) (c':List (Nat×Nat)) (a':List Nat),OkA ch c→fc ch n g c a=some (b,c',a')→if b=true then Won ch g c a c' a' else Lost ch g (ch g) c a c' a'
 | 0,_,_,_,_,_,_,_,h=>by cases h
 | n+1,g,c,a,b,c',a',ok,h=>fcL_ok (fc_ok ch n) g (ch g) c a b c' a' (λ_ h=>h) ok h
theorem fcL_ends {ch:Nat→List Nat} {U:List Nat} {n:Nat} (hU:∀g,∀p∈ch g,p∈U)
 (ih:∀g c a,OkA ch c→a.Nodup→(∀p∈a,p∈U)→U.length < a.length+n→∃r,fc ch n g c a=some r) (gap:Nat) :
 ∀(xs:List Nat) (c:List (Nat×Nat)) (a:List Nat),(∀p∈xs,p∈ch gap)→OkA ch c→a.Nodup→(∀p∈a,p∈U)→U.length < a.length+1+n→(∀p∈xs,p∉a→U.length < a.length+1+n)→∃r,fcL (fc ch n) gap xs c a=some r
 | [],c,a,_,_,_,_,_,_=>⟨_,rfl⟩
 | p::r,c,a,hx,ok,nd,au,hl,hq=>by
  have hr:∀q∈r,q∈ch gap:=λq hq=>hx q (List.mem_cons_of_mem _ hq)
  rw[fcL]
  by_cases pa:p∈a
  ·rw[if_pos pa]
   exact fcL_ends hU ih gap r c a hr ok nd au hl λq h1 h2=>hl
  ·rw[if_neg pa]
   cases e:getA c p with
   | none=>exact⟨_,rfl⟩
   | some g =>
    dsimp only
    have nd':(a++[p]).Nodup:=by
     rw[List.nodup_append]
     exact⟨nd,by simp,λx hx y hy e=>pa (by rw[List.mem_singleton.mp hy] at e;exact e▸hx)⟩
    have au':∀q∈a++[p],q∈U:=λq hq=>by
     rcases List.mem_append.mp hq with h | h
     ·exact au q h
     ·rw[List.mem_singleton.mp h];exact hU gap p (hx p List.mem_cons_self)
    obtain⟨⟨b1,c1,a1⟩,e2⟩:=ih g c (a++[p]) ok nd' au' (by rw[List.length_append,List.length_singleton];lia)
    rw[e2]
    have i:=fc_ok ch n g c (a++[p]) b1 c1 a1 ok e2
    cases b1 with
    | true=>exact⟨_,rfl⟩
    | false =>
     rw[if_neg Bool.false_ne_true] at i
     obtain⟨rfl,i2,i3,i4,i5⟩:=i
     have au1:∀q∈a1,q∈U:=λq hq=>by
      by_cases z:q∈a++[p]
      ·exact au' q z
      ·rcases (i5 q hq z).2 with h | ⟨y,k,_,_,_,h⟩
       ·exact hU g q h
       ·exact hU k q h
     have la:a.length+1≤a1.length:=by
      have:=nodup_sub_len nd' λq hq=>i2 q hq
      rw[List.length_append,List.length_singleton] at this
      exact this
     exact fcL_ends hU ih gap r c1 a1 hr ok (i3 nd') au1 (by lia) λ_ _ _=>by lia
theorem fc_ends {ch:Nat→List Nat} {U:List Nat} (hU:∀g,∀p∈ch g,p∈U):∀(n g:Nat) (c:List (Nat×Nat)) (a:List Nat),OkA ch c→a.Nodup→(∀p∈a,p∈U)→U.length < a.length+n→∃r,fc ch n g c a=some r
 | 0,g,c,a,ok,nd,au,hl=>by
  have:=nodup_sub_len nd au
  lia
 | n+1,g,c,a,ok,nd,au,hl=>fcL_ends hU (λg c a=>fc_ends hU n g c a) g (ch g) c a (λ_ h=>h) ok nd au (by lia) λ_ _ _=>by lia
end Tr
namespace K63
open PySem Tr
noncomputable def e_time_between_1:E :=
 (.bin .Add (.ix (.var 0) (.con (.int 1))) (.ix (.var 0) (.con (.int 2))))
noncomputable def b_time_between:S :=
 (.cons (.asg (.one 3) (.ix (.var 0) (.glob 2)))
 (.cons (.ret (.bin .Add (.ix (.ix (.var 3) (.var 1)) (.con (.int 2))) (.bt .sum (.acons (.comp 1 [] (.one 0) e_time_between_1 (.seq (.sl (.var 3) (.bin .Add (.var 1) (.con (.int 1))) (.var 2))) (.con (.bl true))) .anil))))
 .nil))
noncomputable def b_change_time:S :=
 (.cons (.ret (.bin .Add (.ix (.ix (.ix (.var 0) (.glob 0)) (.var 1)) (.con (.int 2))) (.ix (.ix (.ix (.var 0) (.glob 0)) (.var 2)) (.con (.int 3)))))
 .nil)
noncomputable def b_short_change_from_1:S :=
 (.cons (.ite (.cmp .In (.var 3) (.ix (.ix (.ix (.var 0) (.glob 2)) (.var 5)) (.con (.int 3))))
 (.cons (.asg (.one 6) (.call 0 (.acons (.var 0) (.acons (.var 1) (.acons (.var 5) .anil)))))
 (.cons (.ite (.cmp .Lt (.var 6) (.var 4))
 (.cons (.ret (.tup (.acons (.con (.str "change")) (.acons (.var 1) (.acons (.var 5) (.acons (.var 6) (.acons (.var 4) .anil)))))))
 .nil)
 .nil)
 .nil))
 .nil)
 .nil)
noncomputable def b_short_change_from:S :=
 (.cons (.asg (.one 4) (.call 1 (.acons (.var 0) (.acons (.var 2) (.acons (.var 3) .anil)))))
 (.cons (.forS (.one 5) (.rng2 (.bin .Add (.var 1) (.con (.int 1))) (.bt .len (.acons (.ix (.var 0) (.glob 2)) .anil))) b_short_change_from_1)
 (.cons (.ret (.con .non))
 .nil)))
noncomputable def b_reason_from:S :=
 (.cons (.asg (.one 4) (.ix (.ix (.ix (.var 0) (.glob 2)) (.var 1)) (.con (.int 3))))
 (.cons (.ite (.and (.cmp .In (.var 2) (.var 4)) (.cmp .In (.var 3) (.var 4)))
 (.cons (.ret (.tup (.acons (.con (.str "scene")) (.acons (.var 1) .anil))))
 .nil)
 .nil)
 (.cons (.ite (.cmp .In (.var 2) (.var 4))
 (.cons (.ret (.call 2 (.acons (.var 0) (.acons (.var 1) (.acons (.var 2) (.acons (.var 3) .anil))))))
 .nil)
 .nil)
 (.cons (.ite (.cmp .In (.var 3) (.var 4))
 (.cons (.ret (.call 2 (.acons (.var 0) (.acons (.var 1) (.acons (.var 3) (.acons (.var 2) .anil))))))
 .nil)
 .nil)
 (.cons (.ret (.con .non))
 .nil)))))
noncomputable def b_reason_of_1:S :=
 (.cons (.asg (.one 4) (.call 3 (.acons (.var 0) (.acons (.var 3) (.acons (.var 1) (.acons (.var 2) .anil))))))
 (.cons (.ite (.cmp .IsNot (.var 4) (.con .non))
 (.cons (.ret (.var 4))
 .nil)
 .nil)
 .nil))
noncomputable def b_reason_of:S :=
 (.cons (.forS (.one 3) (.rng (.bt .len (.acons (.ix (.var 0) (.glob 2)) .anil))) b_reason_of_1)
 (.cons (.ret (.con .non))
 .nil))
noncomputable def c_clashes_of_1:E :=
 (.cmp .IsNot (.call 4 (.acons (.var 2) (.acons (.var 1) (.acons (.var 0) .anil)))) (.con .non))
noncomputable def e_clashes_of_2:E :=
 (.tup (.acons (.var 1) (.acons (.var 0) .anil)))
noncomputable def b_clashes_of_3:S :=
 (.cons (.ext 1 (.comp 1 [3,0] (.one 0) e_clashes_of_2 (.rng2 (.bin .Add (.var 3) (.con (.int 1))) (.var 2)) c_clashes_of_1))
 .nil)
noncomputable def b_clashes_of:S :=
 (.cons (.asgO 1 (.lst .anil))
 (.cons (.asg (.one 2) (.bt .len (.acons (.ix (.var 0) (.glob 0)) .anil)))
 (.cons (.forS (.one 3) (.rng (.var 2)) b_clashes_of_3)
 (.cons (.retO 1)
 .nil))))
noncomputable def b_fault_of_part:S :=
 (.cons (.ite (.cmp .Is (.var 2) (.con .non))
 (.cons (.ret (.tup (.acons (.con (.str "nobody")) (.acons (.var 1) .anil))))
 .nil)
 .nil)
 (.cons (.ite (.cmp .NotIn (.ix (.ix (.ix (.var 0) (.glob 0)) (.var 1)) (.con (.int 1))) (.ix (.ix (.ix (.var 0) (.glob 1)) (.var 2)) (.con (.int 1))))
 (.cons (.ret (.tup (.acons (.con (.str "voice")) (.acons (.var 1) (.acons (.var 2) .anil)))))
 .nil)
 .nil)
 (.cons (.ret (.con .non))
 .nil)))
noncomputable def b_have_one_player:S :=
 (.cons (.ret (.and (.cmp .IsNot (.ix (.var 0) (.var 1)) (.con .non)) (.cmp .Eq (.ix (.var 0) (.var 1)) (.ix (.var 0) (.var 2)))))
 .nil)
noncomputable def e_faults_of_1:E :=
 (.call 6 (.acons (.var 2) (.acons (.var 0) (.acons (.var 1) .anil))))
noncomputable def c_faults_of_2:E :=
 (.cmp .IsNot (.var 0) (.con .non))
noncomputable def e_faults_of_3:E :=
 (.var 0)
noncomputable def c_faults_of_4:E :=
 (.call 7 (.acons (.var 2) (.acons (.var 0) (.acons (.var 1) .anil))))
noncomputable def e_faults_of_5:E :=
 (.tup (.acons (.con (.str "clash")) (.acons (.var 0) (.acons (.var 1) .anil))))
noncomputable def b_faults_of:S :=
 (.cons (.asgO 2 (.comp 2 [0] (.many [0,1]) e_faults_of_1 (.enum (.var 1)) (.con (.bl true))))
 (.cons (.asgO 2 (.comp 1 [] (.one 0) e_faults_of_3 (.seq (.rd 2)) c_faults_of_2))
 (.cons (.ext 2 (.comp 2 [1] (.many [0,1]) e_faults_of_5 (.seq (.call 5 (.acons (.var 0) .anil))) c_faults_of_4))
 (.cons (.retO 2)
 .nil))))
noncomputable def b_ask_that_it_plays:S :=
 (.cons (.ite (.cmp .NotEq (.call 8 (.acons (.var 0) (.acons (.var 1) .anil))) (.lst .anil))
 (.cons (.never)
 .nil)
 .nil)
 .nil)
noncomputable def c_gaps_of_1:E :=
 (.cmp .In (.ix (.var 2) (.var 0)) (.var 1))
noncomputable def e_gaps_of_2:E :=
 (.var 0)
noncomputable def b_gaps_of:S :=
 (.cons (.ret (.comp 1 [2,1] (.one 0) e_gaps_of_2 (.seq (.ix (.ix (.ix (.var 0) (.glob 2)) (.var 3)) (.con (.int 3)))) c_gaps_of_1))
 .nil)
noncomputable def e_covers_of_1:E :=
 (.ix (.var 1) (.var 0))
noncomputable def c_covers_of_2:E :=
 (.cmp .Eq (.var 0) (.var 2))
noncomputable def e_covers_of_3:E :=
 (.var 1)
noncomputable def c_covers_of_4:E :=
 (.and (.cmp .NotIn (.var 0) (.var 1)) (.cmp .NotIn (.var 0) (.var 2)))
noncomputable def e_covers_of_5:E :=
 (.var 0)
noncomputable def b_covers_of:S :=
 (.cons (.asg (.one 5) (.comp 1 [1] (.one 0) e_covers_of_1 (.seq (.ix (.ix (.ix (.var 0) (.glob 2)) (.var 3)) (.con (.int 3)))) (.con (.bl true))))
 (.cons (.asg (.one 6) (.srt (.comp 2 [4] (.many [0,1]) e_covers_of_3 (.seq (.ix (.var 0) (.glob 3))) c_covers_of_2)))
 (.cons (.ret (.comp 1 [2,5] (.one 0) e_covers_of_5 (.seq (.var 6)) c_covers_of_4))
 .nil)))
noncomputable def e_lack_told_1:E :=
 (.ix (.var 1) (.var 0))
noncomputable def b_lack_told:S :=
 (.cons (.asg (.one 3) (.bin .Add (.lst (.acons (.var 2) .anil)) (.comp 1 [0] (.one 0) e_lack_told_1 (.seqD (.var 1)) (.con (.bl true)))))
 (.cons (.ret (.tup (.acons (.con (.str "lacks")) (.acons (.srt (.var 3)) (.acons (.srt (.var 1)) .anil)))))
 .nil))
noncomputable def e_scene_told_1:E :=
 (.tup (.acons (.var 0) (.acons (.call 11 (.acons (.var 1) (.acons (.var 2) (.acons (.var 3) (.acons (.var 4) (.acons (.var 0) .anil)))))) .anil)))
noncomputable def b_scene_told_2:S :=
 (.cons (.newD 8)
 (.cons (.ifR true .omit 33 (.var 5) 6 8 (.var 7)
 (.cons (.sealed 8)
 (.cons (.sealed 6)
 (.cons (.ret (.call 12 (.acons (.var 6) (.acons (.var 8) (.acons (.var 7) .anil)))))
 .nil)))
 .nil)
 .nil))
noncomputable def e_scene_told_3:E :=
 (.tup (.acons (.ix (.var 1) (.var 0)) (.acons (.var 0) .anil)))
noncomputable def e_scene_told_4:E :=
 (.tup (.acons (.var 0) (.acons (.ix (.var 1) (.var 0)) .anil)))
noncomputable def b_scene_told:S :=
 (.cons (.asg (.one 4) (.call 10 (.acons (.var 0) (.acons (.var 1) (.acons (.var 2) (.acons (.var 3) .anil))))))
 (.cons (.asg (.one 5) (.dck (.comp 1 [0,1,2,3] (.one 0) e_scene_told_1 (.seq (.var 4)) (.con (.bl true)))))
 (.cons (.newD 6)
 (.cons (.forS (.one 7) (.seq (.var 4)) b_scene_told_2)
 (.cons (.sealed 6)
 (.cons (.asg (.one 9) (.dck (.comp 1 [6] (.one 0) e_scene_told_3 (.seqD (.var 6)) (.con (.bl true)))))
 (.cons (.ret (.tup (.acons (.con (.str "covered")) (.acons (.comp 1 [9] (.one 0) e_scene_told_4 (.seq (.var 4)) (.con (.bl true))) .anil))))
 .nil)))))))
noncomputable def e_night_of_1:E :=
 (.call 13 (.acons (.var 1) (.acons (.var 2) (.acons (.var 3) (.acons (.var 0) .anil)))))
noncomputable def b_night_of:S :=
 (.cons (.exp (.call 9 (.acons (.var 0) (.acons (.var 1) .anil))))
 (.cons (.ret (.comp 1 [0,1,2] (.one 0) e_night_of_1 (.rng (.bt .len (.acons (.ix (.var 0) (.glob 2)) .anil))) (.con (.bl true))))
 .nil))
noncomputable def b_first_lacking_1:S :=
 (.cons (.ite (.cmp .Eq (.ix (.call 13 (.acons (.var 0) (.acons (.var 1) (.acons (.var 2) (.acons (.var 3) .anil))))) (.con (.int 0))) (.con (.str "lacks")))
 (.cons (.ret (.var 3))
 .nil)
 .nil)
 .nil)
noncomputable def b_first_lacking:S :=
 (.cons (.forS (.one 3) (.rng (.bt .len (.acons (.ix (.var 0) (.glob 2)) .anil))) b_first_lacking_1)
 (.cons (.ret (.con .non))
 .nil))
noncomputable def e_one_longer_1:E :=
 (.bin .Add (.var 1) (.tup (.acons (.var 0) .anil)))
noncomputable def b_one_longer_2:S :=
 (.cons (.asg (.one 4) (.ife (.var 3) (.bin .Add (.ix (.var 3) (.neg (.con (.int 1)))) (.con (.int 1))) (.con (.int 0))))
 (.cons (.ext 2 (.comp 1 [3] (.one 0) e_one_longer_1 (.rng2 (.var 4) (.var 1)) (.con (.bl true))))
 .nil))
noncomputable def b_one_longer:S :=
 (.cons (.asgO 2 (.lst .anil))
 (.cons (.forS (.one 3) (.seq (.var 0)) b_one_longer_2)
 (.cons (.retO 2)
 .nil)))
noncomputable def b_sets_up_to_1:S :=
 (.cons (.asgN 2 (.call 16 (.acons (.var 2) (.acons (.var 0) .anil))))
 (.cons (.extN 3 2)
 .nil))
noncomputable def b_sets_up_to:S :=
 (.cons (.asgN 2 (.lst (.acons (.tup .anil) .anil)))
 (.cons (.asgO 3 (.lst (.acons (.tup .anil) .anil)))
 (.cons (.forS (.one 4) (.rng (.var 1)) b_sets_up_to_1)
 (.cons (.retO 3)
 .nil))))
noncomputable def e_nights_of_1:E :=
 (.tup (.acons (.var 0) (.acons (.call 15 (.acons (.var 1) (.acons (.var 2) (.acons (.var 0) .anil)))) .anil)))
noncomputable def b_nights_of:S :=
 (.cons (.exp (.call 9 (.acons (.var 0) (.acons (.var 1) .anil))))
 (.cons (.ret (.comp 1 [0,1] (.one 0) e_nights_of_1 (.seq (.call 17 (.acons (.bt .len (.acons (.ix (.var 0) (.glob 1)) .anil)) (.acons (.var 2) .anil)))) (.con (.bl true))))
 .nil))
noncomputable def b_law_cell_at:S :=
 (.cons (.ite (.cmp .Lt (.var 1) (.bt .len (.acons (.var 0) .anil)))
 (.cons (.ret (.ix (.var 0) (.var 1)))
 .nil)
 .nil)
 (.cons (.ret (.con (.int 0)))
 .nil))
noncomputable def b_law_mix:S :=
 (.cons (.ret (.bin .Mod (.bin .Add (.bin .Mult (.bin .Mod (.var 0) (.con (.int 1000003))) (.bin .Add (.con (.int 48271)) (.bin .Mult (.bin .Mult (.con (.int 15838)) (.var 1)) (.var 1)))) (.bin .Mult (.con (.int 69621)) (.var 1))) (.con (.int 2147483647))))
 .nil)
noncomputable def b_law_name:S :=
 (.cons (.asg (.one 2) (.ix (.con (.str "abcdefghijklmnopqrstuvwxyz")) (.bin .Mod (.bin .Add (.var 0) (.bin .Mult (.var 1) (.ix (.lst (.acons (.con (.int 1)) (.acons (.con (.int 3)) (.acons (.con (.int 5)) (.acons (.con (.int 7)) .anil))))) (.bin .Mod (.bin .FloorDiv (.var 0) (.con (.int 26))) (.con (.int 4)))))) (.con (.int 26)))))
 (.cons (.asg (.one 3) (.ix (.lst (.acons (.con (.str "")) (.acons (.con (.str "a")) (.acons (.con (.str "ba")) (.acons (.con (.str "zzzzzzz")) .anil))))) (.bin .Mod (.bin .FloorDiv (.var 0) (.con (.int 104))) (.con (.int 4)))))
 (.cons (.asg (.one 4) (.bin .Mod (.bin .FloorDiv (.var 0) (.con (.int 416))) (.bin .Add (.bt .len (.acons (.var 3) .anil)) (.con (.int 1)))))
 (.cons (.ret (.bin .Add (.bin .Add (.sl (.var 3) .omit (.var 4)) (.var 2)) (.sl (.var 3) (.var 4) .omit)))
 .nil))))
noncomputable def b_law_minutes:S :=
 (.cons (.ret (.bin .Mod (.bin .FloorDiv (.var 0) (.con (.int 6))) (.ix (.lst (.acons (.con (.int 7)) (.acons (.con (.int 7)) (.acons (.con (.int 40)) (.acons (.bin .Pow (.con (.int 10)) (.con (.int 9))) .anil))))) (.bin .Add (.bin .FloorDiv (.bin .Mod (.var 0) (.con (.int 6))) (.con (.int 2))) (.bin .FloorDiv (.bin .Mod (.var 0) (.con (.int 6))) (.con (.int 5)))))))
 .nil)
noncomputable def b_law_part:S :=
 (.cons (.asg (.one 3) (.call 20 (.acons (.var 0) (.acons (.var 1) .anil))))
 (.cons (.asg (.one 4) (.ix (.lst (.acons (.con (.str "a")) (.acons (.con (.str "b")) (.acons (.con (.str "a")) (.acons (.sl (.call 21 (.acons (.bin .Mult (.con (.int 7)) (.var 2)) (.acons (.var 3) .anil))) .omit (.con (.int 1))) .anil))))) (.bin .Mod (.var 3) (.con (.int 4)))))
 (.cons (.ret (.tup (.acons (.call 21 (.acons (.var 2) (.acons (.var 1) .anil))) (.acons (.var 4) (.acons (.call 22 (.acons (.bin .FloorDiv (.var 3) (.con (.int 4))) .anil)) (.acons (.call 22 (.acons (.call 20 (.acons (.var 0) (.acons (.bin .Add (.var 1) (.con (.int 20))) .anil))) .anil)) .anil))))))
 .nil)))
noncomputable def b_law_player:S :=
 (.cons (.asg (.one 3) (.call 20 (.acons (.var 0) (.acons (.var 1) .anil))))
 (.cons (.asg (.one 4) (.ix (.lst (.acons (.con (.str "ab")) (.acons (.con (.str "a")) (.acons (.con (.str "bca")) (.acons (.con (.str "")) (.acons (.con (.str "abcdefghijklmnopqrstuvwxyz")) (.acons (.con (.str "zb")) .anil))))))) (.bin .Mod (.var 3) (.con (.int 6)))))
 (.cons (.ret (.tup (.acons (.call 21 (.acons (.var 2) (.acons (.var 1) .anil))) (.acons (.var 4) (.acons (.call 22 (.acons (.bin .FloorDiv (.var 3) (.con (.int 6))) .anil)) .anil)))))
 .nil)))
noncomputable def c_scene_1:E :=
 (.cmp .Eq (.bin .Mod (.bin .FloorDiv (.var 1) (.ix (.lst (.acons (.con (.int 1)) (.acons (.con (.int 3)) (.acons (.con (.int 9)) (.acons (.con (.int 27)) (.acons (.con (.int 81)) (.acons (.con (.int 243)) (.acons (.con (.int 729)) (.acons (.con (.int 2187)) .anil))))))))) (.var 0))) (.con (.int 3))) (.con (.int 0)))
noncomputable def e_scene_2:E :=
 (.var 0)
noncomputable def b_law_scene:S :=
 (.cons (.asg (.one 4) (.call 20 (.acons (.var 0) (.acons (.bin .Add (.var 1) (.con (.int 40))) .anil))))
 (.cons (.asg (.one 5) (.comp 1 [4] (.one 0) e_scene_2 (.rng (.var 3)) c_scene_1))
 (.cons (.asg (.one 6) (.bin .Mod (.var 0) (.bin .Add (.bt .len (.acons (.var 5) .anil)) (.con (.int 1)))))
 (.cons (.asg (.one 4) (.call 20 (.acons (.var 0) (.acons (.var 1) .anil))))
 (.cons (.asg (.one 7) (.call 22 (.acons (.call 20 (.acons (.var 0) (.acons (.bin .Add (.var 1) (.con (.int 20))) .anil))) .anil)))
 (.cons (.ret (.tup (.acons (.call 21 (.acons (.var 2) (.acons (.var 1) .anil))) (.acons (.call 22 (.acons (.var 4) .anil)) (.acons (.var 7) (.acons (.bt .tuple (.acons (.bin .Add (.sl (.var 5) (.var 6) .omit) (.sl (.var 5) .omit (.var 6))) .anil)) .anil))))))
 .nil))))))
noncomputable def b_pairs_1:S :=
 (.cons (.asg (.one 6) (.call 20 (.acons (.var 0) (.acons (.var 5) .anil))))
 (.cons (.asg (.one 7) (.tup (.acons (.bin .FloorDiv (.var 5) (.var 2)) (.acons (.bin .Mod (.var 5) (.var 2)) .anil))))
 (.cons (.ite (.cmp .Eq (.bin .Mod (.bin .FloorDiv (.var 6) (.con (.int 64))) (.var 3)) (.con (.int 0)))
 (.cons (.app 4 (.var 7))
 .nil)
 .nil)
 .nil)))
noncomputable def b_law_pairs:S :=
 (.cons (.asgO 4 (.lst .anil))
 (.cons (.forS (.one 5) (.rng (.bin .Mult (.var 1) (.var 2))) b_pairs_1)
 (.cons (.asg (.one 8) (.bin .Mod (.var 0) (.bin .Add (.bt .len (.acons (.rd 4) .anil)) (.con (.int 1)))))
 (.cons (.ret (.bin .Add (.sl (.rd 4) (.var 8) .omit) (.sl (.rd 4) .omit (.var 8))))
 .nil))))
noncomputable def e_drawn_1:E :=
 (.call 19 (.acons (.var 1) (.acons (.bin .Add (.var 2) (.var 0)) .anil)))
noncomputable def e_drawn_2:E :=
 (.call 23 (.acons (.ix (.var 1) (.con (.int 2))) (.acons (.var 0) (.acons (.ix (.var 1) (.con (.int 0))) .anil))))
noncomputable def e_drawn_3:E :=
 (.call 24 (.acons (.ix (.var 1) (.con (.int 3))) (.acons (.var 0) (.acons (.ix (.var 1) (.con (.int 4))) .anil))))
noncomputable def b_drawn_4:S :=
 (.cons (.app 6 (.call 25 (.acons (.var 8) (.acons (.var 7) (.acons (.ix (.var 2) (.con (.int 5))) (.acons (.var 3) .anil))))))
 .nil)
noncomputable def b_drawn_5:S :=
 (.cons (.app 9 (.tup (.acons (.var 10) (.acons (.var 11) (.acons (.bin .Mod (.call 20 (.acons (.ix (.var 2) (.con (.int 6))) (.acons (.bin .Add (.var 11) (.bin .Mult (.con (.int 9)) (.var 10))) .anil))) (.bin .Pow (.con (.int 10)) (.con (.int 9)))) .anil)))))
 .nil)
noncomputable def b_law_drawn:S :=
 (.cons (.asg (.one 2) (.comp 1 [0,1] (.one 0) e_drawn_1 (.rng (.con (.int 8))) (.con (.bl true))))
 (.cons (.asg (.one 3) (.bin .Add (.bin .Mod (.ix (.var 2) (.con (.int 1))) (.con (.int 7))) (.bin .Mult (.con (.int 2)) (.bt .int (.acons (.and (.cmp .Eq (.bin .Mod (.bin .FloorDiv (.ix (.var 2) (.con (.int 1))) (.con (.int 7))) (.con (.int 8))) (.con (.int 5))) (.cmp .Eq (.bin .Mod (.ix (.var 2) (.con (.int 1))) (.con (.int 7))) (.con (.int 6)))) .anil)))))
 (.cons (.asg (.one 4) (.bt .tuple (.acons (.comp 1 [2] (.one 0) e_drawn_2 (.rng (.var 3)) (.con (.bl true))) .anil)))
 (.cons (.asg (.one 5) (.bt .tuple (.acons (.comp 1 [2] (.one 0) e_drawn_3 (.rng (.bin .Mod (.bin .FloorDiv (.ix (.var 2) (.con (.int 1))) (.con (.int 56))) (.con (.int 7)))) (.con (.bl true))) .anil)))
 (.cons (.asgO 6 (.lst .anil))
 (.cons (.forS (.many [7,8]) (.enum (.sl (.var 0) (.bin .Add (.var 1) (.con (.int 8))) (.bin .Add (.var 1) (.con (.int 17))))) b_drawn_4)
 (.cons (.asgO 9 (.lst .anil))
 (.cons (.forS (.many [10,11]) (.seq (.call 26 (.acons (.ix (.var 2) (.con (.int 6))) (.acons (.bt .len (.acons (.var 5) .anil)) (.acons (.var 3) (.acons (.con (.int 3)) .anil)))))) b_drawn_5)
 (.cons (.asg (.one 12) (.bt .tuple (.acons (.call 26 (.acons (.ix (.var 2) (.con (.int 7))) (.acons (.var 3) (.acons (.bt .len (.acons (.var 5) .anil)) (.acons (.con (.int 2)) .anil))))) .anil)))
 (.cons (.ret (.tup (.acons (.var 4) (.acons (.var 5) (.acons (.bt .tuple (.acons (.rd 6) .anil)) (.acons (.bt .tuple (.acons (.rd 9) .anil)) (.acons (.var 12) .anil)))))))
 .nil))))))))))
noncomputable def e_staged_1:E :=
 (.tup (.acons (.var 0) (.acons (.con (.str "a")) (.acons (.con (.int 0)) (.acons (.con (.int 0)) .anil)))))
noncomputable def e_staged_2:E :=
 (.tup (.acons (.var 0) (.acons (.con (.str "ba")) (.acons (.var 2) .anil))))
noncomputable def e_staged_3:E :=
 (.bin .Mod (.call 20 (.acons (.var 1) (.acons (.var 0) .anil))) (.bt .len (.acons (.var 2) .anil)))
noncomputable def e_staged_4:E :=
 (.ix (.var 1) (.var 0))
noncomputable def b_staged_5:S :=
 (.cons (.ite (.cmp .NotIn (.ix (.var 4) (.var 11)) (.comp 1 [4] (.one 0) e_staged_4 (.seq (.rd 10)) (.con (.bl true))))
 (.cons (.app 10 (.var 11))
 .nil)
 .nil)
 .nil)
noncomputable def b_staged_6:S :=
 (.cons (.asgO 10 (.lst .anil))
 (.cons (.forS (.one 11) (.seq (.var 9)) b_staged_5)
 (.cons (.app 5 (.tup (.acons (.var 6) (.acons (.var 7) (.acons (.var 8) (.acons (.bt .tuple (.acons (.rd 10) .anil)) .anil))))))
 .nil)))
noncomputable def b_law_staged:S :=
 (.cons (.asg (.one 2) (.bt .tuple (.acons (.comp 4 [] (.many [0,1,2,3]) e_staged_1 (.seq (.ix (.var 0) (.con (.int 0)))) (.con (.bl true))) .anil)))
 (.cons (.asg (.one 3) (.bt .tuple (.acons (.comp 3 [] (.many [0,1,2]) e_staged_2 (.seq (.ix (.var 0) (.con (.int 1)))) (.con (.bl true))) .anil)))
 (.cons (.asg (.one 4) (.comp 1 [1,3] (.one 0) e_staged_3 (.rng (.bt .len (.acons (.var 2) .anil))) (.con (.bl true))))
 (.cons (.asgO 5 (.lst .anil))
 (.cons (.forS (.many [6,7,8,9]) (.seq (.sl (.ix (.var 0) (.con (.int 2))) .omit (.con (.int 5)))) b_staged_6)
 (.cons (.ret (.tup (.acons (.tup (.acons (.var 2) (.acons (.var 3) (.acons (.bt .tuple (.acons (.rd 5) .anil)) (.acons (.ix (.var 0) (.con (.int 3))) (.acons (.ix (.var 0) (.con (.int 4))) .anil)))))) (.acons (.var 4) .anil))))
 .nil))))))
noncomputable def c_away_1:E :=
 (.cmp .Eq (.bin .Mod (.bin .FloorDiv (.var 1) (.ix (.lst (.acons (.con (.int 1)) (.acons (.con (.int 3)) (.acons (.con (.int 9)) (.acons (.con (.int 27)) (.acons (.con (.int 81)) (.acons (.con (.int 243)) .anil))))))) (.var 0))) (.con (.int 3))) (.con (.int 0)))
noncomputable def e_away_2:E :=
 (.var 0)
noncomputable def b_law_away:S :=
 (.cons (.ret (.comp 1 [1] (.one 0) e_away_2 (.rng (.bt .len (.acons (.ix (.var 0) (.con (.int 1))) .anil))) c_away_1))
 .nil)
noncomputable def e_kinds_1:E :=
 (.ix (.var 0) (.con (.int 0)))
noncomputable def b_law_kinds:S :=
 (.cons (.ret (.comp 1 [] (.one 0) e_kinds_1 (.seq (.call 14 (.acons (.var 0) (.acons (.var 1) (.acons (.var 2) .anil))))) (.con (.bl true))))
 .nil)
noncomputable def c_no_worse_1:E :=
 (.and (.cmp .Eq (.ix (.var 1) (.var 0)) (.con (.str "covered"))) (.cmp .NotEq (.ix (.var 2) (.var 0)) (.con (.str "covered"))))
noncomputable def e_no_worse_2:E :=
 (.var 0)
noncomputable def b_law_no_worse:S :=
 (.cons (.ret (.cmp .Eq (.comp 1 [0,1] (.one 0) e_no_worse_2 (.rng (.bt .len (.acons (.var 0) .anil))) c_no_worse_1) (.lst .anil)))
 .nil)
noncomputable def c_law_1:E :=
 (.cmp .NotEq (.var 0) (.var 1))
noncomputable def e_law_2:E :=
 (.var 0)
noncomputable def b_law_3:S :=
 (.cons (.ite (.not (.call 31 (.acons (.var 4) (.acons (.call 30 (.acons (.var 1) (.acons (.var 2) (.acons (.comp 1 [5] (.one 0) e_law_2 (.seq (.var 3)) c_law_1) .anil)))) .anil))))
 (.cons (.ret (.con (.bl false)))
 .nil)
 .nil)
 .nil)
noncomputable def c_law_4:E :=
 (.cmp .NotEq (.var 0) (.var 1))
noncomputable def e_law_5:E :=
 (.var 0)
noncomputable def b_law_6:S :=
 (.cons (.dputV 10 (.var 11) (.var 12))
 .nil)
noncomputable def b_law_7:S :=
 (.cons (.asg (.one 14) (.bin .Add (.sl (.var 11) .omit (.var 13)) (.sl (.var 11) (.bin .Add (.var 13) (.con (.int 1))) .omit)))
 (.cons (.ite (.and (.cmp .Is (.ix (.var 10) (.var 11)) (.con .non)) (.cmp .IsNot (.ix (.var 10) (.var 14)) (.con .non)))
 (.cons (.ret (.con (.bl false)))
 .nil)
 .nil)
 (.cons (.ite (.and (.cmp .IsNot (.ix (.var 10) (.var 11)) (.con .non)) (.and (.cmp .IsNot (.ix (.var 10) (.var 14)) (.con .non)) (.cmp .Lt (.ix (.var 10) (.var 14)) (.ix (.var 10) (.var 11)))))
 (.cons (.ret (.con (.bl false)))
 .nil)
 .nil)
 .nil)))
noncomputable def b_law_8:S :=
 (.cons (.forS (.one 13) (.rng (.bt .len (.acons (.var 11) .anil))) b_law_7)
 .nil)
noncomputable def e_law_9:E :=
 (.con (.str "covered"))
noncomputable def b_law:S :=
 (.cons (.asg (.one 1) (.call 27 (.acons (.var 0) (.acons (.con (.int 3)) .anil))))
 (.cons (.ite (.cmp .Eq (.ix (.var 1) (.con (.int 1))) (.tup .anil))
 (.cons (.ret (.con (.bl true)))
 .nil)
 .nil)
 (.cons (.asg (.many [1,2]) (.call 28 (.acons (.var 1) (.acons (.call 19 (.acons (.var 0) (.acons (.con (.int 0)) .anil))) .anil))))
 (.cons (.asg (.one 3) (.call 29 (.acons (.var 1) (.acons (.call 19 (.acons (.var 0) (.acons (.con (.int 1)) .anil))) .anil))))
 (.cons (.asg (.one 4) (.call 30 (.acons (.var 1) (.acons (.var 2) (.acons (.var 3) .anil)))))
 (.cons (.forS (.one 5) (.seq (.var 3)) b_law_3)
 (.cons (.asg (.one 6) (.call 19 (.acons (.var 0) (.acons (.con (.int 2)) .anil))))
 (.cons (.ite (.cmp .Gt (.bt .len (.acons (.ix (.var 1) (.con (.int 0))) .anil)) (.con (.int 0)))
 (.cons (.asg (.one 7) (.tup (.acons (.bin .Mod (.var 6) (.bt .len (.acons (.ix (.var 1) (.con (.int 0))) .anil))) (.acons (.bin .Mod (.bin .FloorDiv (.var 6) (.con (.int 8))) (.bt .len (.acons (.ix (.var 1) (.con (.int 1))) .anil))) .anil))))
 (.cons (.ite (.cmp .NotIn (.var 7) (.ix (.var 1) (.con (.int 4))))
 (.cons (.asg (.one 8) (.bin .Add (.sl (.var 1) .omit (.con (.int 4))) (.tup (.acons (.bin .Add (.ix (.var 1) (.con (.int 4))) (.tup (.acons (.var 7) .anil))) .anil))))
 (.cons (.ite (.not (.call 31 (.acons (.var 4) (.acons (.call 30 (.acons (.var 8) (.acons (.var 2) (.acons (.var 3) .anil)))) .anil))))
 (.cons (.ret (.con (.bl false)))
 .nil)
 .nil)
 .nil))
 .nil)
 (.cons (.asg (.one 9) (.bin .Add (.sl (.var 1) .omit (.con (.int 4))) (.tup (.acons (.bt .tuple (.acons (.comp 1 [7] (.one 0) e_law_5 (.seq (.ix (.var 1) (.con (.int 4)))) c_law_4) .anil)) .anil))))
 (.cons (.ite (.not (.call 31 (.acons (.call 30 (.acons (.var 9) (.acons (.var 2) (.acons (.var 3) .anil)))) (.acons (.var 4) .anil))))
 (.cons (.ret (.con (.bl false)))
 .nil)
 .nil)
 .nil))))
 .nil)
 (.cons (.newT 10)
 (.cons (.forS (.many [11,12]) (.seq (.call 18 (.acons (.var 1) (.acons (.var 2) (.acons (.con (.int 2)) .anil))))) b_law_6)
 (.cons (.sealed 10)
 (.cons (.forS (.one 11) (.seqD (.var 10)) b_law_8)
 (.cons (.ret (.cmp .Eq (.call 30 (.acons (.var 1) (.acons (.var 2) (.acons (.lst .anil) .anil)))) (.comp 1 [] (.one 0) e_law_9 (.seq (.ix (.var 1) (.con (.int 2)))) (.con (.bl true)))))
 .nil)))))))))))))
noncomputable def b_finds_cover_1:S :=
 (.cons (.ite (.cmp .NotIn (.var 4) (.rd 2))
 (.cons (.dputR 2 (.var 4) (.con (.bl true)))
 (.cons (.ifR false (.cmp .NotIn (.var 4) (.rd 1)) 33 (.var 0) 1 2 (.ix (.rd 1) (.var 4))
 (.cons (.dputR 1 (.var 4) (.var 3))
 (.cons (.retR (.con (.bl true)) 1 2)
 .nil))
 .nil)
 .nil))
 .nil)
 .nil)
noncomputable def b_finds_cover:S :=
 (.cons (.forS (.one 4) (.seq (.ix (.var 0) (.var 3))) b_finds_cover_1)
 (.cons (.retR (.con (.bl false)) 1 2)
 .nil))
noncomputable def T:Tab:=⟨λg=>match g with | 0=>(.int 0) | 1=>(.int 1) | 2=>(.int 2) | 3=>(.int 4) | _=>.non,λf=>f==5||f==8||f==10||f==11||f==14||f==16||f==17||f==18||f==29||f==30,λf=>match f with | 33=>some 1000 | _=>none⟩
@[simp] theorem T_glob0:T.glob 0=(.int 0):=id rfl
@[simp] theorem T_glob1:T.glob 1=(.int 1):=id rfl
@[simp] theorem T_glob2:T.glob 2=(.int 2):=id rfl
@[simp] theorem T_glob3:T.glob 3=(.int 4):=id rfl
@[simp] theorem T_fresh2:T.fresh 2=false:=id rfl
@[simp] theorem T_fresh12:T.fresh 12=false:=id rfl
noncomputable def dfs:List Df:=[⟨4,3,b_time_between,none⟩,⟨3,3,b_change_time,none⟩,⟨7,4,b_short_change_from,none⟩,⟨5,4,b_reason_from,none⟩,⟨5,3,b_reason_of,none⟩,⟨4,1,b_clashes_of,none⟩,⟨3,3,b_fault_of_part,none⟩,⟨3,3,b_have_one_player,none⟩,⟨3,2,b_faults_of,none⟩,⟨2,2,b_ask_that_it_plays,none⟩,⟨4,4,b_gaps_of,none⟩,⟨7,5,b_covers_of,none⟩,⟨4,3,b_lack_told,none⟩,⟨10,4,b_scene_told,none⟩,⟨3,3,b_night_of,none⟩,⟨4,3,b_first_lacking,none⟩,⟨5,2,b_one_longer,none⟩,⟨5,2,b_sets_up_to,none⟩,⟨3,3,b_nights_of,none⟩,⟨2,2,b_law_cell_at,none⟩,⟨2,2,b_law_mix,none⟩,⟨5,2,b_law_name,none⟩,⟨1,1,b_law_minutes,none⟩,⟨5,3,b_law_part,none⟩,⟨5,3,b_law_player,none⟩,⟨8,4,b_law_scene,none⟩,⟨9,4,b_law_pairs,none⟩,⟨13,2,b_law_drawn,none⟩,⟨12,2,b_law_staged,none⟩,⟨2,2,b_law_away,none⟩,⟨3,3,b_law_kinds,none⟩,⟨2,2,b_law_no_worse,none⟩,⟨15,1,b_law,none⟩,⟨5,4,b_finds_cover,none⟩]
theorem cell_at (n:Nat) (ns:List Int) (k:Nat):callF T dfs (n+1) 19 [.lst (ns.map D.int),.int k]=.ok (.int (cellV ns k)):=by
 unfold cellV
 refine callF_rt (k:=false) rfl rfl rfl ?_
 by_cases h:k < ns.length
 ·have hi:(ns.map D.int)[k]?=some (.int (ns.getD k 0)):=by simp[h]
  have f1:freshE T ((E.var 0).ix (E.var 1))=false:=rfl
  simp[b_law_cell_at,h,ix_l hi,f1]
 ·simp[b_law_cell_at,h]
noncomputable def stepV (c:Int):Int:=if c / 26 % 4=0 then 1 else if c / 26 % 4=1 then 3 else if c / 26 % 4=2 then 5 else 7
noncomputable def tailL (c:Int):List Nat:=if c / 104 % 4=0 then [] else if c / 104 % 4=1 then [97] else if c / 104 % 4=2 then [98,97] else [122,122,122,122,122,122,122]
noncomputable def atV (c:Int):Nat:=(c / 416 % (((tailL c).length:Int)+1)).toNat
noncomputable def signV (c k:Int):Nat:=97+((c+k*stepV c) % 26).toNat
noncomputable def nameL (c k:Int):List Nat:=(tailL c).take (atV c)++signV c k::(tailL c).drop (atV c)
noncomputable def nameV (c k:Int):Str:=⟨(nameL c k).toArray⟩
theorem signs_name (c k:Int):signs (nameV c k)=nameL c k:=by simp[signs,nameV]
theorem tail_len (c:Int):(tailL c).length≤7:=by
 unfold tailL
 repeat' split
 all_goals simp
theorem atV_le (c:Int):atV c≤(tailL c).length:=by
 unfold atV
 have:=Int.emod_lt_of_pos (c / 416) (show (0:Int) < ((tailL c).length:Int)+1 by lia)
 lia
theorem name_len (c k:Int):(nameL c k).length=(tailL c).length+1:=by
 have:=atV_le c
 unfold nameL
 rw[List.length_append,List.length_cons,List.length_take,List.length_drop]
 lia
theorem letter_at (i:Int) (h:0≤i∧i < 26):D.ix (.str "abcdefghijklmnopqrstuvwxyz") (.int i)=.ok (.str (chr1 (97+i.toNat))):=by
 have hb:=ten_big
 have a:∀j:Fin 26,atI (("abcdefghijklmnopqrstuvwxyz" : Str).cps.toList) ((j.val:Nat):Int)=some (97+j.val):=by decide
 have:=a ⟨i.toNat,by lia⟩
 rw[show ((i.toNat:Nat):Int)=i by lia] at this
 show when (decide (("abcdefghijklmnopqrstuvwxyz" : Str).length≤big)) (Res.of ((atI ("abcdefghijklmnopqrstuvwxyz" : Str).cps.toList i).map λc=>D.str ⟨#[c]⟩))=_
 rw[this,show decide (("abcdefghijklmnopqrstuvwxyz" : Str).length≤big)=true by
  rw[show ("abcdefghijklmnopqrstuvwxyz" : Str).length=26 by decide];simp;lia]
 rfl
noncomputable def tailS (c:Int):Str:=⟨(tailL c).toArray⟩
theorem four_at {α:Type} (a b c d:α) (i:Int) (h:0≤i∧i < 4):atI [a,b,c,d] i=some (if i=0 then a else if i=1 then b else if i=2 then c else d):=by
 have:i=0∨i=1∨i=2∨i=3:=by lia
 rcases this with rfl | rfl | rfl | rfl<;>rfl
theorem law_name (n:Nat) (c k:Int):callF T dfs (n+1) 21 [.int c,.int k]=.ok (.str (nameV c k)):=by
 refine callF_rt (k:=true) rfl rfl rfl ?_
 have hb:=ten_big
 have r1:0≤c / 26 % 4∧c / 26 % 4 < 4:=by lia
 have r2:0≤c / 104 % 4∧c / 104 % 4 < 4:=by lia
 have e1:D.ix (.lst [.int 1,.int 3,.int 5,.int 7]) (.int (c / 26 % 4))=.ok (.int (stepV c)):=by
  show Res.of (atI _ _)=_
  rw[four_at _ _ _ _ _ r1]
  unfold stepV
  repeat' split
  all_goals rfl
 have e2:D.ix (.lst [.str "", .str "a", .str "ba", .str "zzzzzzz"]) (.int (c / 104 % 4))=.ok (.str (tailS c)):=by
  show Res.of (atI _ _)=_
  rw[four_at _ _ _ _ _ r2]
  unfold tailS tailL
  repeat' split
  ·exact congrArg (λz=>Res.ok (D.str z)) (show ("" : Str)=_ by decide)
  ·exact congrArg (λz=>Res.ok (D.str z)) (show ("a" : Str)=_ by decide)
  ·exact congrArg (λz=>Res.ok (D.str z)) (show ("ba" : Str)=_ by decide)
  ·exact congrArg (λz=>Res.ok (D.str z)) (show ("zzzzzzz" : Str)=_ by decide)
 have hs:signs (tailS c)=tailL c:=by simp[signs,tailS]
 have hl:=len_signs (tailS c)
 rw[hs] at hl
 have ht:=tail_len c
 have ha:=atV_le c
 have e3:D.bin .Mult (.int k) (.int (stepV c))=.ok (.int (k*stepV c)):=by
  show when (small64 k||small64 (stepV c)) _=_
  have:small64 (stepV c)=true:=by
   unfold stepV
   repeat' split
   all_goals decide
  rw[this,Bool.or_true];rfl
 have r3:0≤(c+k*stepV c) % 26∧(c+k*stepV c) % 26 < 26:=by lia
 have e4:=letter_at _ r3
 have e5:(tailS c).length≤big:=by lia
 have e6:(0:Int) < (tailL c).length+1:=by lia
 have e7:c / 416 % (((tailL c).length:Int)+1)=(atV c:Int):=by
  unfold atV
  have:=Int.emod_nonneg (c / 416) (show ((tailL c).length:Int)+1≠0 by lia)
  lia
 have e8:D.sl (.str (tailS c)) none (some (atV c:Int))=.ok (.str ⟨((tailL c).take (atV c)).toArray⟩):=by
  show when (decide ((tailS c).length≤big)) (.ok (D.str (strCut (tailS c) none (some (atV c:Int)))))=_
  rw[show decide ((tailS c).length≤big)=true by simpa using e5]
  unfold strCut
  rw[show (tailS c).cps.toList=tailL c from hs]
  have:cut (tailL c) none (some (atV c:Int))=(tailL c).take (atV c):=by
   unfold cut sIx
   simp only[]
   rw[if_neg (by lia),Int.toNat_natCast,Nat.min_eq_left ha,List.drop_zero,Nat.sub_zero]
  rw[this];rfl
 have e9:D.sl (.str (tailS c)) (some (atV c:Int)) none=.ok (.str ⟨((tailL c).drop (atV c)).toArray⟩):=by
  show when (decide ((tailS c).length≤big)) (.ok (D.str (strCut (tailS c) (some (atV c:Int)) none)))=_
  rw[show decide ((tailS c).length≤big)=true by simpa using e5]
  unfold strCut
  rw[show (tailS c).cps.toList=tailL c from hs,cut_from ha];rfl
 have e10:D.bin .Add (.str ⟨((tailL c).take (atV c)).toArray⟩) (.str (chr1 (97+((c+k*stepV c) % 26).toNat)))=.ok (.str ⟨((tailL c).take (atV c)++[signV c k]).toArray⟩):=by
  exact add_strs (a:=(tailL c).take (atV c)) (b:=[signV c k]) (by simp;lia)
 have e11:D.bin .Add (.str ⟨((tailL c).take (atV c)++[signV c k]).toArray⟩) (.str ⟨((tailL c).drop (atV c)).toArray⟩)=.ok (.str (nameV c k)):=by
  rw[add_strs (by simp;lia)]
  unfold nameV nameL
  rw[List.append_assoc];rfl
 have e12:(tailL c).length≤big:=by lia
 simp[b_law_name,e1,e2,e3,e4,hl,e12,e6,e7,e8,e9,e10,e11]
noncomputable def minV (x:Int):Int:=x / 6 % (if x % 6 < 4 then 7 else if x % 6=4 then 40 else 1000000000)
theorem minV_range (x:Int):0≤minV x∧minV x < 1000000000:=by
 unfold minV
 repeat' split
 all_goals lia
theorem law_minutes (n:Nat) (x:Int):callF T dfs (n+1) 22 [.int x]=.ok (.int (minV x)):=by
 refine callF_rt (k:=false) rfl rfl rfl ?_
 have e0:D.bin .Pow (.int 10) (.int 9)=.ok (.int 1000000000):=by rfl
 have e1:D.ix (.lst [.int 7,.int 7,.int 40,.int 1000000000]) (.int (x % 6 / 2+x % 6 / 5))=.ok (.int (if x % 6 < 4 then 7 else if x % 6=4 then 40 else 1000000000)):=by
  show Res.of (atI _ _)=_
  rw[four_at _ _ _ _ _ (by lia)]
  repeat' split
  all_goals first | rfl | (exfalso;lia)
 have e2:(0:Int) < (if x % 6 < 4 then 7 else if x % 6=4 then 40 else 1000000000):=by
  repeat' split
  all_goals lia
 simp[b_law_minutes,e0,e1,e2,minV]
noncomputable def mixN (c k:Int):Int:=(c % 1000003*(48271+15838*k*k)+69621*k) % 2147483647
theorem mixN_range (c k:Int):0≤mixN c k∧mixN c k < 2147483647:=by unfold mixN;lia
theorem mul_small {i j:Int} (h:small64 i=true∨small64 j=true):D.bin .Mult (.int i) (.int j)=.ok (.int (i*j)):=by
 show when (small64 i||small64 j) _=_
 rcases h with h | h
 ·rw[h];rfl
 ·rw[h,Bool.or_true];rfl
theorem law_mix (n:Nat) (c k:Int) (hk:0≤k∧k < 1000000):callF T dfs (n+1) 20 [.int c,.int k]=.ok (.int (mixN c k)):=by
 refine callF_rt (k:=false) rfl rfl rfl ?_
 have hk2:small64 k=true:=by unfold small64;simp;lia
 have e1:D.bin .Mult (.int 15838) (.int k)=.ok (.int (15838*k)):=mul_small (.inr hk2)
 have e2:D.bin .Mult (.int (15838*k)) (.int k)=.ok (.int (15838*k*k)):=mul_small (.inr hk2)
 have e3:D.bin .Mult (.int 69621) (.int k)=.ok (.int (69621*k)):=mul_small (.inr hk2)
 have e4:D.bin .Mult (.int (c % 1000003)) (.int (48271+15838*k*k))=.ok (.int (c % 1000003*(48271+15838*k*k))):=mul_small (.inl (by unfold small64;simp;lia))
 simp[b_law_mix,e1,e2,e3,e4,mixN]
noncomputable def firstC:List Nat→Nat
 | a::_=>a
 | []=>97
noncomputable def voiceV (x base:Int):Nat:=if x % 4=0 then 97 else if x % 4=1 then 98 else if x % 4=2 then 97 else firstC (nameL (7*base) x)
theorem name_cons (c k:Int):∃a r,nameL c k=a::r:=by
 have:=name_len c k
 cases e:nameL c k with
 | nil=>rw[e] at this;simp at this
 | cons a r=>exact⟨a,r,rfl⟩
noncomputable def partP (cell base:Int) (k:Nat):Str×List D:=(nameV base k,[.str (chr1 (voiceV (mixN cell k) base)),.int (minV (mixN cell k / 4)),.int (minV (mixN cell (k+20)))])
theorem law_part (n:Nat) (cell base:Int) (k:Nat) (hk:k < 1000):callF T dfs (n+2) 23 [.int cell,.int k,.int base]=.ok (ent (partP cell base k)):=by
 refine callF_rt (k:=false) rfl rfl rfl ?_
 have hb:=ten_big
 have e1:=law_mix n cell k (by lia)
 have e2:=law_mix n cell (k+20) (by lia)
 have e3:=law_name n base k
 have e4:=law_name n (7*base) (mixN cell k)
 have e5:=law_minutes n (mixN cell k / 4)
 have e6:=law_minutes n (mixN cell (k+20))
 have e7:D.bin .Mult (.int 7) (.int base)=.ok (.int (7*base)):=mul_small (.inl (by decide))
 have e8:D.sl (.str (nameV (7*base) (mixN cell k))) none (some 1)=.ok (.str (chr1 (firstC (nameL (7*base) (mixN cell k))))):=by
  obtain⟨a,r,e⟩:=name_cons (7*base) (mixN cell k)
  have hl:(nameV (7*base) (mixN cell k)).length≤big:=by
   rw[len_signs,signs_name,name_len];have:=tail_len (7*base);lia
  show when (decide ((nameV (7*base) (mixN cell k)).length≤big)) (.ok (D.str (strCut (nameV (7*base) (mixN cell k)) none (some 1))))=_
  rw[show decide ((nameV (7*base) (mixN cell k)).length≤big)=true by simpa using hl]
  unfold strCut
  rw[show (nameV (7*base) (mixN cell k)).cps.toList=nameL (7*base) (mixN cell k) from signs_name _ _,e]
  have:cut (a::r) none (some 1)=[a]:=by
   unfold cut sIx;simp
  rw[this];rfl
 have r:=mixN_range cell k
 have e9:D.ix (.lst [.str "a", .str "b", .str "a", .str (chr1 (firstC (nameL (7*base) (mixN cell k))))]) (.int (mixN cell k % 4))=.ok (.str (chr1 (voiceV (mixN cell k) base))):=by
  show Res.of (atI _ _)=_
  rw[four_at _ _ _ _ _ (by lia)]
  unfold voiceV
  repeat' split
  ·exact congrArg (λz=>Res.ok (D.str z)) (show ("a" : Str)=_ by decide)
  ·exact congrArg (λz=>Res.ok (D.str z)) (show ("b" : Str)=_ by decide)
  ·exact congrArg (λz=>Res.ok (D.str z)) (show ("a" : Str)=_ by decide)
  ·rfl
 simp[b_law_part,e1,e2,e3,e4,e5,e6,e7,e8,e9,ent,partP]
noncomputable def voicesV (x:Int):Str:=if x % 6=0 then "ab" else if x % 6=1 then "a" else if x % 6=2 then "bca" else if x % 6=3 then "" else if x % 6=4 then "abcdefghijklmnopqrstuvwxyz" else "zb"
noncomputable def playerP (cell base:Int) (k:Nat):Str×List D:=(nameV base k,[.str (voicesV (mixN cell k)),.int (minV (mixN cell k / 6))])
theorem six_at {α:Type} (a b c d e f:α) (i:Int) (h:0≤i∧i < 6):atI [a,b,c,d,e,f] i=some (if i=0 then a else if i=1 then b else if i=2 then c else if i=3 then d else if i=4 then e else f):=by
 have:i=0∨i=1∨i=2∨i=3∨i=4∨i=5:=by lia
 rcases this with rfl | rfl | rfl | rfl | rfl | rfl<;>rfl
theorem law_player (n:Nat) (cell base:Int) (k:Nat) (hk:k < 1000):callF T dfs (n+2) 24 [.int cell,.int k,.int base]=.ok (ent (playerP cell base k)):=by
 refine callF_rt (k:=false) rfl rfl rfl ?_
 have hb:=ten_big
 have e1:=law_mix n cell k (by lia)
 have e3:=law_name n base k
 have e5:=law_minutes n (mixN cell k / 6)
 have r:=mixN_range cell k
 have e9:D.ix (.lst [.str "ab", .str "a", .str "bca", .str "", .str "abcdefghijklmnopqrstuvwxyz", .str "zb"]) (.int (mixN cell k % 6))=.ok (.str (voicesV (mixN cell k))):=by
  show Res.of (atI _ _)=_
  rw[six_at _ _ _ _ _ _ _ (by lia)]
  unfold voicesV
  repeat' split
  all_goals rfl
 simp[b_law_player,e1,e3,e5,e9,ent,playerP]
noncomputable def powV (j:Nat):Int:=if j=0 then 1 else if j=1 then 3 else if j=2 then 9 else if j=3 then 27 else if j=4 then 81 else if j=5 then 243 else if j=6 then 729 else 2187
noncomputable def inV (x:Int) (j:Nat):Bool:=decide (x / powV j % 3=0)
theorem eight_at {α:Type} (a b c d e f g h:α) (i:Nat) (hi:i < 8):atI [a,b,c,d,e,f,g,h] (i:Int)=some (if i=0 then a else if i=1 then b else if i=2 then c else if i=3 then d else if i=4 then e else if i=5 then f else if i=6 then g else h):=by
 have:i=0∨i=1∨i=2∨i=3∨i=4∨i=5∨i=6∨i=7:=by lia
 rcases this with rfl | rfl | rfl | rfl | rfl | rfl | rfl | rfl<;>rfl
theorem powV_pos (j:Nat):0 < powV j∧powV j < 1073741824:=by
 unfold powV
 repeat' split
 all_goals lia
theorem scene_comp (n:Nat) (x:Int) (a b c d f g h:Sl):∀xs:List Nat,(∀j∈xs,j < 8)→compL (compF T (callF T dfs n) 1 [4] (.one 0) e_scene_2 c_scene_1 [a,b,c,d,.v (.int x),f,g,h]) (xs.map λj:Nat=>D.int j)=.ok ((xs.filter (inV x)).map λj:Nat=>D.int j)
 | [],_=>rfl
 | j::r,hj=>by
  have h8:=hj j List.mem_cons_self
  have e1:D.ix (.lst [.int 1,.int 3,.int 9,.int 27,.int 81,.int 243,.int 729,.int 2187]) (.int j)=.ok (.int (powV j)):=by
   show Res.of (atI _ _)=_
   rw[eight_at _ _ _ _ _ _ _ _ j h8]
   unfold powV
   repeat' split
   all_goals rfl
  have hp:=powV_pos j
  have e2:D.bin .FloorDiv (.int x) (.int (powV j))=.ok (.int (x / powV j)):=by
   show when (decide (0 < powV j)&&decide (powV j < 1073741824)) _=_
   rw[show decide (0 < powV j)=true by simpa using hp.1,show decide (powV j < 1073741824)=true by simpa using hp.2]
   rfl
  rw[List.map_cons,compL,scene_comp n x a b c d f g h r λi hi=>hj i (List.mem_cons_of_mem _ hi)]
  by_cases q:x / powV j % 3=0
  ·have q':inV x j=true:=by unfold inV;simpa using q
   rw[List.filter_cons_of_pos q']
   simp[compF,Tr.compEnv,e_scene_2,c_scene_1,e1,e2,q]
  ·have q':¬inV x j=true:=by unfold inV;simpa using q
   rw[List.filter_cons_of_neg q']
   simp[compF,Tr.compEnv,e_scene_2,c_scene_1,e1,e2,q]
noncomputable def someV (x:Int) (many:Nat):List Nat:=(List.range many).filter (inV x)
theorem some_len (x:Int) (many:Nat):(someV x many).length≤many:=by
 have:=List.length_filter_le (inV x) (List.range many)
 rw[List.length_range] at this
 exact this
noncomputable def whoV (cell:Int) (k many:Nat):List Nat:=rotV cell (someV (mixN cell (k+40)) many)
noncomputable def sceneP (cell base:Int) (k many:Nat):Str×List D:=(nameV base k,[.int (minV (mixN cell k)),.int (minV (mixN cell (k+20))),.tup ((whoV cell k many).map λj:Nat=>D.int j)])
theorem law_scene (n:Nat) (cell base:Int) (k many:Nat) (hk:k < 1000) (hm:many≤8):callF T dfs (n+2) 25 [.int cell,.int k,.int base,.int many]=.ok (ent (sceneP cell base k many)):=by
 refine callF_rt (k:=false) rfl rfl rfl ?_
 have hb:=ten_big
 have e0:=law_mix n cell (k+40) (by lia)
 have e1:=law_mix n cell k (by lia)
 have e2:=law_mix n cell (k+20) (by lia)
 have e3:=law_name n base k
 have e4:=law_minutes n (mixN cell k)
 have e5:=law_minutes n (mixN cell (k+20))
 have e6:rngR (.int (many:Int))=.ok ((List.range many).map λj:Nat=>D.int j):=by
  rw[rng_ok (by lia),rangeD_eq]
  simp
 have e7:=λa b c d f g h=>scene_comp (n+1) (mixN cell (k+40)) a b c d f g h (List.range many) λj hj=>by rw[List.mem_range] at hj;lia
 have hl:=some_len (mixN cell (k+40)) many
 have e7':∀a b c d f g h,compL (compF T (callF T dfs (n+1)) 1 [4] (.one 0) e_scene_2 c_scene_1 [a,b,c,d,.v (.int (mixN cell (k+40))),f,g,h]) ((List.range many).map λj:Nat=>D.int j)=.ok ((someV (mixN cell (k+40)) many).map λj:Nat=>D.int j):=e7
 clear e7
 have hw:whoV cell k many=rotV cell (someV (mixN cell (k+40)) many):=rfl
 generalize someV (mixN cell (k+40)) many=L at *
 have hr:=rot_le cell L
 have e8:cell % ((L.length:Int)+1)=(((cell % ((L.length:Int)+1)).toNat:Nat):Int):=by
  have:=Int.emod_nonneg cell (show (L.length:Int)+1≠0 by lia)
  lia
 have e9:(0:Int) < (L.length:Int)+1:=by lia
 have hL:(L.map λj:Nat=>D.int j).length=L.length:=List.length_map ..
 have e10:cut (L.map λj:Nat=>D.int j) (some (cell % ((L.length:Int)+1))) none=(L.map λj:Nat=>D.int j).drop (cell % ((L.length:Int)+1)).toNat:=by
  rw[e8];exact cut_from (by rw[hL];lia)
 have e11:cut (L.map λj:Nat=>D.int j) none (some (cell % ((L.length:Int)+1)))=(L.map λj:Nat=>D.int j).take (cell % ((L.length:Int)+1)).toNat:=by
  rw[e8];exact cut_to (by rw[hL];lia)
 have e12:D.bin .Add (.lst ((L.map λj:Nat=>D.int j).drop (cell % ((L.length:Int)+1)).toNat)) (.lst ((L.map λj:Nat=>D.int j).take (cell % ((L.length:Int)+1)).toNat))=.ok (.lst ((whoV cell k many).map λj:Nat=>D.int j)):=by
  rw[add_lsts (by rw[List.length_drop,List.length_take,hL];lia),hw,←rot_map]
  unfold rotV
  rw[hL]
 have e13:many≤big:=by lia
 have e14:L.length≤big:=by lia
 simp[b_law_scene,e0,e1,e2,e3,e4,e5,e6,e7',e9,e10,e11,e12,e13,e14,ent,sceneP]
noncomputable def pick (cell share:Int) (k:Nat):Bool:=decide (mixN cell k / 64 % share=0)
noncomputable def prD (p:Nat×Nat):D:=.tup [.int p.1,.int p.2]
noncomputable def prs (cell share:Int) (other:Nat) (xs:List Nat):List (Nat×Nat):=(xs.filter (pick cell share)).map λk=>(k / other,k % other)
theorem pairs_body (n:Nat) (cell one share:Int) (other k:Nat) (ho:0 < other∧other < 1000) (hs:0 < share) (hk:k < 1000) (acc:List D) (ha:acc.length < 1000) (x y z w:Sl) :
 bodyF T (callF T dfs (n+1)) (.one 5) b_pairs_1 (.int k) [.v (.int cell),.v (.int one),.v (.int other),.v (.int share),.o (.lst acc),x,y,z,w] =
  .ok (.nx [.v (.int cell),.v (.int one),.v (.int other),.v (.int share),.o (.lst (if pick cell share k then acc++[prD (k / other,k % other)] else acc)),.v (.int k),.v (.int (mixN cell k)),.v (prD (k / other,k % other)),w]):=by
 have hb:=ten_big
 have e1:=law_mix n cell k (by lia)
 have e2:D.bin .FloorDiv (.int k) (.int other)=.ok (.int ((k / other:Nat):Int)):=by
  show when (decide ((0:Int) < other)&&decide ((other:Int) < 1073741824)) _=_
  rw[show decide ((0:Int) < other)=true by simp;lia,show decide ((other:Int) < 1073741824)=true by simp;lia]
  simp
 have e3:D.bin .Mod (.int k) (.int other)=.ok (.int ((k % other:Nat):Int)):=by
  show when (decide ((0:Int) < other)) _=_
  rw[show decide ((0:Int) < other)=true by simp;lia]
  simp
 have e4:acc.length < big:=by lia
 by_cases q:mixN cell k / 64 % share=0
 ·have q':pick cell share k=true:=by unfold pick;simpa using q
  simp[bodyF,b_pairs_1,e1,e2,e3,hs,q,q',e4,prD]
 ·have q':pick cell share k=false:=by unfold pick;simpa using q
  simp[bodyF,b_pairs_1,e1,e2,e3,hs,q,q',prD]
theorem pairs_loop (n:Nat) (cell one share:Int) (other:Nat) (ho:0 < other∧other < 1000) (hs:0 < share) (w:Sl):∀(xs:List Nat) (acc:List D) (x y z:Sl),(∀k∈xs,k < 1000)→acc.length+xs.length < 1000 →
 ∃x' y' z',forL (bodyF T (callF T dfs (n+1)) (.one 5) b_pairs_1) (xs.map λk:Nat=>D.int k) [.v (.int cell),.v (.int one),.v (.int other),.v (.int share),.o (.lst acc),x,y,z,w] =
  .ok (.nx [.v (.int cell),.v (.int one),.v (.int other),.v (.int share),.o (.lst (acc++(prs cell share other xs).map prD)),x',y',z',w])
 | [],acc,x,y,z,_,_=>⟨x,y,z,by simp[prs,forL_nil]⟩
 | k::r,acc,x,y,z,hx,hl=>by
  rw[List.length_cons] at hl
  have e:=pairs_body n cell one share other k ho hs (hx k List.mem_cons_self) acc (by lia) x y z w
  obtain⟨x',y',z',e2⟩:=pairs_loop n cell one share other ho hs w r (if pick cell share k then acc++[prD (k / other,k % other)] else acc) (.v (.int k)) (.v (.int (mixN cell k))) (.v (prD (k / other,k % other))) (λi hi=>hx i (List.mem_cons_of_mem _ hi)) (by split<;>(try rw[List.length_append,List.length_singleton])<;>lia)
  refine⟨x',y',z',?_⟩
  rw[List.map_cons,forL_nx e,e2]
  unfold prs
  cases q:pick cell share k with
  | true=>rw[List.filter_cons_of_pos q];simp
  | false=>rw[List.filter_cons_of_neg (by rw[q];simp)];simp
noncomputable def pairsV (cell share:Int) (one other:Nat):List (Nat×Nat):=rotV cell (prs cell share other (List.range (one*other)))
theorem prs_len (cell share:Int) (other:Nat) (xs:List Nat):(prs cell share other xs).length≤xs.length:=by
 unfold prs
 rw[List.length_map]
 exact List.length_filter_le _ _
theorem law_pairs (n:Nat) (cell share:Int) (one other:Nat) (h1:one≤8) (h2:other≤8) (hs:0 < share):callF T dfs (n+2) 26 [.int cell,.int one,.int other,.int share]=.ok (.lst ((pairsV cell share one other).map prD)):=by
 refine callF_rt (k:=true) rfl rfl rfl ?_
 have hb:=ten_big
 have hm:one*other≤64:=Nat.mul_le_mul h1 h2
 have e1:D.bin .Mult (.int one) (.int other)=.ok (.int ((one:Int)*(other:Int))):=mul_small (.inl (by unfold small64;simp;lia))
 have e2:rngR (.int ((one:Int)*(other:Int)))=.ok ((List.range (one*other)).map λk:Nat=>D.int k):=by
  rw[show (one:Int)*(other:Int)=((one*other:Nat):Int) by push_cast;rfl,rng_ok (by lia),rangeD_eq]
  simp
 have e3:∃x' y' z',forL (bodyF T (callF T dfs (n+1)) (.one 5) b_pairs_1) ((List.range (one*other)).map λk:Nat=>D.int k) [.v (.int cell),.v (.int one),.v (.int other),.v (.int share),.o (.lst []),.no,.no,.no,.no] =
  .ok (.nx [.v (.int cell),.v (.int one),.v (.int other),.v (.int share),.o (.lst ((prs cell share other (List.range (one*other))).map prD)),x',y',z',.no]):=by
  by_cases ho:0 < other
  ·have:=pairs_loop n cell one share other ⟨ho,by lia⟩ hs .no (List.range (one*other)) [] .no .no .no (λk hk=>by rw[List.mem_range] at hk;lia) (by rw[List.length_range];simp;lia)
   simpa using this
  ·have:other=0:=by lia
   subst this
   exact⟨.no,.no,.no,by simp[prs,forL_nil]⟩
 obtain⟨x',y',z',e3⟩:=e3
 have hl:=prs_len cell share other (List.range (one*other))
 rw[List.length_range] at hl
 have hw:pairsV cell share one other=rotV cell (prs cell share other (List.range (one*other))):=rfl
 generalize prs cell share other (List.range (one*other))=L at *
 have hr:=rot_le cell L
 have e8:cell % ((L.length:Int)+1)=(((cell % ((L.length:Int)+1)).toNat:Nat):Int):=by
  have:=Int.emod_nonneg cell (show (L.length:Int)+1≠0 by lia)
  lia
 have e9:(0:Int) < (L.length:Int)+1:=by lia
 have hL:(L.map prD).length=L.length:=List.length_map ..
 have e10:cut (L.map prD) (some (cell % ((L.length:Int)+1))) none=(L.map prD).drop (cell % ((L.length:Int)+1)).toNat:=by
  rw[e8];exact cut_from (by rw[hL];lia)
 have e11:cut (L.map prD) none (some (cell % ((L.length:Int)+1)))=(L.map prD).take (cell % ((L.length:Int)+1)).toNat:=by
  rw[e8];exact cut_to (by rw[hL];lia)
 have e12:D.bin .Add (.lst ((L.map prD).drop (cell % ((L.length:Int)+1)).toNat)) (.lst ((L.map prD).take (cell % ((L.length:Int)+1)).toNat))=.ok (.lst ((pairsV cell share one other).map prD)):=by
  rw[add_lsts (by rw[List.length_drop,List.length_take,hL];lia),hw,←rot_map]
  unfold rotV
  rw[hL]
 have e14:L.length≤big:=by lia
 simp[b_law_pairs,e1,e2,e3,e9,e10,e11,e12,e14]
noncomputable def cellsD (f:Nat→Int):D:=.lst [.int (f 0),.int (f 1),.int (f 2),.int (f 3),.int (f 4),.int (f 5),.int (f 6),.int (f 7)]
theorem drawn_cells (n:Nat) (ns:List Int) (at_:Nat) (env:Nv):compL (compF T (callF T dfs (n+1)) 1 [0,1] (.one 0) e_drawn_1 (.con (.bl true)) (.v (.lst (ns.map D.int))::.v (.int at_)::env)) (rangeD 0 8)=.ok [.int (cellV ns at_),.int (cellV ns (at_+1)),.int (cellV ns (at_+2)),.int (cellV ns (at_+3)),.int (cellV ns (at_+4)),.int (cellV ns (at_+5)),.int (cellV ns (at_+6)),.int (cellV ns (at_+7))]:=by
 have e:∀xs:List Nat,compL (compF T (callF T dfs (n+1)) 1 [0,1] (.one 0) e_drawn_1 (.con (.bl true)) (.v (.lst (ns.map D.int))::.v (.int at_)::env)) (xs.map λj:Nat=>D.int j)=.ok (xs.map λj:Nat=>D.int (cellV ns (at_+j))):=by
  intro xs
  induction xs with
  | nil=>rfl
  | cons x r ih =>
   have c:=cell_at n ns (at_+x)
   rw[show ((at_+x:Nat):Int)=(at_:Int)+(x:Int) by push_cast;rfl] at c
   rw[List.map_cons,compL,ih]
   simp[compF,Tr.compEnv,e_drawn_1,c]
 have e2:rangeD 0 8=(List.range 8).map λj:Nat=>D.int j:=by rw[rangeD_eq];simp
 rw[e2,e]
 rfl
theorem drawn_parts (n:Nat) (f:Nat→Int) (a b:Sl) (env:Nv):∀xs:List Nat,(∀k∈xs,k < 1000)→compL (compF T (callF T dfs (n+2)) 1 [2] (.one 0) e_drawn_2 (.con (.bl true)) (a::b::.v (cellsD f)::env)) (xs.map λj:Nat=>D.int j)=.ok (xs.map λk=>ent (partP (f 2) (f 0) k))
 | [],_=>rfl
 | x::r,h=>by
  have c:=law_part n (f 2) (f 0) x (h x List.mem_cons_self)
  rw[List.map_cons,compL,drawn_parts n f a b env r λk hk=>h k (List.mem_cons_of_mem _ hk)]
  simp[compF,Tr.compEnv,e_drawn_2,cellsD,c]
theorem drawn_players (n:Nat) (f:Nat→Int) (a b:Sl) (env:Nv):∀xs:List Nat,(∀k∈xs,k < 1000)→compL (compF T (callF T dfs (n+2)) 1 [2] (.one 0) e_drawn_3 (.con (.bl true)) (a::b::.v (cellsD f)::env)) (xs.map λj:Nat=>D.int j)=.ok (xs.map λk=>ent (playerP (f 3) (f 4) k))
 | [],_=>rfl
 | x::r,h=>by
  have c:=law_player n (f 3) (f 4) x (h x List.mem_cons_self)
  rw[List.map_cons,compL,drawn_players n f a b env r λk hk=>h k (List.mem_cons_of_mem _ hk)]
  simp[compF,Tr.compEnv,e_drawn_3,cellsD,c]
noncomputable def scenesE (base:Int) (many:Nat):Nat→List Int→List (Str×List D)
 | _,[]=>[]
 | j,c::r=>sceneP c base j many::scenesE base many (j+1) r
theorem drawn_scenes (n:Nat) (f:Nat→Int) (many:Nat) (hm:many≤8) (a0 a1 a4 a5 a9 a10 a11 a12:Sl):∀(cs:List Int) (j:Nat) (acc:List D) (x y:Sl),j+cs.length < 1000→acc.length+cs.length < 1000 →
 ∃x' y',forL (bodyF T (callF T dfs (n+2)) (.many [7,8]) b_drawn_4) (enumD j (cs.map D.int)) [a0,a1,.v (cellsD f),.v (.int many),a4,a5,.o (.lst acc),x,y,a9,a10,a11,a12] =
  .ok (.nx [a0,a1,.v (cellsD f),.v (.int many),a4,a5,.o (.lst (acc++(scenesE (f 5) many j cs).map ent)),x',y',a9,a10,a11,a12])
 | [],j,acc,x,y,_,_=>⟨x,y,by simp[scenesE,enumD,forL_nil]⟩
 | c::r,j,acc,x,y,h1,h2=>by
  rw[List.length_cons] at h1 h2
  have hb:=ten_big
  have e0:=law_scene n c (f 5) j many (by lia) hm
  have e1:acc.length < big:=by lia
  have e:bodyF T (callF T dfs (n+2)) (.many [7,8]) b_drawn_4 (.tup [.int j,.int c]) [a0,a1,.v (cellsD f),.v (.int many),a4,a5,.o (.lst acc),x,y,a9,a10,a11,a12] =
   .ok (.nx [a0,a1,.v (cellsD f),.v (.int many),a4,a5,.o (.lst (acc++[ent (sceneP c (f 5) j many)])),.v (.int j),.v (.int c),a9,a10,a11,a12]):=by
   simp[bodyF,b_drawn_4,cellsD,e0,e1]
  obtain⟨x',y',e2⟩:=drawn_scenes n f many hm a0 a1 a4 a5 a9 a10 a11 a12 r (j+1) (acc++[ent (sceneP c (f 5) j many)]) (.v (.int j)) (.v (.int c)) (by lia) (by simp;lia)
  refine⟨x',y',?_⟩
  rw[List.map_cons,enumD,forL_nx e,show (j:Int)+1=((j+1:Nat):Int) by push_cast;rfl,e2,scenesE,List.map_cons,List.append_assoc]
  rfl
noncomputable def likeT (cell:Int) (p:Nat×Nat):Nat×Nat×Nat:=(p.1,p.2,(mixN cell (p.2+9*p.1) % 1000000000).toNat)
noncomputable def lkD (l:Nat×Nat×Nat):D:=.tup [.int l.1,.int l.2.1,.int l.2.2]
theorem drawn_likes (n:Nat) (f:Nat→Int) (a0 a1 a3 a4 a5 a6 a7 a8 a12:Sl):∀(ps:List (Nat×Nat)) (acc:List D) (x y:Sl),(∀p∈ps,p.1 < 100∧p.2 < 100)→acc.length+ps.length < 1000 →
 ∃x' y',forL (bodyF T (callF T dfs (n+2)) (.many [10,11]) b_drawn_5) (ps.map prD) [a0,a1,.v (cellsD f),a3,a4,a5,a6,a7,a8,.o (.lst acc),x,y,a12] =
  .ok (.nx [a0,a1,.v (cellsD f),a3,a4,a5,a6,a7,a8,.o (.lst (acc++(ps.map (likeT (f 6))).map lkD)),x',y',a12])
 | [],acc,x,y,_,_=>⟨x,y,by simp[forL_nil]⟩
 | p::r,acc,x,y,h1,h2=>by
  rw[List.length_cons] at h2
  have hb:=ten_big
  have hp:=h1 p List.mem_cons_self
  have e0:=law_mix (n+1) (f 6) ((p.2:Int)+9*(p.1:Int)) (by lia)
  have e1:acc.length < big:=by lia
  have r1:=mixN_range (f 6) ((p.2:Int)+9*(p.1:Int))
  have e3:D.bin .Mult (.int 9) (.int (p.1:Int))=.ok (.int (9*(p.1:Int))):=mul_small (.inl (by decide))
  have e4:((mixN (f 6) ((p.2:Int)+9*(p.1:Int)) % 1000000000).toNat:Int)=mixN (f 6) ((p.2:Int)+9*(p.1:Int)) % 1000000000:=by lia
  have e:bodyF T (callF T dfs (n+2)) (.many [10,11]) b_drawn_5 (prD p) [a0,a1,.v (cellsD f),a3,a4,a5,a6,a7,a8,.o (.lst acc),x,y,a12] =
   .ok (.nx [a0,a1,.v (cellsD f),a3,a4,a5,a6,a7,a8,.o (.lst (acc++[lkD (likeT (f 6) p)])),.v (.int p.1),.v (.int p.2),a12]):=by
   simp[bodyF,b_drawn_5,cellsD,prD,e0,e1,e3,lkD,likeT,e4]
  obtain⟨x',y',e2⟩:=drawn_likes n f a0 a1 a3 a4 a5 a6 a7 a8 a12 r (acc++[lkD (likeT (f 6) p)]) (.v (.int p.1)) (.v (.int p.2)) (λq hq=>h1 q (List.mem_cons_of_mem _ hq)) (by simp;lia)
  refine⟨x',y',?_⟩
  rw[List.map_cons,forL_nx e,e2,List.map_cons,List.map_cons,List.append_assoc]
  rfl
noncomputable def manyV (c:Int):Nat:=(c % 7).toNat+(if c / 7 % 8=5∧c % 7=6 then 2 else 0)
theorem many_le (c:Int):manyV c≤8:=by unfold manyV;split<;>lia
noncomputable def fV (ns:List Int) (at_ j:Nat):Int:=cellV ns (at_+j)
noncomputable def partsB (f:Nat→Int):List (Str×List D):=(List.range (manyV (f 1))).map λk=>partP (f 2) (f 0) k
noncomputable def playersB (f:Nat→Int):List (Str×List D):=(List.range (f 1 / 56 % 7).toNat).map λk=>playerP (f 3) (f 4) k
noncomputable def likesB (f:Nat→Int):List (Nat×Nat×Nat):=(pairsV (f 6) 3 (f 1 / 56 % 7).toNat (manyV (f 1))).map (likeT (f 6))
noncomputable def coversB (f:Nat→Int):List (Nat×Nat):=pairsV (f 7) 2 (manyV (f 1)) (f 1 / 56 % 7).toNat
noncomputable def scenesB (f:Nat→Int) (cs:List Int):List (Str×List D):=scenesE (f 5) (manyV (f 1)) 0 cs
noncomputable def bookD (f:Nat→Int) (cs:List Int):D:=.tup [.tup ((partsB f).map ent),.tup ((playersB f).map ent),.tup ((scenesB f cs).map ent),.tup ((likesB f).map lkD),.tup ((coversB f).map prD)]
theorem pairs_mem {cell share:Int} {one other:Nat} {p:Nat×Nat} (h:p∈pairsV cell share one other):p.1 < one∧p.2 < other:=by
 unfold pairsV prs at h
 rw[rot_mem,List.mem_map] at h
 obtain⟨k,hk,rfl⟩:=h
 have hk:=(List.mem_filter.mp hk).1
 rw[List.mem_range] at hk
 have ho:0 < other:=by
  rcases Nat.eq_zero_or_pos other with z | z
  ·rw[z] at hk;simp at hk
  ·exact z
 exact⟨(Nat.div_lt_iff_lt_mul ho).mpr hk,Nat.mod_lt _ ho⟩
theorem pairs_len {cell share:Int} {one other:Nat}:(pairsV cell share one other).length≤one*other:=by
 unfold pairsV
 rw[(rot_perm _ _).length_eq]
 have:=prs_len cell share other (List.range (one*other))
 rwa [List.length_range] at this
theorem exS_step {T:Tab} {cf:Nat→List D→Res D} {a r:S} {e e1:Nv} (h:exS T cf a e=.ok (.nx e1)):exS T cf (.cons a r) e=exS T cf r e1:=by rw[exS_cons,h];rfl
theorem law_drawn (n:Nat) (ns:List Int) (at_:Nat) (hn:ns.length≤63) (ha:at_≤20):callF T dfs (n+3) 27 [.lst (ns.map D.int),.int at_]=.ok (bookD (fV ns at_) ((ns.drop (at_+8)).take 9)):=by
 refine callF_rt (k:=false) rfl rfl rfl ?_
 have hb:=ten_big
 have e1:=λenv=>drawn_cells (n+1) ns at_ env
 have e1':∀env,compL (compF T (callF T dfs (n+2)) 1 [0,1] (.one 0) e_drawn_1 (.con (.bl true)) (.v (.lst (ns.map D.int))::.v (.int at_)::env)) (rangeD 0 8)=.ok [.int (fV ns at_ 0),.int (fV ns at_ 1),.int (fV ns at_ 2),.int (fV ns at_ 3),.int (fV ns at_ 4),.int (fV ns at_ 5),.int (fV ns at_ 6),.int (fV ns at_ 7)]:=e1
 clear e1
 have e0:rngR (.int 8)=.ok (rangeD 0 8):=rng_ok (n:=8) (by lia)
 generalize hf:fV ns at_=f at *
 have hm:=many_le (f 1)
 have hp:(f 1 / 56 % 7).toNat≤6:=by lia
 have e2:rngR (.int (manyV (f 1):Int))=.ok ((List.range (manyV (f 1))).map λj:Nat=>D.int j):=by
  rw[rng_ok (by lia),rangeD_eq];simp
 have e3:rngR (.int (f 1 / 56 % 7))=.ok ((List.range (f 1 / 56 % 7).toNat).map λj:Nat=>D.int j):=by
  have h:=rng_ok (n:=(f 1 / 56 % 7).toNat) (by lia)
  rw[Int.toNat_of_nonneg (by lia)] at h
  rw[h,rangeD_eq];simp
 have e4:=λa b env=>drawn_parts n f a b env (List.range (manyV (f 1))) λk hk=>by rw[List.mem_range] at hk;lia
 have e5:=λa b env=>drawn_players n f a b env (List.range (f 1 / 56 % 7).toNat) λk hk=>by rw[List.mem_range] at hk;lia
 have e6:=law_pairs n (f 6) 3 (f 1 / 56 % 7).toNat (manyV (f 1)) (by lia) (by lia) (by lia)
 have e7:=law_pairs n (f 7) 2 (manyV (f 1)) (f 1 / 56 % 7).toNat (by lia) (by lia) (by lia)
 have hc:(ns.drop (at_+8)).take 9=(ns.drop (at_+8)).take 9:=rfl
 have e9:cut (ns.map D.int) (some ((at_:Int)+8)) (some ((at_:Int)+17))=((ns.drop (at_+8)).take 9).map D.int:=by
  unfold cut sIx
  simp only[]
  rw[if_neg (by lia),if_neg (by lia),List.map_take,List.map_drop,List.length_map]
  by_cases q:at_+8≤ns.length
  ·rw[show ((at_:Int)+8).toNat=at_+8 by lia,show ((at_:Int)+17).toNat=at_+17 by lia,Nat.min_eq_left q]
   by_cases q2:at_+17≤ns.length
   ·rw[Nat.min_eq_left q2,show at_+17 - (at_+8)=9 by lia]
   ·rw[Nat.min_eq_right (by lia),List.take_of_length_le (by simp),List.take_of_length_le (by simp;lia)]
  ·rw[show ((at_:Int)+8).toNat=at_+8 by lia,List.drop_of_length_le (i:=at_+8) (by simp;lia),List.drop_of_length_le (by rw[List.length_map];lia)]
   simp
 generalize hC:(ns.drop (at_+8)).take 9=C at *
 have hCl:C.length≤9:=by rw[←hC,List.length_take];lia
 have e10:=λa0 a1 a4 a5 a9 a10 a11 a12=>drawn_scenes n f (manyV (f 1)) hm a0 a1 a4 a5 a9 a10 a11 a12 C 0 [] .no .no (by lia) (by simp;lia)
 have e11:∀a0 a1 a3 a4 a5 a6 a7 a8 a12,_:=λa0 a1 a3 a4 a5 a6 a7 a8 a12=>drawn_likes n f a0 a1 a3 a4 a5 a6 a7 a8 a12 (pairsV (f 6) 3 (f 1 / 56 % 7).toNat (manyV (f 1))) [] .no .no (λp hp'=>by have:=pairs_mem hp';lia) (by
  have h1:=pairs_len (cell:=f 6) (share:=3) (one:=(f 1 / 56 % 7).toNat) (other:=manyV (f 1))
  have h2:(f 1 / 56 % 7).toNat*manyV (f 1)≤6*8:=Nat.mul_le_mul hp hm
  simp;lia)
 have z10:∀a0 a1 a4 a5 a9 a10 a11 a12,∃x' y',forL (bodyF T (callF T dfs (n+2)) (.many [7,8]) b_drawn_4) (enumD 0 (C.map D.int)) [a0,a1,.v (cellsD f),.v (.int (manyV (f 1))),a4,a5,.o (.lst []),.no,.no,a9,a10,a11,a12]=.ok (.nx [a0,a1,.v (cellsD f),.v (.int (manyV (f 1))),a4,a5,.o (.lst ((scenesB f C).map ent)),x',y',a9,a10,a11,a12]):=e10
 clear e10
 have e12:(if f 1 / 7 % 8=5∧f 1 % 7=6 then (2:Int) else 0)+f 1 % 7=(manyV (f 1):Int):=by
  unfold manyV;split<;>lia
 have e13:D.bin .Mult (.int 2) (.int 1)=.ok (.int 2):=rfl
 have e14:D.bin .Mult (.int 2) (.int 0)=.ok (.int 0):=rfl
 have hl1:manyV (f 1)≤big:=by lia
 have hl2:(f 1 / 56 % 7).toNat≤big:=by lia
 have m0:Nat→True:=λ_=>trivial
 obtain⟨x1,y1,z10⟩:=z10 (.v (.lst (ns.map D.int))) (.v (.int at_)) (.v (.tup ((partsB f).map ent))) (.v (.tup ((playersB f).map ent))) .no .no .no .no
 obtain⟨x2,y2,z11⟩:=e11 (.v (.lst (ns.map D.int))) (.v (.int at_)) (.v (.int (manyV (f 1)))) (.v (.tup ((partsB f).map ent))) (.v (.tup ((playersB f).map ent))) (.o (.lst ((scenesB f C).map ent))) x1 y1 .no
 have p1:(partsB f).map ent=(List.range (manyV (f 1))).map λk=>ent (partP (f 2) (f 0) k):=by unfold partsB;rw[List.map_map];rfl
 have p2:(playersB f).map ent=(List.range (f 1 / 56 % 7).toNat).map λk=>ent (playerP (f 3) (f 4) k):=by unfold playersB;rw[List.map_map];rfl
 have p3:((playersB f).map ent).length=(f 1 / 56 % 7).toNat:=by rw[p2];simp
 rw[←p1] at e4
 rw[←p2] at e5
 simp only[cellsD] at e4 e5 z10 z11
 have h8:8≤big:=by lia
 have e6':callF T dfs (n+2) 26 [.int (f 6),.int (((playersB f).map ent).length:Nat),.int (manyV (f 1)),.int 3]=.ok (.lst ((pairsV (f 6) 3 (f 1 / 56 % 7).toNat (manyV (f 1))).map prD)):=by rw[p3];exact e6
 have e7':callF T dfs (n+2) 26 [.int (f 7),.int (manyV (f 1)),.int (((playersB f).map ent).length:Nat),.int 2]=.ok (.lst ((coversB f).map prD)):=by rw[p3];exact e7
 rw[List.length_map] at e6' e7'
 have z11':forL (bodyF T (callF T dfs (n+2)) (.many [10,11]) b_drawn_5) ((pairsV (f 6) 3 (f 1 / 56 % 7).toNat (manyV (f 1))).map prD) _=.ok (.nx _):=z11
 rw[List.nil_append,show (pairsV (f 6) 3 (f 1 / 56 % 7).toNat (manyV (f 1))).map (likeT (f 6))=likesB f from rfl] at z11'
 unfold b_law_drawn
 have s1:exS T (callF T dfs (n+2)) (.asg (.one 2) (.comp 1 [0,1] (.one 0) e_drawn_1 (.rng (.con (.int 8))) (.con (.bl true)))) [.v (.lst (ns.map D.int)),.v (.int at_),.no,.no,.no,.no,.no,.no,.no,.no,.no,.no,.no]=.ok (.nx [.v (.lst (ns.map D.int)),.v (.int at_),.v (.lst [.int (f 0),.int (f 1),.int (f 2),.int (f 3),.int (f 4),.int (f 5),.int (f 6),.int (f 7)]),.no,.no,.no,.no,.no,.no,.no,.no,.no,.no]):=by
  simp[e0,e1',h8]
 rw[show [D.lst (ns.map D.int),D.int at_].map Sl.v++List.replicate (13 - 2) Sl.no=[.v (.lst (ns.map D.int)),.v (.int at_),.no,.no,.no,.no,.no,.no,.no,.no,.no,.no,.no] from rfl,exS_step s1]
 have v1:∀env:Nv,env.at 2=.v (.lst [.int (f 0),.int (f 1),.int (f 2),.int (f 3),.int (f 4),.int (f 5),.int (f 6),.int (f 7)])→evE T (callF T dfs (n+2)) (.bin .Add (.bin .Mod (.ix (.var 2) (.con (.int 1))) (.con (.int 7))) (.bin .Mult (.con (.int 2)) (.bt .int (.acons (.and (.cmp .Eq (.bin .Mod (.bin .FloorDiv (.ix (.var 2) (.con (.int 1))) (.con (.int 7))) (.con (.int 8))) (.con (.int 5))) (.cmp .Eq (.bin .Mod (.ix (.var 2) (.con (.int 1))) (.con (.int 7))) (.con (.int 6)))) .anil)))) env=.ok (.int (manyV (f 1))):=by
  intro env h
  have w:f 1 % 7+(if f 1 / 7 % 8=5∧f 1 % 7=6 then (2:Int) else 0)=(manyV (f 1):Int):=by unfold manyV;split<;>lia
  rw[←w]
  by_cases q1:f 1 / 7 % 8=5
  ·by_cases q2:f 1 % 7=6
   ·simp[h,q1,q2,e13]
    rfl
   ·have q3:(f 1 % 7==6)=false:=by simpa using q2
    simp[h,q1,q2,q3,b2z]
  ·simp[h,q1,b2z]
 have s2:exS T (callF T dfs (n+2)) (.asg (.one 3) (.bin .Add (.bin .Mod (.ix (.var 2) (.con (.int 1))) (.con (.int 7))) (.bin .Mult (.con (.int 2)) (.bt .int (.acons (.and (.cmp .Eq (.bin .Mod (.bin .FloorDiv (.ix (.var 2) (.con (.int 1))) (.con (.int 7))) (.con (.int 8))) (.con (.int 5))) (.cmp .Eq (.bin .Mod (.ix (.var 2) (.con (.int 1))) (.con (.int 7))) (.con (.int 6)))) .anil))))) [.v (.lst (ns.map D.int)),.v (.int at_),.v (.lst [.int (f 0),.int (f 1),.int (f 2),.int (f 3),.int (f 4),.int (f 5),.int (f 6),.int (f 7)]),.no,.no,.no,.no,.no,.no,.no,.no,.no,.no]=.ok (.nx [.v (.lst (ns.map D.int)),.v (.int at_),.v (.lst [.int (f 0),.int (f 1),.int (f 2),.int (f 3),.int (f 4),.int (f 5),.int (f 6),.int (f 7)]),.v (.int (manyV (f 1))),.no,.no,.no,.no,.no,.no,.no,.no,.no]):=by
  rw[exS_asg,v1 _ rfl];rfl
 rw[exS_step s2]
 clear s1 s2 v1
 simp[e2,e3,e4,e5,hl1,hl2,e9,enumR,z10,e6',e7',z11',bookD]
noncomputable def partR (f:Nat→Int) (k:Nat):Part:=⟨nameV (f 0) k,chr1 (voiceV (mixN (f 2) k) (f 0)),minV (mixN (f 2) k / 4),minV (mixN (f 2) (k+20))⟩
noncomputable def playerR (f:Nat→Int) (k:Nat):Player:=⟨nameV (f 4) k,voicesV (mixN (f 3) k),minV (mixN (f 3) k / 6)⟩
noncomputable def sceneR (base:Int) (many:Nat) (cell:Int) (k:Nat):Scene:=⟨nameV base k,minV (mixN cell k),minV (mixN cell (k+20)),whoV cell k many⟩
noncomputable def scenesRE (base:Int) (many:Nat):Nat→List Int→List Scene
 | _,[]=>[]
 | j,c::r=>sceneR base many c j::scenesRE base many (j+1) r
theorem scenesRE_enc (base:Int) (many:Nat):∀(cs:List Int) (j:Nat),(scenesE base many j cs).map ent=(scenesRE base many j cs).map Scene.enc
 | [],_=>rfl
 | c::r,j=>by rw[scenesE,scenesRE,List.map_cons,List.map_cons,scenesRE_enc base many r (j+1)];rfl
theorem scenesRE_len (base:Int) (many:Nat):∀(cs:List Int) (j:Nat),(scenesRE base many j cs).length=cs.length
 | [],_=>rfl
 | c::r,j=>by rw[scenesRE,List.length_cons,List.length_cons,scenesRE_len base many r (j+1)]
theorem who_nodup (cell:Int) (k many:Nat):(whoV cell k many).Nodup:=by
 unfold whoV
 refine (rot_perm _ _).nodup_iff.mpr ?_
 unfold someV
 exact List.Pairwise.filter _ List.nodup_range
theorem whoV_lt {cell:Int} {k many i:Nat} (h:i∈whoV cell k many):i < many:=by
 unfold whoV at h
 rw[rot_mem] at h
 unfold someV at h
 simpa using (List.mem_filter.mp h).1
theorem scenesRE_good (base:Int) (many:Nat):∀(cs:List Int) (j:Nat) (s:Scene),s∈scenesRE base many j cs→GoodScene many s
 | [],_,s,h=>by cases h
 | c::r,j,s,h=>by
  rw[scenesRE] at h
  rcases List.mem_cons.mp h with rfl | h
  ·exact⟨(minV_range _).1,(minV_range _).1,who_nodup _ _ _,λi hi=>whoV_lt hi⟩
  ·exact scenesRE_good base many r (j+1) s h
structure Drawn (P:List Part) (Q:List Player) (S:List Scene):Prop where
 hp:P.length≤8
 hq:Q.length≤6
 hs:S.length≤9
 voice:∀p∈P,(signs p.voice).length=1
 good:∀s∈S,GoodScene P.length s
 dress:∀p∈P,0≤p.off∧0≤p.on
theorem time_between (n:Nat) (P A B C:D) (ss:List Scene) (hl:ss.length≤24) (s t:Nat) (h:s < t) (ht:t≤ss.length):callF T dfs (n+1) 0 [.tup [P,A,.tup (ss.map Scene.enc),B,C],.int s,.int t]=.ok (.int (between ss s t)):=by
 refine callF_rt (k:=true) rfl rfl rfl ?_
 have hs:s < ss.length:=by lia
 have e1:=ss_at (List.getElem?_eq_getElem hs)
 have e2:cut (ss.map Scene.enc) (some ((s:Int)+1)) (some (t:Int))=((ss.drop (s+1)).take (t - (s+1))).map Scene.enc:=by
  have:=cut_nn (xs:=ss.map Scene.enc) (a:=s+1) (b:=t) (by simp;lia) (by simp;lia)
  rw[List.map_take,List.map_drop,←this]
  push_cast
  rfl
 have e3:compL (compF T (callF T dfs n) 1 [] (.one 0) e_time_between_1 (.con (.bl true)) [.v (.tup [P,A,.tup (ss.map Scene.enc),B,C]),.v (.int s),.v (.int t),.v (.tup (ss.map Scene.enc))]) (((ss.drop (s+1)).take (t - (s+1))).map Scene.enc)=.ok ((((ss.drop (s+1)).take (t - (s+1))).map Scene.both).map D.int):=by
  rw[List.map_map]
  have:∀xs:List Scene,compL (compF T (callF T dfs n) 1 [] (.one 0) e_time_between_1 (.con (.bl true)) [.v (.tup [P,A,.tup (ss.map Scene.enc),B,C]),.v (.int s),.v (.int t),.v (.tup (ss.map Scene.enc))]) (xs.map Scene.enc)=.ok (xs.map (D.int∘Scene.both)):=by
   intro xs
   induction xs with
   | nil=>rfl
   | cons x r ih =>
    rw[List.map_cons,compL,ih]
    simp[compF,Tr.compEnv,e_time_between_1,Scene.both]
  exact this _
 have e4:((ss.map Scene.enc).length:Nat)≤big:=by have:=ten_big;simp;lia
 have e5:((((ss.drop (s+1)).take (t - (s+1))).map Scene.enc).length:Nat)≤big:=by have:=ten_big;simp;lia
 have e6:((ss[s]?).map Scene.pause).getD 0=ss[s].pause:=by simp[hs]
 have e7:between ss s t=ss[s].pause+(((ss.drop (s+1)).take (t - (s+1))).map Scene.both).sum:=by unfold between;rw[e6]
 rw[e7]
 clear e7 e4 ht
 generalize (ss.drop (s+1)).take (t - (s+1))=X at *
 simp only[List.length_map] at e5
 simp[b_time_between,e1,e2,e3,e5]
theorem change_time (n:Nat) (A S B C:D) (ps:List Part) (i j:Nat) (hi:i < ps.length) (hj:j < ps.length):callF T dfs (n+1) 1 [.tup [.tup (ps.map Part.enc),A,S,B,C],.int i,.int j]=.ok (.int (needV ps i j)):=by
 refine callF_rt (k:=true) rfl rfl rfl ?_
 simp[b_change_time,ps_at (List.getElem?_eq_getElem hi),ps_at (List.getElem?_eq_getElem hj),need_at hi hj]
theorem short_change (n:Nat) (A B C:D) (ps:List Part) (ss:List Scene) (hl:ss.length≤24) (s i j:Nat) (hs:s < ss.length) (hi:i < ps.length) (hj:j < ps.length) :
 callF T dfs (n+2) 2 [.tup [.tup (ps.map Part.enc),A,.tup (ss.map Scene.enc),B,C],.int s,.int i,.int j]=.ok (optR (shortFrom ps ss s i j)):=by
 have ct:=change_time n A (.tup (ss.map Scene.enc)) B C ps i j hi hj
 have rg:=rng2_succ (s:=s) (m:=ss.length) (by lia) (by lia)
 have loop:=rz_find (f:=bodyF T (callF T dfs (n+1)) (.one 5) b_short_change_from_1) (g:=shortAt ps ss s i j) (ts:=List.range' (s+1) (ss.length - (s+1)))
  (e:=[.v (.tup [.tup (ps.map Part.enc),A,.tup (ss.map Scene.enc),B,C]),.v (.int s),.v (.int i),.v (.int j),.v (.int (needV ps i j)),.no,.no])
  (I:=λe=>∃s5 s6,e=[.v (.tup [.tup (ps.map Part.enc),A,.tup (ss.map Scene.enc),B,C]),.v (.int s),.v (.int i),.v (.int j),.v (.int (needV ps i j)),s5,s6]) ⟨_,_,rfl⟩ (by
   rintro t ht e ⟨s5,s6,rfl⟩
   have ht':s < t∧t < ss.length:=by have:=List.mem_range'_1.mp ht;lia
   have e1:=ss_at (List.getElem?_eq_getElem ht'.2)
   have e2:=time_between n (.tup (ps.map Part.enc)) A B C ss hl s t ht'.1 (by lia)
   have e3:=who_at ht'.2
   unfold shortAt
   by_cases c1:j∈whoAt ss t
   ·by_cases c2:between ss s t < needV ps i j
    ·rw[if_pos ⟨c1,c2⟩]
     rw[e3] at c1
     simp[bodyF,b_short_change_from_1,natI,e1,e2,c1,c2,freshE,Rz.enc]
    ·rw[if_neg (by simp[c2])]
     rw[e3] at c1
     refine⟨?e1,?h1,?i1⟩
     case h1 =>
      simp[bodyF,b_short_change_from_1,natI,e1,e2,c1,c2,freshE]
      exact rfl
     case i1=>exact⟨_,_,rfl⟩
   ·rw[if_neg (by simp[c1])]
    rw[e3] at c1
    refine⟨?e2,?h2,?i2⟩
    case h2 =>
     simp[bodyF,b_short_change_from_1,natI,e1,e2,c1,freshE]
     exact rfl
    case i2=>exact⟨_,_,rfl⟩)
 refine callF_rt (k:=false) rfl rfl rfl ?_
 unfold shortFrom
 cases hg:(List.range' (s+1) (ss.length - (s+1))).findSome? (shortAt ps ss s i j) with
 | some r =>
  rw[hg] at loop
  simp[b_short_change_from,ct,rg,loop,optR]
 | none =>
  rw[hg] at loop
  obtain⟨e',h1,s5,s6,rfl⟩:=loop
  simp[b_short_change_from,ct,rg,h1,optR,freshE]
theorem reason_from (n:Nat) (A B C:D) (ps:List Part) (ss:List Scene) (hl:ss.length≤24) (s i j:Nat) (hs:s < ss.length) (hi:i < ps.length) (hj:j < ps.length) :
 callF T dfs (n+3) 3 [.tup [.tup (ps.map Part.enc),A,.tup (ss.map Scene.enc),B,C],.int s,.int i,.int j]=.ok (optR (reasonFrom ps ss i j s)):=by
 have e1:=ss_at (List.getElem?_eq_getElem hs)
 have e2:=short_change n A B C ps ss hl s i j hs hi hj
 have e3:=short_change n A B C ps ss hl s j i hs hj hi
 have e4:=who_at hs
 refine callF_rt (k:=false) rfl rfl rfl ?_
 unfold reasonFrom
 rw[e4]
 by_cases c1:i∈ss[s].who<;>by_cases c2:j∈ss[s].who
 ·simp[b_reason_from,e1,c1,c2,optR,Rz.enc,freshE]
 ·simp[b_reason_from,e1,c1,c2,e2]
 ·simp[b_reason_from,e1,c1,c2,e3]
 ·simp[b_reason_from,e1,c1,c2,optR,freshE]
theorem reason_of (n:Nat) (A B C:D) (ps:List Part) (ss:List Scene) (hl:ss.length≤24) (i j:Nat) (hi:i < ps.length) (hj:j < ps.length) :
 callF T dfs (n+4) 4 [.tup [.tup (ps.map Part.enc),A,.tup (ss.map Scene.enc),B,C],.int i,.int j]=.ok (optR (reasonOf ps ss i j)):=by
 have rg:=rng_nat (n:=ss.length) (by lia)
 have loop:=rz_find (f:=bodyF T (callF T dfs (n+3)) (.one 3) b_reason_of_1) (g:=reasonFrom ps ss i j) (ts:=List.range ss.length)
  (e:=[.v (.tup [.tup (ps.map Part.enc),A,.tup (ss.map Scene.enc),B,C]),.v (.int i),.v (.int j),.no,.no])
  (I:=λe=>∃s5 s6,e=[.v (.tup [.tup (ps.map Part.enc),A,.tup (ss.map Scene.enc),B,C]),.v (.int i),.v (.int j),s5,s6]) ⟨_,_,rfl⟩ (by
   rintro s ht e ⟨s5,s6,rfl⟩
   have e1:=reason_from n A B C ps ss hl s i j (by simpa using ht) hi hj
   cases hg:reasonFrom ps ss i j s with
   | some r =>
    rw[hg] at e1
    simp[bodyF,b_reason_of_1,natI,e1,freshE]
    rfl
   | none =>
    rw[hg] at e1
    refine⟨?e1,?h1,?i1⟩
    case h1 =>
     simp[bodyF,b_reason_of_1,natI,e1]
     exact rfl
    case i1=>exact⟨_,_,rfl⟩)
 refine callF_rt (k:=false) rfl rfl rfl ?_
 unfold reasonOf
 cases hg:(List.range ss.length).findSome? (reasonFrom ps ss i j) with
 | some r =>
  rw[hg] at loop
  simp[b_reason_of,rg,loop,optR]
 | none =>
  rw[hg] at loop
  obtain⟨e',h1,s5,s6,rfl⟩:=loop
  simp[b_reason_of,rg,h1,optR,freshE]
theorem clashes_of (n:Nat) (A B C:D) (ps:List Part) (ss:List Scene) (hl:ss.length≤24) (hp:ps.length≤8) :
 callF T dfs (n+5) 5 [.tup [.tup (ps.map Part.enc),A,.tup (ss.map Scene.enc),B,C]]=.ok (.lst (((pairsOf ps.length).filter λp=>(reasonOf ps ss p.1 p.2).isSome).map pairD)):=by
 have rg:=rng_nat (n:=ps.length) (by lia)
 obtain⟨e',h1,s3,rfl⟩:=forL_inv (f:=bodyF T (callF T dfs (n+4)) (.one 3) b_clashes_of_3)
  (λi e=>∃s3,e=[.v (.tup [.tup (ps.map Part.enc),A,.tup (ss.map Scene.enc),B,C]),.o (.lst (((pairsTo ps.length i).filter λp=>(reasonOf ps ss p.1 p.2).isSome).map pairD)),.v (.int ps.length),s3])
  ((List.range ps.length).map natI) [.v (.tup [.tup (ps.map Part.enc),A,.tup (ss.map Scene.enc),B,C]),.o (.lst []),.v (.int ps.length),.no] 0 ⟨_,rfl⟩ (by
   rintro i0 d e hd ⟨s3,rfl⟩
   rw[Nat.zero_add]
   rw[List.getElem?_map] at hd
   cases hx:(List.range ps.length)[i0]? with
   | none=>rw[hx] at hd;cases hd
   | some i =>
   rw[hx] at hd
   cases hd
   have hi':=List.getElem?_eq_some_iff.mp hx
   simp at hi'
   obtain⟨hi,rfl⟩:=hi'
   have rg2:=rng2_succ (s:=i0) (m:=ps.length) (by lia) (by lia)
   have hc:compL (compF T (callF T dfs (n+4)) 1 [3,0] (.one 0) e_clashes_of_2 c_clashes_of_1 [.v (.tup [.tup (ps.map Part.enc),A,.tup (ss.map Scene.enc),B,C]),.o (.lst (((pairsTo ps.length i0).filter λp=>(reasonOf ps ss p.1 p.2).isSome).map pairD)),.v (.int ps.length),.v (.int i0)]) ((List.range' (i0+1) (ps.length - (i0+1))).map natI) =
    .ok (((pairsFrom ps.length i0).filter λp=>(reasonOf ps ss p.1 p.2).isSome).map pairD):=by
    rw[compL_enc natI (λj=>if (reasonOf ps ss i0 j).isSome=true then some (pairD (i0,j)) else none) (by
     intro j hj
     have hj':=List.mem_range'_1.mp hj
     have e1:=reason_of n A B C ps ss hl i0 j hi (by lia)
     cases hr:reasonOf ps ss i0 j with
     | none=>rw[hr] at e1;simp[compF,Tr.compEnv,natI,c_clashes_of_1,e_clashes_of_2,e1]
     | some r=>rw[hr] at e1;simp[compF,Tr.compEnv,natI,c_clashes_of_1,e_clashes_of_2,e1,pairD])]
    refine congrArg Res.ok ?_
    unfold pairsFrom
    generalize List.range' (i0+1) (ps.length - (i0+1))=l
    induction l with
    | nil=>rfl
    | cons j r ih =>
     rw[List.filterMap_cons,List.map_cons,List.filter_cons]
     dsimp only
     rw[ih]
     cases (reasonOf ps ss i0 j).isSome<;>rfl
   have b1:(((pairsTo ps.length i0).filter λp=>(reasonOf ps ss p.1 p.2).isSome).map pairD).length+(((pairsFrom ps.length i0).filter λp=>(reasonOf ps ss p.1 p.2).isSome).map pairD).length≤big:=by
    have h1:=pairsTo_length ps.length i0
    have h2:(pairsFrom ps.length i0).length≤8:=by rw[pairsFrom,List.length_map,List.length_range'];lia
    have h3:=List.length_filter_le (λp:Nat×Nat=>(reasonOf ps ss p.1 p.2).isSome) (pairsTo ps.length i0)
    have h4:=List.length_filter_le (λp:Nat×Nat=>(reasonOf ps ss p.1 p.2).isSome) (pairsFrom ps.length i0)
    have h5:i0*ps.length≤8*8:=Nat.mul_le_mul (by lia) hp
    have:=ten_big
    rw[List.length_map,List.length_map]
    lia
   have b2:((List.range' (i0+1) (ps.length - (i0+1))).map natI).length≤big:=by have:=ten_big;simp;lia
   refine⟨?e1,.inl ?h1,?i1⟩
   case h1 =>
    rw[bodyF]
    simp only[put_one,natI,Res.ok_bind,b_clashes_of_3,exS_cons,exS_ext,evE_comp,evI_rng2,evE_bin,evE_var,evE_con,List.set,at_succ,at_zero,val_v,bin_add,rg2,hc,fresh_comp,extO_eq,own_o,decide_eq_true b1,decide_eq_true b2,when_true,Bool.and_self,thenS_nx,exS_nil]
    exact rfl
   case i1=>exact⟨.v (natI i0),by rw[pairsTo,List.filter_append,List.map_append];rfl⟩)
 refine callF_rt (k:=true) rfl rfl rfl ?_
 have hlen:((List.range ps.length).map natI).length=ps.length:=by simp
 rw[hlen,Nat.zero_add] at h1
 simp[b_clashes_of,rg,h1,pairsOf]
theorem fault_of_part (n:Nat) (P:List Part) (Q:List Player) (X Y Z:D) (hv:∀p∈P,(signs p.voice).length=1) (cs:List (Option Nat)) (hc:∀j,some j∈cs→j < Q.length) (k:Nat) (hk:k < P.length) (hk2:k < cs.length) :
 callF T dfs (n+1) 6 [.tup [.tup (P.map Part.enc),.tup (Q.map Player.enc),X,Y,Z],.int k,optN (cs.getD k none)]=.ok (optF (faultP P Q cs k)):=by
 refine callF_rt (k:=false) rfl rfl rfl ?_
 unfold faultP
 cases h:cs.getD k none with
 | none=>simp[b_fault_of_part,optF,Flt.enc]
 | some j =>
  have hj:j < Q.length:=hc j (by
   have:=getD_at hk2
   rw[h] at this
   exact List.mem_of_getElem? this)
  have e1:=ps_at (List.getElem?_eq_getElem hk)
  have e2:=qs_at (List.getElem?_eq_getElem hj)
  have e3:=notin_voices (p:=P[k]) (q:=Q[j]) (hv _ (List.getElem_mem hk))
  rw[←mayB_at hk hj] at e3
  dsimp only
  generalize mayB P Q k j=c at e3
  cases c with
  | true=>simp[b_fault_of_part,e1,e2,e3,optF]
  | false=>simp[b_fault_of_part,e1,e2,e3,optF,Flt.enc]
theorem have_one_player (n:Nat) (cs:List (Option Nat)) (i j:Nat) (hi:i < cs.length) (hj:j < cs.length):callF T dfs (n+1) 7 [.lst (cs.map optN),.int i,.int j]=.ok (.bl (oneB cs i j)):=by
 refine callF_rt (k:=false) rfl rfl rfl ?_
 have e1:=castD_at hi
 have e2:=castD_at hj
 have e3:=cast_eqo (cs.getD i none) (cs.getD j none)
 unfold oneB
 generalize cs.getD i none=a at *
 generalize cs.getD j none=b at *
 cases a with
 | none=>simp[b_have_one_player,e1]
 | some x=>simp only[optN_some] at e1 e3;simp[b_have_one_player,e1,e2,e3]
theorem faults_of (n:Nat) (P:List Part) (Q:List Player) (S:List Scene) (Y Z:D) (hp:P.length≤8) (hs:S.length≤24) (hv:∀p∈P,(signs p.voice).length=1) (cs:List (Option Nat)) (hl:cs.length=P.length) (hc:∀j,some j∈cs→j < Q.length) (ps:List (Nat×Nat)) (hps:∀p∈ps,p.1 < P.length∧p.2 < P.length) (hpl:ps.length≤100)
 (cl:callF T dfs (n+5) 5 [.tup [.tup (P.map Part.enc),.tup (Q.map Player.enc),.tup (S.map Scene.enc),Y,Z]]=.ok (.lst (ps.map pairD))) :
 callF T dfs (n+6) 8 [.tup [.tup (P.map Part.enc),.tup (Q.map Player.enc),.tup (S.map Scene.enc),Y,Z],.lst (cs.map optN)]=.ok (.lst ((faultsV P Q ps cs).map Flt.enc)):=by
 have hb:=ten_big
 refine callF_rt (k:=true) rfl rfl rfl ?_
 have c1:∀x,compL (compF T (callF T dfs (n+5)) 2 [0] (.many [0,1]) e_faults_of_1 (.con (.bl true)) [.v (.tup [.tup (P.map Part.enc),.tup (Q.map Player.enc),.tup (S.map Scene.enc),Y,Z]),.v (.lst (cs.map optN)),x]) (enumD 0 (cs.map optN))=.ok ((List.range cs.length).map λk=>optF (faultP P Q cs k)):=by
  intro x
  have e:=enumD_range optN none cs 0
  rw[show ((0:Nat):Int)=0 from rfl] at e
  rw[e,compL_enc (λk=>D.tup [.int ((0+k:Nat):Int),optN (cs.getD k none)]) (λk=>some (optF (faultP P Q cs k))) (by
   intro k hk
   have hk:k < cs.length:=by simpa using hk
   have e1:=fault_of_part (n+4) P Q (.tup (S.map Scene.enc)) Y Z hv cs hc k (by lia) hk
   simp only[Nat.zero_add]
   generalize optN (cs.getD k none)=z at e1 ⊢
   simp[compF,Tr.compEnv,e_faults_of_1,e1]),List.filterMap_eq_map']
 have c2:∀x y z (l:List (Option Flt)),compL (compF T (callF T dfs (n+5)) 1 [] (.one 0) e_faults_of_3 c_faults_of_2 [x,y,z]) (l.map optF)=.ok ((l.filterMap id).map Flt.enc):=by
  intro x y z l
  rw[compL_enc optF (λo=>o.map Flt.enc) (by
   intro o _
   cases o with
   | none=>simp[compF,Tr.compEnv,e_faults_of_3,c_faults_of_2,optF]
   | some f=>simp[compF,Tr.compEnv,e_faults_of_3,c_faults_of_2];rfl)]
  refine congrArg Res.ok ?_
  induction l with
  | nil=>rfl
  | cons o r ih=>cases o<;>simp[ih]
 have c3:∀x z,compL (compF T (callF T dfs (n+5)) 2 [1] (.many [0,1]) e_faults_of_5 c_faults_of_4 [x,.v (.lst (cs.map optN)),z]) (ps.map pairD)=.ok (((ps.filter λp=>oneB cs p.1 p.2).map λp=>Flt.cla p.1 p.2).map Flt.enc):=by
  intro x z
  rw[compL_enc pairD (λp=>if oneB cs p.1 p.2=true then some (Flt.enc (.cla p.1 p.2)) else none) (by
   intro p hp'
   have h:=hps p hp'
   have e1:=have_one_player (n+4) cs p.1 p.2 (by lia) (by lia)
   generalize oneB cs p.1 p.2=c at e1
   cases c with
   | true=>simp[compF,Tr.compEnv,pairD,e_faults_of_5,c_faults_of_4,e1,Flt.enc]
   | false=>simp[compF,Tr.compEnv,pairD,e_faults_of_5,c_faults_of_4,e1])]
  refine congrArg Res.ok ?_
  clear cl hpl hps
  induction ps with
  | nil=>rfl
  | cons p r ih =>
   rw[List.filterMap_cons,List.filter_cons]
   cases oneB cs p.1 p.2<;>simp[ih]
 have c4:((List.range cs.length).map λk=>optF (faultP P Q cs k))=((List.range cs.length).map (faultP P Q cs)).map optF:=by rw[List.map_map];rfl
 rw[c4] at c1
 have c5:=λx y z=>c2 x y z ((List.range cs.length).map (faultP P Q cs))
 have l1:cs.length≤big:=by lia
 have l2:(((List.range cs.length).map (faultP P Q cs)).map optF).length≤big:=by simp;lia
 have l3:ps.length≤big:=by lia
 have l5:=List.length_filter_le (λp:Nat×Nat=>oneB cs p.1 p.2) ps
 have l6:(((List.range cs.length).map (faultP P Q cs)).filterMap id).length≤cs.length:=by
  have:=List.length_filterMap_le id ((List.range cs.length).map (faultP P Q cs))
  simpa using this
 have f1:faultsV P Q ps cs=((List.range cs.length).map (faultP P Q cs)).filterMap id++(ps.filter λp=>oneB cs p.1 p.2).map λp=>Flt.cla p.1 p.2:=by
  unfold faultsV
  rw[List.filterMap_map];rfl
 rw[f1]
 generalize ((List.range cs.length).map (faultP P Q cs)).filterMap id=A at *
 generalize hB:((List.range cs.length).map (faultP P Q cs)).map optF=B at *
 have l7:A.length+((ps.filter λp=>oneB cs p.1 p.2)).length≤big:=by lia
 generalize hG:(ps.filter λp=>oneB cs p.1 p.2).map (λp=>Flt.cla p.1 p.2)=G at *
 have l8:A.length+G.length≤big:=by rw[←hG,List.length_map];exact l7
 simp[b_faults_of,enumR,c1,l1,c5,l2,cl,c3,l3,l8]
noncomputable def encC (c:List (Nat×Nat)):List (Sum Int Str×D):=c.map λx=>(.inl (x.1:Int),.int (x.2:Int))
noncomputable def encA (a:List Nat):List (Sum Int Str×D):=a.map λ(p:Nat)=>(.inl (p:Int),.bl true)
theorem val_encC (c:List (Nat×Nat)) (p:Nat):valK (encC c) (.inl (p:Int))=(getA c p).map λ(g:Nat)=>D.int (g:Int):=by
 unfold valK encC getA
 rw[List.find?_map,Option.map_map,Option.map_map]
 rw[show ((λkv:Sum Int Str×D=>decide (kv.1=Sum.inl (p:Int)))∘λx:Nat×Nat=>((Sum.inl (x.1:Int):Sum Int Str),D.int (x.2:Int)))=λx:Nat×Nat=>x.1==p from funext λx=>by
  show decide ((Sum.inl (x.1:Int):Sum Int Str)=Sum.inl (p:Int))=(x.1==p)
  by_cases h:x.1=p
  ·rw[h];simp
  ·rw[decide_eq_false (λz=>h (by injection z with z;lia))];simp[h]]
 rfl
theorem val_encA (a:List Nat) (p:Nat):valK (encA a) (.inl (p:Int))=if p∈a then some (.bl true) else none:=by
 unfold valK encA
 induction a with
 | nil=>rfl
 | cons x r ih =>
  rw[List.map_cons,List.find?_cons]
  by_cases h:x=p
  ·subst h
   rw[show decide ((Sum.inl (x:Int):Sum Int Str)=Sum.inl (x:Int))=true by simp,if_pos List.mem_cons_self];rfl
  ·rw[show decide ((Sum.inl (x:Int):Sum Int Str)=Sum.inl (p:Int))=false from decide_eq_false (λz=>h (by injection z with z;lia))]
   rw[ih]
   by_cases q:p∈r
   ·rw[if_pos q,if_pos (List.mem_cons_of_mem _ q)]
   ·rw[if_neg q,if_neg (λz=>by rcases List.mem_cons.mp z with z | z;exact h z.symm;exact q z)]
theorem any_encA (a:List Nat) (p:Nat):((encA a).any λkv=>decide (kv.1=(.inl (p:Int))))=decide (p∈a):=by
 unfold encA
 rw[List.any_map]
 induction a with
 | nil=>rfl
 | cons x r ih =>
  rw[List.any_cons,ih]
  by_cases h:x=p
  ·subst h;simp
  ·have:((λkv:Sum Int Str×D=>decide (kv.1=Sum.inl (p:Int)))∘λ(p:Nat)=>((Sum.inl (p:Int):Sum Int Str),D.bl true)) x=false:=decide_eq_false (λz=>h (by injection z with z;lia))
   rw[this,Bool.false_or]
   simp only[List.mem_cons]
   rw[decide_eq_decide]
   exact⟨.inr,λz=>z.resolve_left λe=>h e.symm⟩
theorem put_encA {a:List Nat} {p:Nat} (h:p∉a):putKD (encA a) (.inl (p:Int)) (.bl true)=encA (a++[p]):=by
 unfold putKD
 rw[any_encA,if_neg (by simpa using h)]
 unfold encA
 rw[List.map_append];rfl
theorem put_encC (c:List (Nat×Nat)) (p g:Nat):putKD (encC c) (.inl (p:Int)) (.int (g:Int))=encC (putA c p g):=by
 unfold putKD putA
 have e1:((encC c).any λkv=>decide (kv.1=(.inl (p:Int))))=c.any λx=>x.1==p:=by
  unfold encC
  rw[List.any_map]
  congr 1
  funext x
  show decide ((Sum.inl (x.1:Int):Sum Int Str)=Sum.inl (p:Int))=(x.1==p)
  by_cases h:x.1=p
  ·rw[h];simp
  ·rw[decide_eq_false (λz=>h (by injection z with z;lia))];simp[h]
 rw[e1]
 by_cases h:(c.any λx=>x.1==p)=true
 ·rw[if_pos h,if_pos h]
  unfold encC
  rw[List.map_map,List.map_map]
  apply List.map_congr_left
  intro x _
  show (if (Sum.inl (x.1:Int):Sum Int Str)=Sum.inl (p:Int) then (Sum.inl (x.1:Int),D.int (g:Int)) else (Sum.inl (x.1:Int),D.int (x.2:Int)))=_
  by_cases q:x.1=p
  ·rw[if_pos (by rw[q])]
   show _=((Sum.inl (((if x.1=p then (x.1,g) else x):Nat×Nat).1:Int):Sum Int Str),D.int (((if x.1=p then (x.1,g) else x):Nat×Nat).2:Int))
   rw[if_pos q]
  ·rw[if_neg (λz=>q (by injection z with z;lia))]
   show _=((Sum.inl (((if x.1=p then (x.1,g) else x):Nat×Nat).1:Int):Sum Int Str),D.int (((if x.1=p then (x.1,g) else x):Nat×Nat).2:Int))
   rw[if_neg q]
 ·rw[if_neg h,if_neg h]
  unfold encC
  rw[List.map_append];rfl
noncomputable abbrev fcE (C:D) (t1 t2:Nat) (c:List (Nat×Nat)) (a:List Nat) (g:Nat) (x:Sl):Nv:=[.v C,.r t1 (.dct (encC c)),.r t2 (.dct (encA a)),.v (.int (g:Int)),x]
theorem notin_A (a:List Nat) (p:Nat):D.cmp .NotIn (.int (p:Int)) (.dct (encA a))=.ok (.bl (decide (p∉a))):=by
 show (do let k ←D.inn (.int (p:Int)) (.dct (encA a));Res.ok (D.bl (!k)))=_
 rw[show D.inn (.int (p:Int)) (.dct (encA a))=.ok (valK (encA a) (.inl (p:Int))).isSome from rfl,val_encA,Res.ok_bind]
 by_cases h:p∈a
 ·rw[if_pos h];simp[h]
 ·rw[if_neg h];simp[h]
theorem notin_C (c:List (Nat×Nat)) (p:Nat):D.cmp .NotIn (.int (p:Int)) (.dct (encC c))=.ok (.bl (getA c p).isNone):=by
 show (do let k ←D.inn (.int (p:Int)) (.dct (encC c));Res.ok (D.bl (!k)))=_
 rw[show D.inn (.int (p:Int)) (.dct (encC c))=.ok (valK (encC c) (.inl (p:Int))).isSome from rfl,val_encC,Res.ok_bind]
 cases getA c p<;>rfl
structure Sm (U G:List Nat) (c:List (Nat×Nat)) (a:List Nat):Prop where
 cn:(c.map (·.1)).Nodup
 cu:∀p∈c.map (·.1),p∈U
 an:a.Nodup
 au:∀p∈a,p∈U
 cv:∀x∈c,x.2∈G
theorem Sm.len {U G:List Nat} {c:List (Nat×Nat)} {a:List Nat} (h:Sm U G c a) (hU:U.length≤100):(encC c).length < big∧(encA a).length < big:=by
 have hb:=ten_big
 have h1:=nodup_sub_len h.cn h.cu
 have h2:=nodup_sub_len h.an h.au
 unfold encC encA
 rw[List.length_map,List.length_map]
 rw[List.length_map] at h1
 exact⟨by lia,by lia⟩
theorem Sm.ask {U G:List Nat} {c:List (Nat×Nat)} {a:List Nat} (h:Sm U G c a) {p:Nat} (hp:p∈U) (hn:p∉a):Sm U G c (a++[p]) :=
 ⟨h.cn,h.cu,List.nodup_append.mpr ⟨h.an,by simp,λx hx y hy e=>hn (by rw[List.mem_singleton.mp hy] at e;exact e▸hx)⟩,λx hx=>by
  rcases List.mem_append.mp hx with z | z
  ·exact h.au x z
  ·rw[List.mem_singleton.mp z];exact hp,h.cv⟩
theorem mem_putA {c:List (Nat×Nat)} {p g:Nat} {x:Nat×Nat} (h:x∈putA c p g):x∈c∨x.2=g:=by
 unfold putA at h
 split at h
 ·obtain⟨y,hy,e⟩:=List.mem_map.mp h
  split at e
  ·exact .inr (by rw[←e])
  ·exact .inl (e▸hy)
 ·rcases List.mem_append.mp h with z | z
  ·exact .inl z
  ·exact .inr (by rw[List.mem_singleton.mp z])
theorem Sm.put {U G:List Nat} {c:List (Nat×Nat)} {a:List Nat} (h:Sm U G c a) {p:Nat} (hp:p∈U) {g:Nat} (hg:g∈G):Sm U G (putA c p g) a :=
 ⟨nd_put h.cn p g,λx hx=>by
  rw[keys_put] at hx
  split at hx
  ·exact h.cu x hx
  ·rcases List.mem_append.mp hx with z | z
   ·exact h.cu x z
   ·rw[List.mem_singleton.mp z];exact hp,h.an,h.au,λx hx=>(mem_putA hx).elim (h.cv x) λe=>e▸hg⟩
theorem fcL_run {cf:Nat→List D→Res D} {C:D} {t1 t2 g:Nat} {U G:List Nat} (hg:g∈G) (hU:U.length≤100) {rec:Nat→List (Nat×Nat)→List Nat→Option (Bool×List (Nat×Nat)×List Nat)}
 (hrec:∀g c a b c' a',g∈G→Sm U G c a→rec g c a=some (b,c',a')→Sm U G c' a'∧refC cf 33 C (encC c) (encA a) (.int (g:Int))=.ok (.bl b,encC c',encA a')) :
 ∀(xs:List Nat) (c:List (Nat×Nat)) (a:List Nat) (b:Bool) (c':List (Nat×Nat)) (a':List Nat) (x:Sl),(∀p∈xs,p∈U)→Sm U G c a→fcL rec g xs c a=some (b,c',a') →
  Sm U G c' a'∧if b=true then forL (bodyF T cf (.one 4) b_finds_cover_1) (xs.map natI) (fcE C t1 t2 c a g x)=.ok (.rr (.bl true) t1 (encC c') t2 (encA a')) else ∃y,forL (bodyF T cf (.one 4) b_finds_cover_1) (xs.map natI) (fcE C t1 t2 c a g x)=.ok (.nx (fcE C t1 t2 c' a' g y))
 | [],c,a,b,c',a',x,_,h,e=>by
  cases e
  exact⟨h,by rw[if_neg Bool.false_ne_true];exact⟨x,rfl⟩⟩
 | p::r,c,a,b,c',a',x,hx,h,e=>by
  have hp:=hx p List.mem_cons_self
  have hr:∀q∈r,q∈U:=λq hq=>hx q (List.mem_cons_of_mem _ hq)
  rw[fcL] at e
  by_cases ha:p∈a
  ·rw[if_pos ha] at e
   obtain⟨g1,g2⟩:=fcL_run (t1:=t1) (t2:=t2) hg hU hrec r c a b c' a' (.v (.int (p:Int))) hr h e
   refine⟨g1,?_⟩
   have body:bodyF T cf (.one 4) b_finds_cover_1 (natI p) (fcE C t1 t2 c a g x)=.ok (.nx (fcE C t1 t2 c a g (.v (.int (p:Int))))):=by
    have q:=notin_A a p
    rw[decide_eq_false (by simpa using ha)] at q
    simp[bodyF,b_finds_cover_1,fcE,natI,q]
   rw[List.map_cons,forL_nx body]
   exact g2
  ·rw[if_neg ha] at e
   have q:=notin_A a p
   rw[decide_eq_true ha] at q
   have qa:=put_encA ha
   have hA:=h.ask hp ha
   cases hc:getA c p with
   | none =>
    rw[hc] at e
    cases e
    refine⟨hA.put hp hg,?_⟩
    rw[if_pos rfl]
    have qc:=notin_C c p
    rw[hc] at qc
    have pc:=put_encC c p g
    have body:bodyF T cf (.one 4) b_finds_cover_1 (natI p) (fcE C t1 t2 c a g x)=.ok (.rr (.bl true) t1 (encC (putA c p g)) t2 (encA (a++[p]))):=by
     have st:exS T cf (.ifR false (.cmp .NotIn (.var 4) (.rd 1)) 33 (.var 0) 1 2 (.ix (.rd 1) (.var 4)) (.cons (.dputR 1 (.var 4) (.var 3)) (.cons (.retR (.con (.bl true)) 1 2) .nil)) .nil) (fcE C t1 t2 c (a++[p]) g (.v (.int (p:Int))))=.ok (.rr (.bl true) t1 (encC (putA c p g)) t2 (encA (a++[p]))):=by
      rw[ifR_t rfl (by decide) (z:=.bl true) (by simp[fcE,qc]) rfl]
      have l1:=(h.len hU).1
      simp[fcE,pc,l1,Res.of,keyOf]
     have l2:=(h.len hU).2
     generalize hz:(S.ifR false (.cmp .NotIn (.var 4) (.rd 1)) 33 (.var 0) 1 2 (.ix (.rd 1) (.var 4)) (.cons (.dputR 1 (.var 4) (.var 3)) (.cons (.retR (.con (.bl true)) 1 2) .nil)) .nil)=W at st
     simp only[fcE] at st
     simp[bodyF,b_finds_cover_1,fcE,natI,q,qa,l2,hz,st,Res.of,keyOf]
    rw[List.map_cons,forL_rr body]
   | some g0 =>
    rw[hc] at e
    dsimp only at e
    cases hz:rec g0 c (a++[p]) with
    | none=>rw[hz] at e;cases e
    | some z =>
     obtain⟨b1,c1,a1⟩:=z
     obtain⟨s1,rf⟩:=hrec g0 c (a++[p]) b1 c1 a1 (h.cv _ (getA_mem hc)) hA hz
     rw[hz] at e
     have qc:=notin_C c p
     rw[hc] at qc
     have ix:D.ix (.dct (encC c)) (.int (p:Int))=.ok (.int (g0:Int)):=by rw[ix_dct,key_int,Res.ok_bind,val_encC,hc];rfl
     have l2:=(h.len hU).2
     have st:=ifR_c (T:=T) (cf:=cf) (e:=fcE C t1 t2 c (a++[p]) g (.v (.int (p:Int)))) (neg:=false) (c:=.cmp .NotIn (.var 4) (.rd 1)) (x:=.var 0) (i:=1) (j:=2) (y:=.ix (.rd 1) (.var 4)) (a:=.cons (.dputR 1 (.var 4) (.var 3)) (.cons (.retR (.con (.bl true)) 1 2) .nil)) (b:=.nil) (f:=33) (k:=b1) rfl (by decide) (.inr ⟨(show _=Res.ok (D.bl false) by simp[fcE,qc]),rfl⟩) (d1:=C) (by simp[fcE]) (g:=encC c) (by simp[fcE]) (h:=encA (a++[p])) (by simp[fcE]) (d2:=.int (g0:Int)) (by simp[fcE,ix]) rf rfl
     generalize hw:(S.ifR false (.cmp .NotIn (.var 4) (.rd 1)) 33 (.var 0) 1 2 (.ix (.rd 1) (.var 4)) (.cons (.dputR 1 (.var 4) (.var 3)) (.cons (.retR (.con (.bl true)) 1 2) .nil)) .nil)=W at st
     cases b1 with
     | true =>
      cases e
      refine⟨s1.put hp hg,?_⟩
      rw[if_pos rfl]
      have pc:=put_encC c1 p g
      have l1:=(s1.len hU).1
      have body:bodyF T cf (.one 4) b_finds_cover_1 (natI p) (fcE C t1 t2 c a g x)=.ok (.rr (.bl true) t1 (encC (putA c1 p g)) t2 (encA a')):=by
       rw[if_pos (by decide)] at st
       simp[fcE,pc,l1,Res.of,keyOf] at st
       simp[bodyF,b_finds_cover_1,fcE,natI,q,qa,l2,hw,st,Res.of,keyOf]
      rw[List.map_cons,forL_rr body]
     | false =>
      obtain⟨g1,g2⟩:=fcL_run (t1:=t1) (t2:=t2) hg hU hrec r c1 a1 b c' a' (.v (.int (p:Int))) hr s1 e
      refine⟨g1,?_⟩
      have body:bodyF T cf (.one 4) b_finds_cover_1 (natI p) (fcE C t1 t2 c a g x)=.ok (.nx (fcE C t1 t2 c1 a1 g (.v (.int (p:Int))))):=by
       rw[if_neg (by decide)] at st
       simp[fcE] at st
       simp[bodyF,b_finds_cover_1,fcE,natI,q,qa,l2,hw,st,Res.of,keyOf]
      rw[List.map_cons,forL_nx body]
      exact g2
theorem fc_run {C:D} {U G:List Nat} (hU:U.length≤100) {ch:Nat→List Nat} (hch:∀g∈G,D.ix C (.int (g:Int))=.ok (.lst ((ch g).map natI))∧∀p∈ch g,p∈U) (m:Nat) :
 ∀(n g:Nat) (c:List (Nat×Nat)) (a:List Nat) (b:Bool) (c':List (Nat×Nat)) (a':List Nat),g∈G→Sm U G c a→fc ch n g c a=some (b,c',a')→Sm U G c' a'∧∀t1 t2:Nat,callF T dfs (m+n) 33 [C,.tup [.int t1,.dct (encC c)],.tup [.int t2,.dct (encA a)],.int (g:Int)]=.ok (.tup [.bl b,.dct (encC c'),.dct (encA a')])
 | 0,g,c,a,b,c',a',hg,h,e=>by cases e
 | n+1,g,c,a,b,c',a',hg,h,e=>by
  rw[fc] at e
  have hrec:∀g c a b c' a',g∈G→Sm U G c a→fc ch n g c a=some (b,c',a')→Sm U G c' a'∧refC (callF T dfs (m+n)) 33 C (encC c) (encA a) (.int (g:Int))=.ok (.bl b,encC c',encA a'):=λg c a b c' a' hg h e=>by
   obtain⟨h1,h2⟩:=fc_run hU hch m n g c a b c' a' hg h e
   exact⟨h1,refC_of λt1 t2 _=>h2 t1 t2⟩
  obtain⟨ix,hu⟩:=hch g hg
  refine⟨(fcL_run (t1:=0) (t2:=0) hg hU hrec (ch g) c a b c' a' .no hu h e).1,λt1 t2=>?_⟩
  obtain⟨_,run⟩:=fcL_run (C:=C) (t1:=t1) (t2:=t2) hg hU hrec (ch g) c a b c' a' .no hu h e
  refine callF_rf rfl rfl rfl ?_
  show exS T (callF T dfs (m+n)) b_finds_cover (fcE C t1 t2 c a g .no)=_
  cases b with
  | true =>
   rw[if_pos rfl] at run
   simp only[fcE] at run ⊢
   simp[b_finds_cover,ix,run]
  | false =>
   rw[if_neg Bool.false_ne_true] at run
   obtain⟨y,run⟩:=run
   simp only[fcE] at run ⊢
   simp[b_finds_cover,ix,run]
theorem in_lN {i:Nat} {ws:List Nat}:D.cmp .In (.int (i:Int)) (.lst (natD ws))=.ok (.bl (decide (i∈ws))):=by
 show (do let k ←when (D.pls 30 (natD ws)&&D.pl 29 (.int (i:Int))) (.ok (D.mem (.int (i:Int)) (natD ws)));.ok (D.bl k))=_
 rw[when_of (by rw[natD_pls 29 ws];rfl),natD_mem];rfl
theorem notin_lN {i:Nat} {ws:List Nat}:D.cmp .NotIn (.int (i:Int)) (.lst (natD ws))=.ok (.bl (!decide (i∈ws))):=by
 show (do let k ←when (D.pls 30 (natD ws)&&D.pl 29 (.int (i:Int))) (.ok (D.mem (.int (i:Int)) (natD ws)));.ok (D.bl (!k)))=_
 rw[when_of (by rw[natD_pls 29 ws];rfl),natD_mem];rfl
theorem book62 (n:Nat) (ns:List Int) (at_:Nat) (hn:ns.length≤63) (ha:at_≤20):∃(P:List Part) (Q:List Player) (S:List Scene) (L:D) (cv:List (Nat×Nat)),Drawn P Q S∧(∀x∈cv,x.1 < P.length∧x.2 < Q.length)∧cv.length≤48 ∧
 callF T dfs (n+3) 27 [.lst (ns.map D.int),.int at_]=.ok (.tup [.tup (P.map Part.enc),.tup (Q.map Player.enc),.tup (S.map Scene.enc),L,.tup (cv.map prD)]):=by
 have e:=law_drawn n ns at_ hn ha
 generalize hf:fV ns at_=f at e
 generalize hC:(ns.drop (at_+8)).take 9=cs at e
 have hcl:cs.length≤9:=by rw[←hC,List.length_take];lia
 have hm:=many_le (f 1)
 refine⟨(List.range (manyV (f 1))).map (partR f),(List.range (f 1 / 56 % 7).toNat).map (playerR f),scenesRE (f 5) (manyV (f 1)) 0 cs,.tup ((likesB f).map lkD),coversB f,⟨by simpa using hm,by simp;lia,by rw[scenesRE_len];exact hcl,?_,?_,?_⟩,?_,?_,?_⟩
 ·intro p hp
  obtain⟨k,_,rfl⟩:=List.mem_map.mp hp
  rfl
 ·intro s hs
  rw[List.length_map,List.length_range]
  exact scenesRE_good _ _ _ _ s hs
 ·intro p hp
  obtain⟨k,_,rfl⟩:=List.mem_map.mp hp
  exact⟨(minV_range _).1,(minV_range _).1⟩
 ·intro x hx
  rw[List.length_map,List.length_range,List.length_map,List.length_range]
  exact pairs_mem hx
 ·have h:=pairs_len (cell:=f 7) (share:=2) (one:=manyV (f 1)) (other:=(f 1 / 56 % 7).toNat)
  have:=Nat.mul_le_mul hm (show (f 1 / 56 % 7).toNat≤6 by lia)
  exact Nat.le_trans h this
 ·rw[e]
  unfold bookD partsB playersB scenesB
  rw[scenesRE_enc,List.map_map,List.map_map,List.map_map,List.map_map]
  rfl
noncomputable def partS (p:Part):Part:=⟨p.name, "a", 0,0⟩
noncomputable def playerS (q:Player):Player:=⟨q.name, "ba", q.hire⟩
noncomputable def cA (cs:List Nat) (i:Nat):Nat:=cs.getD i 0
noncomputable def castS (cell:Int) (m n:Nat):List Nat:=(List.range n).map λ(k:Nat)=>(mixN cell (k:Int) % (m:Int)).toNat
noncomputable def keepS (cs:List Nat):List Nat→List Nat→List Nat
 | kept,[]=>kept
 | kept,p::r=>if cA cs p∈kept.map (λi=>cA cs i) then keepS cs kept r else keepS cs (kept++[p]) r
noncomputable def sceneS (cs:List Nat) (s:Scene):Scene:=⟨s.name,s.len,s.pause,keepS cs [] s.who⟩
theorem keepS_ok (cs:List Nat):∀(r kept:List Nat),(kept.map (λi=>cA cs i)).Nodup→((keepS cs kept r).map (λi=>cA cs i)).Nodup∧(∀x∈keepS cs kept r,x∈kept∨x∈r)
 | [],kept,h=>⟨h,λx hx=>.inl hx⟩
 | p::r,kept,h=>by
  rw[keepS]
  by_cases c:cA cs p∈kept.map (λi=>cA cs i)
  ·rw[if_pos c]
   obtain⟨h1,h2⟩:=keepS_ok cs r kept h
   exact⟨h1,λx hx=>(h2 x hx).imp id (List.mem_cons_of_mem _)⟩
  ·rw[if_neg c]
   obtain⟨h1,h2⟩:=keepS_ok cs r (kept++[p]) (by
    rw[List.map_append,List.nodup_append]
    refine⟨h,by simp,λx hx y hy e=>c ?_⟩
    rw[List.map_cons,List.map_nil,List.mem_singleton] at hy
    rw[←hy,←e];exact hx)
   refine⟨h1,λx hx=>?_⟩
   rcases h2 x hx with z | z
   ·rcases List.mem_append.mp z with z | z
    ·exact .inl z
    ·exact .inr (by rw[List.mem_singleton.mp z];exact List.mem_cons_self)
   ·exact .inr (List.mem_cons_of_mem _ z)
theorem nodup_of_map {α β:Type} (f:α→β):∀ {l:List α},(l.map f).Nodup→l.Nodup
 | [],_=>List.nodup_nil
 | a::r,h=>by
  rw[List.map_cons,List.nodup_cons] at h
  exact List.nodup_cons.mpr ⟨λz=>h.1 (List.mem_map.mpr ⟨a,z,rfl⟩),nodup_of_map f h.2⟩
theorem sceneS_good {cs:List Nat} {m:Nat} {s:Scene} (h:GoodScene m s):GoodScene m (sceneS cs s):=by
 obtain⟨h1,h2⟩:=keepS_ok cs s.who [] List.nodup_nil
 exact⟨h.len,h.pause,nodup_of_map _ h1,λi hi=>h.lt i ((h2 i hi).resolve_left λz=>by cases z)⟩
theorem cast_at {cs:List Nat} {i:Nat} (h:i < cs.length):D.ix (.lst (natD cs)) (.int (i:Int))=.ok (.int (cA cs i:Int)):=by
 refine ix_l ?_
 unfold natD
 rw[List.getElem?_map,List.getElem?_eq_getElem h,show cA cs i=cs[i] by unfold cA;rw[List.getD_eq_getElem?_getD,List.getElem?_eq_getElem h];rfl];rfl
theorem kept_loop (n:Nat) {cs:List Nat} (h8:cs.length≤8) (a0 a1 a2 a3 a5 a6 a7 a8 a9:Sl):∀(r kept:List Nat) (x:Sl),(∀i∈r,i < cs.length)→(∀i∈kept,i < cs.length)→kept.length+r.length≤100 →
 ∃y,forL (bodyF T (callF T dfs n) (.one 11) b_staged_5) (natD r) [a0,a1,a2,a3,.v (.lst (natD cs)),a5,a6,a7,a8,a9,.o (.lst (natD kept)),x]=.ok (.nx [a0,a1,a2,a3,.v (.lst (natD cs)),a5,a6,a7,a8,a9,.o (.lst (natD (keepS cs kept r))),y])
 | [],kept,x,_,_,_=>⟨x,rfl⟩
 | p::r,kept,x,hr,hk,hl=>by
  have hb:=ten_big
  have hp:=hr p List.mem_cons_self
  have e1:=cast_at hp
  have c1:∀z,compL (compF T (callF T dfs n) 1 [4] (.one 0) e_staged_4 (.con (.bl true)) [a0,a1,a2,a3,.v (.lst (natD cs)),a5,a6,a7,a8,a9,.o (.lst (natD kept)),z]) (natD kept)=.ok (natD (kept.map λi=>cA cs i)):=λz=>by
   unfold natD
   rw[compL_enc (λ(i:Nat)=>D.int (i:Int)) (λi=>some (D.int (cA cs i:Int))) (λi hi=>by
    have:=cast_at (hk i hi)
    unfold natD at this
    simp[compF,Tr.compEnv,e_staged_4,this]),List.filterMap_eq_map',List.map_map];rfl
  have ln:(natD kept).length≤big:=by rw[natD_length];rw[List.length_cons] at hl;lia
  have ll:(natD kept).length < big:=by rw[natD_length];rw[List.length_cons] at hl;lia
  have q:=notin_lN (i:=cA cs p) (ws:=kept.map λi=>cA cs i)
  rw[keepS]
  have ap:natD kept++[D.int (p:Int)]=natD (kept++[p]):=by unfold natD;rw[List.map_append];rfl
  by_cases c:cA cs p∈kept.map (λi=>cA cs i)
  ·rw[if_pos c]
   rw[decide_eq_true c] at q
   obtain⟨y,hy⟩:=kept_loop n h8 a0 a1 a2 a3 a5 a6 a7 a8 a9 r kept (.v (.int (p:Int))) (λi hi=>hr i (List.mem_cons_of_mem _ hi)) hk (by rw[List.length_cons] at hl;lia)
   refine⟨y,?_⟩
   have body:bodyF T (callF T dfs n) (.one 11) b_staged_5 (.int (p:Int)) [a0,a1,a2,a3,.v (.lst (natD cs)),a5,a6,a7,a8,a9,.o (.lst (natD kept)),x]=.ok (.nx [a0,a1,a2,a3,.v (.lst (natD cs)),a5,a6,a7,a8,a9,.o (.lst (natD kept)),.v (.int (p:Int))]):=by
    generalize natD kept=k at *
    simp[bodyF,b_staged_5,e1,c1,ln,q]
   show forL _ (.int (p:Int)::natD r) _=_
   rw[forL_nx body,hy]
  ·rw[if_neg c]
   rw[decide_eq_false c] at q
   obtain⟨y,hy⟩:=kept_loop n h8 a0 a1 a2 a3 a5 a6 a7 a8 a9 r (kept++[p]) (.v (.int (p:Int))) (λi hi=>hr i (List.mem_cons_of_mem _ hi)) (λi hi=>by
    rcases List.mem_append.mp hi with z | z
    ·exact hk i z
    ·rw[List.mem_singleton.mp z];exact hp) (by rw[List.length_cons] at hl;rw[List.length_append,List.length_singleton];lia)
   refine⟨y,?_⟩
   have body:bodyF T (callF T dfs n) (.one 11) b_staged_5 (.int (p:Int)) [a0,a1,a2,a3,.v (.lst (natD cs)),a5,a6,a7,a8,a9,.o (.lst (natD kept)),x]=.ok (.nx [a0,a1,a2,a3,.v (.lst (natD cs)),a5,a6,a7,a8,a9,.o (.lst (natD (kept++[p]))),.v (.int (p:Int))]):=by
    rw[←ap]
    generalize natD kept=k at *
    simp[bodyF,b_staged_5,e1,c1,ln,ll,q]
   show forL _ (.int (p:Int)::natD r) _=_
   rw[forL_nx body,hy]
theorem cut_any {α:Type} (xs:List α) (k:Nat):cut xs none (some (k:Int))=xs.take k:=by
 by_cases h:k≤xs.length
 ·exact cut_to h
 ·unfold cut sIx
  dsimp only
  rw[if_neg (by lia),Int.toNat_natCast,Nat.min_eq_right (by lia),List.drop_zero,Nat.sub_zero,List.take_length,List.take_of_length_le (by lia)]
theorem scenes_loop (n:Nat) {cs:List Nat} (h8:cs.length≤8) (a0 a1 a2 a3:Sl):∀(ss done:List Scene) (x6 x7 x8 x9 x10 x11:Sl),(∀s∈ss,GoodScene cs.length s)→done.length+ss.length≤100 →
 ∃y6 y7 y8 y9 y10 y11,forL (bodyF T (callF T dfs n) (.many [6,7,8,9]) b_staged_6) (ss.map Scene.enc) [a0,a1,a2,a3,.v (.lst (natD cs)),.o (.lst (done.map Scene.enc)),x6,x7,x8,x9,x10,x11]=.ok (.nx [a0,a1,a2,a3,.v (.lst (natD cs)),.o (.lst ((done++ss.map (sceneS cs)).map Scene.enc)),y6,y7,y8,y9,y10,y11])
 | [],done,x6,x7,x8,x9,x10,x11,_,_=>⟨x6,x7,x8,x9,x10,x11,by rw[List.map_nil (f:=sceneS cs),List.append_nil];rfl⟩
 | s::ss,done,x6,x7,x8,x9,x10,x11,hg,hl=>by
  have hb:=ten_big
  have gs:=hg s List.mem_cons_self
  have w8:s.who.length≤8:=Nat.le_trans (nodup_sub_len gs.nd (U:=List.range cs.length) λx hx=>List.mem_range.mpr (gs.lt x hx)) (by rw[List.length_range];exact h8)
  rw[List.length_cons] at hl
  obtain⟨y,hy⟩:=kept_loop n h8 a0 a1 a2 a3 (.o (.lst (done.map Scene.enc))) (.v (.str s.name)) (.v (.int s.len)) (.v (.int s.pause)) (.v (.tup (natD s.who))) s.who [] x11 gs.lt (λi hi=>by cases hi) (by rw[List.length_nil];lia)
  obtain⟨y6,y7,y8,y9,y10,y11,h⟩:=scenes_loop n h8 a0 a1 a2 a3 ss (done++[sceneS cs s]) (.v (.str s.name)) (.v (.int s.len)) (.v (.int s.pause)) (.v (.tup (natD s.who))) (.o (.lst (natD (keepS cs [] s.who)))) y (λt ht=>hg t (List.mem_cons_of_mem _ ht)) (by rw[List.length_append,List.length_singleton];lia)
  refine⟨y6,y7,y8,y9,y10,y11,?_⟩
  have ll:(done.map Scene.enc).length < big:=by rw[List.length_map];lia
  have ap:done.map Scene.enc++[D.tup [.str s.name,.int s.len,.int s.pause,.tup (natD (keepS cs [] s.who))]]=(done++[sceneS cs s]).map Scene.enc:=by rw[List.map_append];rfl
  have body:bodyF T (callF T dfs n) (.many [6,7,8,9]) b_staged_6 s.enc [a0,a1,a2,a3,.v (.lst (natD cs)),.o (.lst (done.map Scene.enc)),x6,x7,x8,x9,x10,x11]=.ok (.nx [a0,a1,a2,a3,.v (.lst (natD cs)),.o (.lst ((done++[sceneS cs s]).map Scene.enc)),.v (.str s.name),.v (.int s.len),.v (.int s.pause),.v (.tup (natD s.who)),.o (.lst (natD (keepS cs [] s.who))),y]):=by
   rw[show natD []=[] from rfl] at hy
   rw[←ap]
   generalize done.map Scene.enc=dd at *
   generalize natD (keepS cs [] s.who)=kk at *
   simp[bodyF,b_staged_6,Scene.enc,hy,ll]
  rw[List.map_cons,forL_nx body,h,List.map_cons]
  rw[List.append_assoc];rfl
theorem castS_lt {cell:Int} {m n:Nat} (hm:0 < m) {j:Nat} (h:j∈castS cell m n):j < m:=by
 obtain⟨k,_,rfl⟩:=List.mem_map.mp h
 have:=Int.emod_lt_of_pos (mixN cell (k:Int)) (show (0:Int) < (m:Int) by lia)
 have:=Int.emod_nonneg (mixN cell (k:Int)) (show (m:Int)≠0 by lia)
 lia
theorem staged (n:Nat) (P:List Part) (Q:List Player) (S:List Scene) (L C:D) (dr:Drawn P Q S) (hq:0 < Q.length) (cell:Int) :
 callF T dfs (n+2) 28 [.tup [.tup (P.map Part.enc),.tup (Q.map Player.enc),.tup (S.map Scene.enc),L,C],.int cell] =
  .ok (.tup [.tup [.tup ((P.map partS).map Part.enc),.tup ((Q.map playerS).map Player.enc),.tup (((S.take 5).map (sceneS (castS cell Q.length P.length))).map Scene.enc),L,C],.lst (natD (castS cell Q.length P.length))]):=by
 have hb:=ten_big
 have hp8:=dr.hp
 have hq6:=dr.hq
 refine callF_rt (k:=false) rfl rfl rfl ?_
 have c1:∀e,compL (compF T (callF T dfs (n+1)) 4 [] (.many [0,1,2,3]) e_staged_1 (.con (.bl true)) e) (P.map Part.enc)=.ok ((P.map partS).map Part.enc):=λe=>by
  rw[compL_enc Part.enc (λp=>some (partS p).enc) (λp _=>by simp[compF,Tr.compEnv,e_staged_1,Part.enc,partS]),List.filterMap_eq_map',List.map_map];rfl
 have c2:∀e,compL (compF T (callF T dfs (n+1)) 3 [] (.many [0,1,2]) e_staged_2 (.con (.bl true)) e) (Q.map Player.enc)=.ok ((Q.map playerS).map Player.enc):=λe=>by
  rw[compL_enc Player.enc (λp=>some (playerS p).enc) (λp _=>by simp[compF,Tr.compEnv,e_staged_2,Player.enc,playerS]),List.filterMap_eq_map',List.map_map];rfl
 have lp:Bt.run .len [.tup ((P.map partS).map Part.enc)]=.ok (.int (P.length:Nat)):=by
  show Res.ok (D.int (((P.map partS).map Part.enc).length:Nat))=_
  rw[List.length_map,List.length_map]
 have lq:Bt.run .len [.tup ((Q.map playerS).map Player.enc)]=.ok (.int (Q.length:Nat)):=by
  show Res.ok (D.int (((Q.map playerS).map Player.enc).length:Nat))=_
  rw[List.length_map,List.length_map]
 have rg:=rng_nat (n:=P.length) (by lia)
 have c3:∀a0 a2 x4 x5 x6 x7 x8 x9 x10 x11,compL (compF T (callF T dfs (n+1)) 1 [1,3] (.one 0) e_staged_3 (.con (.bl true)) [a0,.v (.int cell),a2,.v (.tup ((Q.map playerS).map Player.enc)),x4,x5,x6,x7,x8,x9,x10,x11]) ((List.range P.length).map natI)=.ok (natD (castS cell Q.length P.length)):=λa0 a2 x4 x5 x6 x7 x8 x9 x10 x11=>by
  rw[compL_enc natI (λ(k:Nat)=>some (D.int ((mixN cell (k:Int) % (Q.length:Int)).toNat:Int))) (λk hk=>by
   have hk:=List.mem_range.mp hk
   have e1:=law_mix n cell (k:Int) ⟨by lia,by lia⟩
   have e2:D.bin .Mod (.int (mixN cell (k:Int))) (.int (Q.length:Nat))=.ok (.int ((mixN cell (k:Int) % (Q.length:Int)).toNat:Int)):=by
    rw[bin_mod (by lia)]
    have:=Int.emod_nonneg (mixN cell (k:Int)) (show (Q.length:Int)≠0 by lia)
    rw[Int.toNat_of_nonneg this]
   generalize ((Q.map playerS).map Player.enc)=qq at *
   simp[compF,Tr.compEnv,e_staged_3,natI,e1,lq,e2]),List.filterMap_eq_map']
  unfold natD castS
  rw[List.map_map];rfl
 have hcl:(castS cell Q.length P.length).length=P.length:=by unfold castS;rw[List.length_map,List.length_range]
 have sl:D.sl (.tup (S.map Scene.enc)) none (some 5)=.ok (.tup ((S.take 5).map Scene.enc)):=by
  show Res.ok (D.tup (cut (S.map Scene.enc) none (some 5)))=_
  rw[show (some (5:Int))=some ((5:Nat):Int) from rfl]
  rw[cut_any,List.map_take]
 generalize hcs:castS cell Q.length P.length=cs at *
 obtain⟨y6,y7,y8,y9,y10,y11,lo⟩:=scenes_loop (n+1) (cs:=cs) (by lia) (.v (.tup [.tup (P.map Part.enc),.tup (Q.map Player.enc),.tup (S.map Scene.enc),L,C])) (.v (.int cell)) (.v (.tup ((P.map partS).map Part.enc))) (.v (.tup ((Q.map playerS).map Player.enc))) (S.take 5) [] .no .no .no .no .no .no (λs hs=>by rw[hcl];exact dr.good s (List.mem_of_mem_take hs)) (by rw[List.length_nil,List.length_take];lia)
 have l1:((P.map Part.enc)).length≤big:=by rw[List.length_map];lia
 have l2:((Q.map Player.enc)).length≤big:=by rw[List.length_map];lia
 have l3:((List.range P.length).map natI).length≤big:=by rw[List.length_map,List.length_range];lia
 rw[List.map_nil,List.nil_append] at lo
 generalize (P.map partS).map Part.enc=pe at *
 generalize (Q.map playerS).map Player.enc=qe at *
 generalize ((S.take 5).map (sceneS cs)).map Scene.enc=se at *
 generalize (S.take 5).map Scene.enc=s5 at *
 generalize S.map Scene.enc=s0 at *
 generalize P.map Part.enc=p0 at *
 generalize Q.map Player.enc=q0 at *
 generalize (List.range P.length).map natI=rr at *
 generalize natD cs=cc at *
 simp[b_law_staged,c1,c2,c3,lp,lq,rg,l1,l2,l3,sl,lo]
noncomputable def AwayD (A:D) (aw:List Nat):Prop:=∀j:Nat,D.cmp .In (.int (j:Int)) A=.ok (.bl (decide (j∈aw)))∧D.cmp .NotIn (.int (j:Int)) A=.ok (.bl (!decide (j∈aw)))
theorem away_lst (aw:List Nat):AwayD (.lst (natD aw)) aw:=λ_=>⟨in_lN,notin_lN⟩
theorem away_tup (aw:List Nat):AwayD (.tup (natD aw)) aw:=λj=>⟨inn_natD,by
 show (do let k ←when (D.pls 30 (natD aw)&&D.pl 29 (.int (j:Int))) (.ok (D.mem (.int (j:Int)) (natD aw)));.ok (D.bl (!k)))=_
 rw[when_of (by rw[natD_pls 29 aw];rfl),natD_mem];rfl⟩
noncomputable def gapsV (cs aw:List Nat) (s:Scene):List Nat:=s.who.filter λi=>decide (cA cs i∈aw)
theorem scene_at {S:List Scene} {k:Nat} (h:k < S.length):D.ix (.tup (S.map Scene.enc)) (.int (k:Int))=.ok S[k].enc:=ix_t (by rw[List.getElem?_map,List.getElem?_eq_getElem h];rfl)
theorem gaps_of (n:Nat) (B0 B1 L C:D) (S:List Scene) (cs aw:List Nat) (A:D) (hA:AwayD A aw) (hs:∀s∈S,GoodScene cs.length s) (h8:cs.length≤8) (k:Nat) (hk:k < S.length) :
 callF T dfs (n+1) 10 [.tup [B0,B1,.tup (S.map Scene.enc),L,C],.lst (natD cs),A,.int (k:Int)]=.ok (.lst (natD (gapsV cs aw S[k]))):=by
 have hb:=ten_big
 have gs:=hs S[k] (List.getElem_mem hk)
 have e1:=scene_at hk
 have w8:S[k].who.length≤8:=Nat.le_trans (nodup_sub_len gs.nd (U:=List.range cs.length) λx hx=>List.mem_range.mpr (gs.lt x hx)) (by rw[List.length_range];exact h8)
 refine callF_rt (k:=true) rfl rfl rfl ?_
 have c1:∀a0 a3,compL (compF T (callF T dfs n) 1 [2,1] (.one 0) e_gaps_of_2 c_gaps_of_1 [a0,.v (.lst (natD cs)),.v A,a3]) (natD S[k].who)=.ok (natD (gapsV cs aw S[k])):=λa0 a3=>by
  unfold gapsV natD
  rw[compL_enc (λ(i:Nat)=>D.int (i:Int)) (λi=>if cA cs i∈aw then some (D.int (i:Int)) else none) (λi hi=>by
   have e1:=cast_at (gs.lt i hi)
   have e2:=(hA (cA cs i)).1
   unfold natD at e1
   generalize cA cs i=j at *
   by_cases h:j∈aw
   ·rw[decide_eq_true h] at e2
    rw[if_pos h]
    simp[compF,Tr.compEnv,e_gaps_of_2,c_gaps_of_1,e1,e2]
   ·rw[decide_eq_false h] at e2
    rw[if_neg h]
    simp[compF,Tr.compEnv,e_gaps_of_2,c_gaps_of_1,e1,e2])]
  refine congrArg Res.ok ?_
  generalize S[k].who=l
  induction l with
  | nil=>rfl
  | cons x r ih =>
   rw[List.filterMap_cons,List.filter_cons]
   by_cases h:cA cs x∈aw
   ·rw[if_pos h,if_pos (by simpa using h),List.map_cons,ih]
   ·rw[if_neg h,if_neg (by simpa using h),ih]
 have lw:(natD S[k].who).length≤big:=by rw[natD_length];lia
 have e3:D.ix S[k].enc (.int 3)=.ok (.tup (natD S[k].who)):=by unfold Scene.enc;rfl
 generalize S[k].enc=se at *
 generalize natD S[k].who=ww at *
 simp[b_gaps_of,e1,e3,c1,lw]
noncomputable def sortN (l:List Nat):List Nat:=(sortI (l.map λ(n:Nat)=>(n:Int))).map Int.toNat
theorem insI_mem (n:Int):∀(l:List Int) (x:Int),x∈insI n l↔x=n∨x∈l
 | [],x=>by simp[insI]
 | m::r,x=>by
  rw[insI]
  split
  ·simp
  ·rw[List.mem_cons,insI_mem n r x,List.mem_cons]
   constructor
   ·rintro (h | h | h)
    ·exact .inr (.inl h)
    ·exact .inl h
    ·exact .inr (.inr h)
   ·rintro (h | h | h)
    ·exact .inr (.inl h)
    ·exact .inl h
    ·exact .inr (.inr h)
theorem sortI_mem:∀(l:List Int) (x:Int),x∈sortI l↔x∈l
 | [],x=>by simp[sortI]
 | n::r,x=>by rw[sortI,insI_mem,sortI_mem r,List.mem_cons]
theorem insI_len (n:Int):∀l:List Int,(insI n l).length=l.length+1
 | []=>rfl
 | m::r=>by
  rw[insI]
  split
  ·rfl
  ·rw[List.length_cons,insI_len n r,List.length_cons]
theorem sortI_len:∀l:List Int,(sortI l).length=l.length
 | []=>rfl
 | n::r=>by rw[sortI,insI_len,sortI_len r,List.length_cons]
theorem sortN_mem {l:List Nat} {x:Nat}:x∈sortN l↔x∈l:=by
 unfold sortN
 rw[List.mem_map]
 constructor
 ·rintro⟨y,hy,rfl⟩
  obtain⟨z,hz,rfl⟩:=List.mem_map.mp ((sortI_mem _ _).mp hy)
  simpa using hz
 ·intro h
  exact⟨(x:Int),(sortI_mem _ _).mpr (List.mem_map.mpr ⟨x,h,rfl⟩),by simp⟩
theorem sortN_len (l:List Nat):(sortN l).length=l.length:=by unfold sortN;rw[List.length_map,sortI_len,List.length_map]
theorem intsOf_natD:∀l:List Nat,intsOf (natD l)=.ok (l.map λ(n:Nat)=>(n:Int))
 | []=>rfl
 | n::r=>by
  show (do let q ←intsOf (natD r);Res.ok ((n:Int)::q))=_
  rw[intsOf_natD r];rfl
theorem sort_natD (l:List Nat):(sortI (l.map λ(n:Nat)=>(n:Int))).map D.int=natD (sortN l):=by
 unfold sortN natD
 rw[List.map_map]
 refine List.map_congr_left λx hx=>?_
 obtain⟨z,_,rfl⟩:=List.mem_map.mp ((sortI_mem _ _).mp hx)
 rfl
theorem srt_nat {l:List Nat} (h:l.length < 64):srtA (.lst (natD l))=.ok (.lst (natD (sortN l))):=by
 show (do let ns ←intsOf (natD l);when (decide (ns.length < 64)) (.ok (D.lst ((sortI ns).map D.int))))=_
 rw[intsOf_natD,Res.ok_bind,when_of (by rw[List.length_map];exact decide_eq_true h),sort_natD]
noncomputable def busyV (cs:List Nat) (s:Scene):List Nat:=s.who.map (cA cs)
noncomputable def coverV (cv:List (Nat×Nat)) (cs aw:List Nat) (s:Scene) (part:Nat):List Nat:=(sortN ((cv.filter λx=>x.1==part).map (·.2))).filter λj=>!decide (j∈aw)&&!decide (j∈busyV cs s)
theorem covers_of (n:Nat) (B0 B1 L:D) (S:List Scene) (cv:List (Nat×Nat)) (hcv:cv.length≤49) (cs aw:List Nat) (A:D) (hA:AwayD A aw) (hs:∀s∈S,GoodScene cs.length s) (h8:cs.length≤8) (k:Nat) (hk:k < S.length) (part:Nat) :
 callF T dfs (n+1) 11 [.tup [B0,B1,.tup (S.map Scene.enc),L,.tup (cv.map prD)],.lst (natD cs),A,.int (k:Int),.int (part:Int)]=.ok (.lst (natD (coverV cv cs aw S[k] part))):=by
 have hb:=ten_big
 have gs:=hs S[k] (List.getElem_mem hk)
 have e1:=scene_at hk
 have w8:S[k].who.length≤8:=Nat.le_trans (nodup_sub_len gs.nd (U:=List.range cs.length) λx hx=>List.mem_range.mpr (gs.lt x hx)) (by rw[List.length_range];exact h8)
 refine callF_rt (k:=true) rfl rfl rfl ?_
 have c1:∀a0 a2 a3 a4 a5 a6,compL (compF T (callF T dfs n) 1 [1] (.one 0) e_covers_of_1 (.con (.bl true)) [a0,.v (.lst (natD cs)),a2,a3,a4,a5,a6]) (natD S[k].who)=.ok (natD (busyV cs S[k])):=λa0 a2 a3 a4 a5 a6=>by
  unfold busyV natD
  rw[compL_enc (λ(i:Nat)=>D.int (i:Int)) (λi=>some (D.int (cA cs i:Int))) (λi hi=>by
   have e1:=cast_at (gs.lt i hi)
   unfold natD at e1
   generalize cA cs i=j at *
   simp[compF,Tr.compEnv,e_covers_of_1,e1]),List.filterMap_eq_map',List.map_map];rfl
 have c2:∀a0 a1 a2 a3 a5 a6,compL (compF T (callF T dfs n) 2 [4] (.many [0,1]) e_covers_of_3 c_covers_of_2 [a0,a1,a2,a3,.v (.int (part:Int)),a5,a6]) (cv.map prD)=.ok (natD ((cv.filter λx=>x.1==part).map (·.2))):=λa0 a1 a2 a3 a5 a6=>by
  rw[compL_enc prD (λx=>if x.1=part then some (D.int (x.2:Int)) else none) (λx hx=>by
   by_cases h:x.1=part
   ·rw[if_pos h]
    have:((x.1:Nat):Int)=(part:Int):=by rw[h]
    simp[compF,Tr.compEnv,e_covers_of_3,c_covers_of_2,prD,this]
   ·rw[if_neg h]
    have:¬((x.1:Nat):Int)=(part:Int):=by lia
    simp[compF,Tr.compEnv,e_covers_of_3,c_covers_of_2,prD,this])]
  refine congrArg Res.ok ?_
  unfold natD
  generalize cv=l
  induction l with
  | nil=>rfl
  | cons x r ih =>
   rw[List.filterMap_cons,List.filter_cons]
   by_cases h:x.1=part
   ·rw[if_pos h,if_pos (by simpa using h),List.map_cons,List.map_cons,ih]
   ·rw[if_neg h,if_neg (by simpa using h),ih]
 have hl:((cv.filter λx=>x.1==part).map (·.2)).length≤49:=by rw[List.length_map];exact Nat.le_trans (List.length_filter_le ..) hcv
 have so:=srt_nat (l:=(cv.filter λx=>x.1==part).map (·.2)) (by lia)
 have c3:∀a0 a1 a3 a4 a6,compL (compF T (callF T dfs n) 1 [2,5] (.one 0) e_covers_of_5 c_covers_of_4 [a0,a1,.v A,a3,a4,.v (.lst (natD (busyV cs S[k]))),a6]) (natD (sortN ((cv.filter λx=>x.1==part).map (·.2))))=.ok (natD (coverV cv cs aw S[k] part)):=λa0 a1 a3 a4 a6=>by
  unfold coverV
  generalize sortN ((cv.filter λx=>x.1==part).map (·.2))=l
  have:compL (compF T (callF T dfs n) 1 [2,5] (.one 0) e_covers_of_5 c_covers_of_4 [a0,a1,.v A,a3,a4,.v (.lst (natD (busyV cs S[k]))),a6]) (l.map λ(i:Nat)=>D.int (i:Int))=_:=compL_enc (λ(i:Nat)=>D.int (i:Int)) (λj=>if (!decide (j∈aw)&&!decide (j∈busyV cs S[k]))=true then some (D.int (j:Int)) else none) (λj hj=>by
   have e2:=(hA j).2
   have e3:=notin_lN (i:=j) (ws:=busyV cs S[k])
   cases q1:decide (j∈aw) with
   | true=>rw[q1] at e2;simp[compF,Tr.compEnv,e_covers_of_5,c_covers_of_4,e2]
   | false =>
    rw[q1] at e2
    cases q2:decide (j∈busyV cs S[k]) with
    | true=>rw[q2] at e3;simp[compF,Tr.compEnv,e_covers_of_5,c_covers_of_4,e2,e3]
    | false=>rw[q2] at e3;simp[compF,Tr.compEnv,e_covers_of_5,c_covers_of_4,e2,e3])
  refine this.trans (congrArg Res.ok ?_)
  unfold natD
  clear this
  induction l with
  | nil=>rfl
  | cons x r ih =>
   rw[List.filterMap_cons,List.filter_cons]
   by_cases h:(!decide (x∈aw)&&!decide (x∈busyV cs S[k]))=true
   ·rw[if_pos h,if_pos h,List.map_cons,ih]
   ·rw[if_neg h,if_neg h,ih]
 have lw:(natD S[k].who).length≤big:=by rw[natD_length];lia
 have lc:(cv.map prD).length≤big:=by rw[List.length_map];lia
 have ls:(natD (sortN ((cv.filter λx=>x.1==part).map (·.2)))).length≤big:=by rw[natD_length,sortN_len];lia
 have e3:D.ix S[k].enc (.int 3)=.ok (.tup (natD S[k].who)):=by unfold Scene.enc;rfl
 generalize S[k].enc=se at *
 generalize natD S[k].who=ww at *
 generalize natD (busyV cs S[k])=bw at *
 generalize natD (sortN ((cv.filter λx=>x.1==part).map (·.2)))=sn at *
 generalize natD ((cv.filter λx=>x.1==part).map (·.2))=sm at *
 generalize cv.map prD=cw at *
 simp[b_covers_of,e1,e3,c1,c2,c3,lw,lc,ls,so]
theorem val_putAll {f:Nat→D}:∀(G:List Nat) (kvs:List (Sum Int Str×D)) (g:Nat),valK (putAllK (G.map λ(g:Nat)=>(.inl (g:Int),f g)) kvs) (.inl (g:Int))=if g∈G then some (f g) else valK kvs (.inl (g:Int))
 | [],kvs,g=>by rw[if_neg (by simp)];rfl
 | x::r,kvs,g=>by
  show valK (putAllK (r.map λ(g:Nat)=>(.inl (g:Int),f g)) (putKD kvs (.inl (x:Int)) (f x))) (.inl (g:Int))=_
  rw[val_putAll r _ g,valK_put]
  by_cases h:g∈r
  ·rw[if_pos h,if_pos (List.mem_cons_of_mem _ h)]
  ·rw[if_neg h]
   by_cases e:g=x
   ·subst e;rw[if_pos rfl,if_pos List.mem_cons_self]
   ·rw[if_neg (λz=>e (by injection z with z;lia)),if_neg (λz=>by rcases List.mem_cons.mp z with z | z;exact e z;exact h z)]
theorem some_putAll:∀(qs kvs:List (Sum Int Str×D)) (k:Sum Int Str),(k∈qs.map (·.1)∨(valK kvs k).isSome=true)→(valK (putAllK qs kvs) k).isSome=true
 | [],kvs,k,h=>by
  rcases h with h | h
  ·cases h
  ·exact h
 | q::r,kvs,k,h=>by
  show (valK (putAllK r (putKD kvs q.1 q.2)) k).isSome=true
  refine some_putAll r _ k ?_
  rcases h with h | h
  ·rw[List.map_cons] at h
   rcases List.mem_cons.mp h with h | h
   ·exact .inr (by rw[valK_put,if_pos h];rfl)
   ·exact .inl h
  ·refine .inr ?_
   rw[valK_put]
   split
   ·rfl
   ·exact h
theorem keyInts_encA:∀a:List Nat,keyInts (encA a)=.ok (a.map λ(n:Nat)=>(n:Int))
 | []=>rfl
 | n::r=>by
  show (do let q ←keyInts (encA r);Res.ok ((n:Int)::q))=_
  rw[keyInts_encA r];rfl
theorem srt_encA {a:List Nat} (h:a.length < 64):srtA (.dct (encA a))=.ok (.lst (natD (sortN a))):=by
 show (do let ns ←keyInts (encA a);when (decide (ns.length < 64)) (.ok (D.lst ((sortI ns).map D.int))))=_
 rw[keyInts_encA,Res.ok_bind,when_of (by rw[List.length_map];exact decide_eq_true h),sort_natD]
theorem keys_encA (a:List Nat):dkeysR (.dct (encA a))=.ok (natD a):=by
 show Res.ok _=_
 unfold encA natD
 rw[List.map_map];rfl
theorem keys_encC (c:List (Nat×Nat)):dkeysR (.dct (encC c))=.ok (natD (c.map (·.1))):=by
 show Res.ok _=_
 unfold encC natD
 rw[List.map_map,List.map_map];rfl
theorem ix_encC {c:List (Nat×Nat)} {p g:Nat} (h:getA c p=some g):D.ix (.dct (encC c)) (.int (p:Int))=.ok (.int (g:Int)):=by rw[ix_dct,key_int,Res.ok_bind,val_encC,h];rfl
theorem lack_told (n:Nat) (c:List (Nat×Nat)) (a:List Nat) (g:Nat) (ha:a.length≤20) (hc:∀p∈a,∃g,getA c p=some g):∃x,callF T dfs (n+1) 12 [.dct (encC c),.dct (encA a),.int (g:Int)]=.ok (.tup (.str "lacks" :: x)):=by
 have hb:=ten_big
 refine⟨[.lst (natD (sortN (g::a.map λp=>(getA c p).getD 0))),.lst (natD (sortN a))],callF_rt (k:=false) rfl rfl rfl ?_⟩
 have c1:∀a1 a2 a3,compL (compF T (callF T dfs n) 1 [0] (.one 0) e_lack_told_1 (.con (.bl true)) [.v (.dct (encC c)),a1,a2,a3]) (natD a)=.ok (natD (a.map λp=>(getA c p).getD 0)):=λa1 a2 a3=>by
  unfold natD
  rw[compL_enc (λ(i:Nat)=>D.int (i:Int)) (λp=>some (D.int (((getA c p).getD 0:Nat):Int))) (λp hp=>by
   obtain⟨g,hg⟩:=hc p hp
   have e:=ix_encC hg
   rw[hg]
   simp[compF,Tr.compEnv,e_lack_told_1,e]),List.filterMap_eq_map',List.map_map];rfl
 have ks:=keys_encA a
 have s1:=srt_nat (l:=g::a.map λp=>(getA c p).getD 0) (by rw[List.length_cons,List.length_map];lia)
 have s2:=srt_encA (a:=a) (by lia)
 have la:(natD a).length≤big:=by rw[natD_length];lia
 have ad:D.bin .Add (.lst [.int (g:Int)]) (.lst (natD (a.map λp=>(getA c p).getD 0)))=.ok (.lst (natD (g::a.map λp=>(getA c p).getD 0))):=by
  show when _ _=_
  rw[when_of (decide_eq_true (by rw[natD_length,List.length_map,List.length_singleton];lia))];rfl
 generalize natD (g::a.map λp=>(getA c p).getD 0)=z1 at *
 generalize natD (a.map λp=>(getA c p).getD 0)=z2 at *
 generalize natD a=z3 at *
 simp[b_lack_told,ks,c1,la,ad,s1,s2]
theorem getA_of:∀ {c:List (Nat×Nat)} {p g:Nat},(c.map (·.1)).Nodup→(p,g)∈c→getA c p=some g
 | x::r,p,g,nd,h=>by
  rw[List.map_cons,List.nodup_cons] at nd
  rw[getA_cons]
  rcases List.mem_cons.mp h with h | h
  ·rw[←h,if_pos rfl]
  ·rw[if_neg (λz=>nd.1 (by rw[z];exact List.mem_map.mpr ⟨_,h,rfl⟩))]
   exact getA_of nd.2 h
noncomputable def Full (G:List Nat) (ch:Nat→List Nat):Prop:=∃f:Nat→Nat,(∀g∈G,f g∈ch g)∧∀g∈G,∀g'∈G,f g=f g'→g=g'
theorem Full.of {G G':List Nat} {ch ch':Nat→List Nat} (h:Full G ch) (hG:∀g∈G',g∈G) (hc:∀g∈G',∀p∈ch g,p∈ch' g):Full G' ch':=by
 obtain⟨f,h1,h2⟩:=h
 exact⟨f,λg hg=>hc g hg _ (h1 g (hG g hg)),λg hg g' hg' e=>h2 g (hG g hg) g' (hG g' hg') e⟩
theorem full_won {G:List Nat} {ch:Nat→List Nat} {c:List (Nat×Nat)} (ok:OkA ch c) (h:∀g∈G,0 < cntA c g):Full G ch:=by
 have ex:∀g,∃p,g∈G→getA c p=some g:=λg=>by
  by_cases hg:g∈G
  ·have h0:=h g hg
   unfold cntA at h0
   obtain⟨x,hx⟩:=List.exists_mem_of_length_pos h0
   obtain⟨hx1,hx2⟩:=List.mem_filter.mp hx
   have e0:=getA_of ok.1 (show (x.1,x.2)∈c from hx1)
   have hx2:x.2=g:=by simpa using hx2
   exact⟨x.1,λ_=>by rw[e0,hx2]⟩
  ·exact⟨0,λz=>absurd z hg⟩
 refine⟨λg=>(ex g).choose,λg hg=>ok.2 _ _ ((ex g).choose_spec hg),λg hg g' hg' e=>?_⟩
 have h1:=(ex g).choose_spec hg
 have h2:=(ex g').choose_spec hg'
 have e:(ex g).choose=(ex g').choose:=e
 rw[e,h2] at h1
 cases h1;rfl
theorem cnt_inj {c:List (Nat×Nat)} (nd:(c.map (·.1)).Nodup) (h1:∀g,cntA c g≤1) {p q g:Nat} (hp:getA c p=some g) (hq:getA c q=some g):p=q:=by
 have a:=h1 g
 unfold cntA at a
 have mp:(p,g)∈c.filter λx=>x.2==g:=List.mem_filter.mpr ⟨getA_mem hp,by simp⟩
 have mq:(q,g)∈c.filter λx=>x.2==g:=List.mem_filter.mpr ⟨getA_mem hq,by simp⟩
 match hl:c.filter (λx=>x.2==g),a with
 | [],_=>rw[hl] at mp;cases mp
 | [y],_ =>
  rw[hl] at mp mq
  have e1:=List.mem_singleton.mp mp
  have e2:=List.mem_singleton.mp mq
  rw[←e2] at e1
  cases e1;rfl
 | _::_::_,h=>rw[hl] at a;simp at a
theorem full_lost {G:List Nat} {ch:Nat→List Nat} {c:List (Nat×Nat)} {g:Nat} {a':List Nat} (hg:g∈G) (cv:∀x∈c,x.2∈G) (nd:(c.map (·.1)).Nodup) (h1:∀g,cntA c g≤1) (h0:cntA c g=0) (na:a'.Nodup) (hg2:∀p∈ch g,p∈a') (hall:∀p∈a',∃g,getA c p=some g∧∀q∈ch g,q∈a'):¬Full G ch:=by
 rintro⟨f,f1,f2⟩
 have sub:∀x∈g::a'.map (λp=>(getA c p).getD 0),x∈G∧∀p∈ch x,p∈a':=λx hx=>by
  rcases List.mem_cons.mp hx with z | z
  ·subst z;exact⟨hg,hg2⟩
  ·obtain⟨p,hp,rfl⟩:=List.mem_map.mp z
   obtain⟨g0,e0,h⟩:=hall p hp
   rw[e0]
   exact⟨cv _ (getA_mem e0),h⟩
 have ndG:(g::a'.map (λp=>(getA c p).getD 0)).Nodup:=by
  rw[List.nodup_cons]
  constructor
  ·intro z
   obtain⟨p,hp,e⟩:=List.mem_map.mp z
   obtain⟨g0,e0,_⟩:=hall p hp
   rw[e0] at e
   have e:g0=g:=e
   subst e
   unfold cntA at h0
   have:(p,g0)∈c.filter λx=>x.2==g0:=List.mem_filter.mpr ⟨getA_mem e0,by simp⟩
   rw[List.length_eq_zero_iff.mp h0] at this
   cases this
  ·clear sub hg2
   induction a' with
   | nil=>exact List.nodup_nil
   | cons p r ih =>
    rw[List.nodup_cons] at na
    rw[List.map_cons,List.nodup_cons]
    refine⟨λz=>?_,?_⟩
    ·obtain⟨q,hq,e⟩:=List.mem_map.mp z
     obtain⟨g1,e1,_⟩:=hall p List.mem_cons_self
     obtain⟨g2,e2,_⟩:=hall q (List.mem_cons_of_mem _ hq)
     rw[e1,e2] at e
     have e:g2=g1:=e
     subst e
     exact na.1 (cnt_inj nd h1 e1 e2▸hq)
    ·have:∀ {l:List Nat},l.Nodup→(∀p∈l,∃g,getA c p=some g)→(l.map λp=>(getA c p).getD 0).Nodup:=by
      intro l
      induction l with
      | nil=>intro _ _;exact List.nodup_nil
      | cons x t iht =>
       intro n1 n2
       rw[List.nodup_cons] at n1
       rw[List.map_cons,List.nodup_cons]
       refine⟨λz=>?_,iht n1.2 λp hp=>n2 p (List.mem_cons_of_mem _ hp)⟩
       obtain⟨q,hq,e⟩:=List.mem_map.mp z
       obtain⟨g1,e1⟩:=n2 x List.mem_cons_self
       obtain⟨g2,e2⟩:=n2 q (List.mem_cons_of_mem _ hq)
       rw[e1,e2] at e
       have e:g2=g1:=e
       subst e
       exact n1.1 (cnt_inj nd h1 e1 e2▸hq)
     exact this na.2 λp hp=>let ⟨g,h,_⟩:=hall p (List.mem_cons_of_mem _ hp);⟨g,h⟩
 have ndf:((g::a'.map (λp=>(getA c p).getD 0)).map f).Nodup:=by
  have:∀ {l:List Nat},l.Nodup→(∀x∈l,x∈G)→(l.map f).Nodup:=by
   intro l
   induction l with
   | nil=>intro _ _;exact List.nodup_nil
   | cons x t iht =>
    intro n1 n2
    rw[List.nodup_cons] at n1
    rw[List.map_cons,List.nodup_cons]
    refine⟨λz=>?_,iht n1.2 λp hp=>n2 p (List.mem_cons_of_mem _ hp)⟩
    obtain⟨q,hq,e⟩:=List.mem_map.mp z
    exact n1.1 (f2 x (n2 x List.mem_cons_self) q (n2 q (List.mem_cons_of_mem _ hq)) e.symm▸hq)
  exact this ndG λx hx=>(sub x hx).1
 have:=nodup_sub_len ndf (U:=a') λy hy=>by
  obtain⟨x,hx,rfl⟩:=List.mem_map.mp hy
  exact (sub x hx).2 _ (f1 x (sub x hx).1)
 rw[List.length_map,List.length_cons,List.length_map] at this
 lia
section
variable {C BK CS A K4:D} {x3:Sl} {U G:List Nat} {ch:Nat→List Nat}
noncomputable abbrev stE (BK CS A:D) (x3:Sl) (K4 C:D) (c:List (Nat×Nat)) (x7 x8 x9:Sl):Nv:=[.v BK,.v CS,.v A,x3,.v K4,.v C,.o (.dct (encC c)),x7,x8,x9]
theorem cover_loop (m:Nat) (hU:U.length≤6) (hch:∀g∈G,D.ix C (.int (g:Int))=.ok (.lst ((ch g).map natI))∧∀p∈ch g,p∈U) (hall:∀g,∀p∈ch g,p∈U) :
 ∀(r:List Nat) (c:List (Nat×Nat)) (x7 x8 x9:Sl),(∀g∈r,g∈G)→OkA ch c→Sm U G c []→r.Nodup→(∀g,cntA c g≤1)→(∀g∈r,cntA c g=0) →
  (∃x,forL (bodyF T (callF T dfs (m+7)) (.one 7) b_scene_told_2) (natD r) (stE BK CS A x3 K4 C c x7 x8 x9)=.ok (.rt (.tup (.str "lacks" :: x)) false)∧¬Full G ch) ∨
  ∃c' y7 y8,forL (bodyF T (callF T dfs (m+7)) (.one 7) b_scene_told_2) (natD r) (stE BK CS A x3 K4 C c x7 x8 x9)=.ok (.nx (stE BK CS A x3 K4 C c' y7 y8 x9))∧OkA ch c'∧Sm U G c' []∧(∀g,cntA c g≤cntA c' g)∧∀g∈r,0 < cntA c' g
 | [],c,x7,x8,x9,_,ok,sm,_,_,_=>.inr ⟨c,x7,x8,rfl,ok,sm,λg=>Nat.le_refl _,λg hg=>by cases hg⟩
 | g::r,c,x7,x8,x9,hr,ok,sm,rn,h1',h0'=>by
  have hg:=hr g List.mem_cons_self
  obtain⟨⟨b,c',a'⟩,e⟩:=fc_ends (U:=U) hall 7 g c [] ok List.nodup_nil (λp hp=>by cases hp) (by rw[List.length_nil];lia)
  have ok2:=fc_ok ch 7 g c [] b c' a' ok e
  obtain⟨sm2,run⟩:=fc_run (U:=U) (G:=G) (by lia) hch m 7 g c [] b c' a' hg sm e
  have rf:refC (callF T dfs (m+7)) 33 C (encC c) (encA []) (.int (g:Int))=.ok (.bl b,encC c',encA a'):=refC_of λt1 t2 _=>run t1 t2
  have st:=ifR_c (T:=T) (cf:=callF T dfs (m+7)) (e:=stE BK CS A x3 K4 C c (.v (.int (g:Int))) (.o (.dct [])) x9) (neg:=true) (c:=.omit) (z:=.non) (x:=.var 5) (i:=6) (j:=8) (y:=.var 7) (a:=.cons (.sealed 8) (.cons (.sealed 6) (.cons (.ret (.call 12 (.acons (.var 6) (.acons (.var 8) (.acons (.var 7) .anil))))) .nil))) (b:=.nil) (f:=33) (k:=b) rfl (by decide) (.inl rfl) (d1:=C) (by simp[stE]) (g:=encC c) (by simp[stE]) (h:=encA []) (by simp[stE];rfl) (d2:=.int (g:Int)) (by simp[stE]) rf rfl
  generalize hw:(S.ifR true .omit 33 (.var 5) 6 8 (.var 7) (.cons (.sealed 8) (.cons (.sealed 6) (.cons (.ret (.call 12 (.acons (.var 6) (.acons (.var 8) (.acons (.var 7) .anil))))) .nil))) .nil)=W at st
  cases b with
  | true =>
   rw[if_pos rfl] at ok2
   rw[if_neg (by decide)] at st
   simp[stE] at st
   have sm3:Sm U G c' []:=⟨sm2.cn,sm2.cu,List.nodup_nil,(λp hp=>by cases hp),sm2.cv⟩
   have body:bodyF T (callF T dfs (m+7)) (.one 7) b_scene_told_2 (.int (g:Int)) (stE BK CS A x3 K4 C c x7 x8 x9)=.ok (.nx (stE BK CS A x3 K4 C c' (.v (.int (g:Int))) (.o (.dct (encA a'))) x9)):=by
    simp[bodyF,b_scene_told_2,stE,hw,st]
   rcases cover_loop m hU hch hall r c' (.v (.int (g:Int))) (.o (.dct (encA a'))) x9 (λq hq=>hr q (List.mem_cons_of_mem _ hq)) ok2.ok sm3 (List.nodup_cons.mp rn).2 (λq=>by
    have:=ok2.cnt q;have:=h1' q
    by_cases z:g=q
    ·rw[if_pos z] at *;have:=h0' g List.mem_cons_self;subst z;lia
    ·rw[if_neg z] at *;lia) (λq hq=>by
    have:=ok2.cnt q;have:=h0' q (List.mem_cons_of_mem _ hq)
    rw[if_neg (λz:g=q=>(List.nodup_cons.mp rn).1 (z▸hq))] at *;lia) with ⟨x,h,hz⟩ | ⟨c2,y7,y8,h,h1,h2,h3,h4⟩
   ·exact .inl ⟨x,by show forL _ (.int (g:Int)::natD r) _=_;rw[forL_nx body,h],hz⟩
   ·refine .inr ⟨c2,y7,y8,by show forL _ (.int (g:Int)::natD r) _=_;rw[forL_nx body,h],h1,h2,λq=>?_,λq hq=>?_⟩
    ·have:=ok2.cnt q;have:=h3 q;lia
    ·rcases List.mem_cons.mp hq with z | z
     ·subst z
      have:=ok2.cnt q
      rw[if_pos rfl] at this
      have:=h3 q
      lia
     ·exact h4 q z
  | false =>
   rw[if_neg Bool.false_ne_true] at ok2
   rw[if_pos (by decide)] at st
   have la:a'.length≤20:=Nat.le_trans (nodup_sub_len sm2.an sm2.au) (by lia)
   obtain⟨x,ex⟩:=lack_told (m+6) c' a' g la (λp hp=>by
    obtain⟨⟨g0,e0,_⟩,_⟩:=ok2.new p hp (by simp)
    exact⟨g0,by rw[ok2.same];exact e0⟩)
   have nf:¬Full G ch:=by
    refine full_lost (c:=c) (g:=g) (a':=a') hg sm.cv ok.1 h1' (h0' g List.mem_cons_self) sm2.an ok2.all λp hp=>?_
    exact (ok2.new p hp (by simp)).1
   refine .inl ⟨x,?_,nf⟩
   simp[stE,ex] at st
   have body:bodyF T (callF T dfs (m+7)) (.one 7) b_scene_told_2 (.int (g:Int)) (stE BK CS A x3 K4 C c x7 x8 x9)=.ok (.rt (.tup (.str "lacks" :: x)) false):=by
    simp[bodyF,b_scene_told_2,stE,hw,st]
   show forL _ (.int (g:Int)::natD r) _=_
   rw[forL_rt body]
end
theorem pairsK_map {α:Type} (k v:α→D) (key:α→Sum Int Str) (h:∀a,keyOf (k a)=some (key a)):∀l:List α,pairsK (l.map λa=>.tup [k a,v a])=.ok (l.map λa=>(key a,v a))
 | []=>rfl
 | a::r=>by
  show (do let q0 ←Res.of (keyOf (k a));let q ←pairsK (r.map λa=>.tup [k a,v a]);Res.ok ((q0,v a)::q))=_
  rw[h a,pairsK_map k v key h r];rfl
open Classical in
noncomputable def kindV (G:List Nat) (ch:Nat→List Nat):Str:=if Full G ch then "covered" else "lacks"
theorem kind_of {G:List Nat} {ch:Nat→List Nat} (h:Full G ch):kindV G ch = "covered" := by unfold kindV;rw[if_pos h]
theorem kind_no {G:List Nat} {ch:Nat→List Nat} (h:¬Full G ch):kindV G ch = "lacks" := by unfold kindV;rw[if_neg h]
theorem scene_told (m:Nat) (B0 B1 L:D) (S:List Scene) (cv:List (Nat×Nat)) (hcv:cv.length≤49) (q:Nat) (hq:q≤6) (hcq:∀x∈cv,x.2 < q) (cs aw:List Nat) (A:D) (hA:AwayD A aw) (hs:∀s∈S,GoodScene cs.length s) (h8:cs.length≤8) (k:Nat) (hk:k < S.length) :
 ∃x,callF T dfs (m+8) 13 [.tup [B0,B1,.tup (S.map Scene.enc),L,.tup (cv.map prD)],.lst (natD cs),A,.int (k:Int)]=.ok (.tup (.str (kindV (gapsV cs aw S[k]) (coverV cv cs aw S[k]))::x)):=by
 have hb:=ten_big
 have gs:=hs S[k] (List.getElem_mem hk)
 have e1:=gaps_of (m+6) B0 B1 L (.tup (cv.map prD)) S cs aw A hA hs h8 k hk
 have e2:=λg=>covers_of (m+6) B0 B1 L S cv hcv cs aw A hA hs h8 k hk g
 have hall:∀g,∀p∈coverV cv cs aw S[k] g,p∈List.range q:=λg p hp=>by
  have h1:=sortN_mem.mp (List.mem_filter.mp hp).1
  obtain⟨x,hx,rfl⟩:=List.mem_map.mp h1
  exact List.mem_range.mpr (hcq x (List.mem_filter.mp hx).1)
 have gl:(gapsV cs aw S[k]).length≤8:=by
  refine Nat.le_trans (List.length_filter_le ..) (Nat.le_trans (nodup_sub_len gs.nd (U:=List.range cs.length) λx hx=>List.mem_range.mpr (gs.lt x hx)) ?_)
  rw[List.length_range];exact h8
 have gn:(gapsV cs aw S[k]).Nodup:=List.Pairwise.filter _ gs.nd
 generalize hG:gapsV cs aw S[k]=G at *
 generalize hC:coverV cv cs aw S[k]=ch at *
 generalize hB:D.tup [B0,B1,.tup (S.map Scene.enc),L,.tup (cv.map prD)]=BK at *
 have c1:∀x4 x5 x6 x7 x8 x9,compL (compF T (callF T dfs (m+7)) 1 [0,1,2,3] (.one 0) e_scene_told_1 (.con (.bl true)) [.v BK,.v (.lst (natD cs)),.v A,.v (.int (k:Int)),x4,x5,x6,x7,x8,x9]) (natD G)=.ok (G.map λ(g:Nat)=>D.tup [.int (g:Int),.lst (natD (ch g))]):=λx4 x5 x6 x7 x8 x9=>by
  show compL _ (G.map λ(i:Nat)=>D.int (i:Int))=_
  rw[compL_enc (λ(i:Nat)=>D.int (i:Int)) (λ(g:Nat)=>some (D.tup [.int (g:Int),.lst (natD (ch g))])) (λg _=>by
   have e:=e2 g
   generalize D.lst (natD (ch g))=z at *
   generalize D.lst (natD cs)=z2 at *
   simp[compF,Tr.compEnv,e_scene_told_1,e]),List.filterMap_eq_map']
 have p1:dckR (.lst (G.map λ(g:Nat)=>D.tup [.int (g:Int),.lst (natD (ch g))]))=.ok (.dct (putAllK (G.map λ(g:Nat)=>(.inl (g:Int),.lst (natD (ch g)))) [])):=by
  show (do let qs ←pairsK _;Res.ok (D.dct (putAllK qs [])))=_
  rw[pairsK_map (λ(g:Nat)=>D.int (g:Int)) (λg=>.lst (natD (ch g))) (λ(g:Nat)=>.inl (g:Int)) (λ_=>rfl)]<;>rfl
 have hix:∀g∈G,D.ix (.dct (putAllK (G.map λ(g:Nat)=>(.inl (g:Int),.lst (natD (ch g)))) [])) (.int (g:Int))=.ok (.lst ((ch g).map natI)):=λg hg=>by
  rw[ix_dct,key_int,Res.ok_bind,val_putAll (f:=λg=>.lst (natD (ch g))) G [] g,if_pos hg];rfl
 generalize hCH:D.dct (putAllK (G.map λ(g:Nat)=>(.inl (g:Int),.lst (natD (ch g)))) [])=CH at *
 have lg:(natD G).length≤big:=by rw[natD_length];lia
 have lo:=cover_loop (BK:=BK) (CS:=.lst (natD cs)) (A:=A) (x3:=.v (.int (k:Int))) (K4:=.lst (natD G)) (C:=CH) (U:=List.range q) (G:=G) (ch:=ch) m (by rw[List.length_range];exact hq) (λg hg=>⟨hix g hg,hall g⟩) hall G [] .no .no .no (λg hg=>hg) ⟨List.nodup_nil,λp g h=>by cases h⟩ ⟨List.nodup_nil,(λp hp=>by cases hp),List.nodup_nil,(λp hp=>by cases hp),λx hx=>by cases hx⟩ gn (λg=>Nat.zero_le _) (λg _=>rfl)
 rw[show stE BK (.lst (natD cs)) A (.v (.int (k:Int))) (.lst (natD G)) CH [] .no .no .no=[.v BK,.v (.lst (natD cs)),.v A,.v (.int (k:Int)),.v (.lst (natD G)),.v CH,.o (.dct []),.no,.no,.no] from rfl] at lo
 rcases lo with ⟨x,lo,nf⟩ | ⟨c,y7,y8,lo,ok,sm,_,cnt⟩
 ·rw[kind_no nf]
  refine⟨x,callF_rt (k:=false) rfl rfl rfl ?_⟩
  generalize D.lst (natD cs)=z2 at *
  generalize natD G=g2 at *
  generalize (G.map λ(g:Nat)=>D.tup [.int (g:Int),.lst (natD (ch g))])=g3 at *
  simp[b_scene_told,e1,lg,c1,p1,lo]
 ·have c2:∀x0 x1 x2 x3 x4 x5 x7 x8 x9,compL (compF T (callF T dfs (m+7)) 1 [6] (.one 0) e_scene_told_3 (.con (.bl true)) [x0,x1,x2,x3,x4,x5,.v (.dct (encC c)),x7,x8,x9]) (natD (c.map (·.1)))=.ok ((c.map (·.1)).map λ(p:Nat)=>D.tup [.int (((getA c p).getD 0:Nat):Int),.int (p:Int)]):=λx0 x1 x2 x3 x4 x5 x7 x8 x9=>by
   show compL _ ((c.map (·.1)).map λ(i:Nat)=>D.int (i:Int))=_
   rw[compL_enc (λ(i:Nat)=>D.int (i:Int)) (λ(p:Nat)=>some (D.tup [.int (((getA c p).getD 0:Nat):Int),.int (p:Int)])) (λp hp=>by
    obtain⟨y,hy,rfl⟩:=List.mem_map.mp hp
    have e0:=getA_of ok.1 (show (y.1,y.2)∈c from hy)
    have e:=ix_encC e0
    rw[e0]
    simp[compF,Tr.compEnv,e_scene_told_3,e]),List.filterMap_eq_map']
  have p2:dckR (.lst ((c.map (·.1)).map λ(p:Nat)=>D.tup [.int (((getA c p).getD 0:Nat):Int),.int (p:Int)]))=.ok (.dct (putAllK ((c.map (·.1)).map λ(p:Nat)=>(.inl (((getA c p).getD 0:Nat):Int),.int (p:Int))) [])):=by
   show (do let qs ←pairsK _;Res.ok (D.dct (putAllK qs [])))=_
   rw[pairsK_map (λ(p:Nat)=>D.int (((getA c p).getD 0:Nat):Int)) (λ(p:Nat)=>.int (p:Int)) (λ(p:Nat)=>.inl (((getA c p).getD 0:Nat):Int)) (λ_=>rfl)]<;>rfl
  have has:∀g∈G,∃v,D.ix (.dct (putAllK ((c.map (·.1)).map λ(p:Nat)=>(.inl (((getA c p).getD 0:Nat):Int),.int (p:Int))) [])) (.int (g:Int))=.ok v:=λg hg=>by
   have h0:=cnt g hg
   unfold cntA at h0
   obtain⟨x,hx⟩:=List.exists_mem_of_length_pos h0
   obtain⟨hx1,hx2⟩:=List.mem_filter.mp hx
   have e0:=getA_of ok.1 (show (x.1,x.2)∈c from hx1)
   have hx2:x.2=g:=by simpa using hx2
   have:=some_putAll ((c.map (·.1)).map λ(p:Nat)=>(.inl (((getA c p).getD 0:Nat):Int),.int (p:Int))) [] (.inl (g:Int)) (.inl (List.mem_map.mpr ⟨(.inl (g:Int),.int (x.1:Int)),List.mem_map.mpr ⟨x.1,List.mem_map.mpr ⟨x,hx1,rfl⟩,by rw[e0,hx2];rfl⟩,rfl⟩))
   obtain⟨v,hv⟩:=Option.isSome_iff_exists.mp this
   exact⟨v,by rw[ix_dct,key_int,Res.ok_bind,hv];rfl⟩
  generalize D.dct (putAllK ((c.map (·.1)).map λ(p:Nat)=>(.inl (((getA c p).getD 0:Nat):Int),.int (p:Int))) [])=PL at *
  have c3:∀x0 x1 x2 x3 x4 x5 x6 x7 x8,∃l,compL (compF T (callF T dfs (m+7)) 1 [9] (.one 0) e_scene_told_4 (.con (.bl true)) [x0,x1,x2,x3,x4,x5,x6,x7,x8,.v PL]) (natD G)=.ok l:=λx0 x1 x2 x3 x4 x5 x6 x7 x8=>by
   have:=compL_enc (f:=compF T (callF T dfs (m+7)) 1 [9] (.one 0) e_scene_told_4 (.con (.bl true)) [x0,x1,x2,x3,x4,x5,x6,x7,x8,.v PL]) (xs:=G) (λ(i:Nat)=>D.int (i:Int)) (λ(g:Nat)=>some (D.tup [.int (g:Int),match D.ix PL (.int (g:Int)) with | .ok v=>v | _=>.non])) (λg hg=>by
    obtain⟨v,e⟩:=has g hg
    rw[e]
    simp[compF,Tr.compEnv,e_scene_told_4,e])
   exact⟨_,this⟩
  have ks:=keys_encC c
  have lc:(natD (c.map (·.1))).length≤big:=by
   have:=nodup_sub_len sm.cn sm.cu
   rw[List.length_range] at this
   rw[natD_length];lia
  obtain⟨l,hl⟩:=c3 (.v BK) (.v (.lst (natD cs))) (.v A) (.v (.int (k:Int))) (.v (.lst (natD G))) (.v CH) (.v (.dct (encC c))) y7 y8
  rw[kind_of (full_won ok cnt)]
  refine⟨[.lst l],callF_rt (k:=false) rfl rfl rfl ?_⟩
  simp only[stE] at lo
  generalize D.lst (natD cs)=z2 at *
  generalize natD G=g2 at *
  generalize (G.map λ(g:Nat)=>D.tup [.int (g:Int),.lst (natD (ch g))])=g3 at *
  generalize natD (c.map (·.1))=g4 at *
  generalize ((c.map (·.1)).map λ(p:Nat)=>D.tup [.int (((getA c p).getD 0:Nat):Int),.int (p:Int)])=g5 at *
  simp[b_scene_told,e1,lg,c1,p1,lo,ks,lc,c2,p2,hl]
noncomputable abbrev psV (P:List Part) (S:List Scene):List (Nat×Nat):=(pairsOf P.length).filter λp=>(reasonOf P S p.1 p.2).isSome
theorem faults_are (n:Nat) (P:List Part) (Q:List Player) (S:List Scene) (Y Z:D) (hp:P.length≤8) (hs:S.length≤24) (hv:∀p∈P,(signs p.voice).length=1) (cs:List (Option Nat)) (hl:cs.length=P.length) (hc:∀j,some j∈cs→j < Q.length) :
 callF T dfs (n+6) 8 [.tup [.tup (P.map Part.enc),.tup (Q.map Player.enc),.tup (S.map Scene.enc),Y,Z],.lst (cs.map optN)]=.ok (.lst ((faultsV P Q (psV P S) cs).map Flt.enc)):=by
 refine faults_of n P Q S Y Z hp hs hv cs hl hc (psV P S) (λp hx=>?_) ?_ (clashes_of n _ _ _ P S hs hp)
 ·have:=pairsTo_mem (List.mem_filter.mp hx).1
  exact⟨by lia,this.2⟩
 ·have h1:=pairsTo_length P.length P.length
  have h2:=Nat.mul_le_mul hp hp
  exact Nat.le_trans (List.length_filter_le ..) (Nat.le_trans h1 (by lia))
theorem nat_opt (cs:List Nat):natD cs=(cs.map some).map optN:=by unfold natD;rw[List.map_map];rfl
theorem some_at {cs:List Nat} {i:Nat} (h:i < cs.length):(cs.map some).getD i none=some (cA cs i):=by
 unfold cA
 rw[List.getD_eq_getElem?_getD,List.getElem?_map,List.getD_eq_getElem?_getD,List.getElem?_eq_getElem h];rfl
theorem cA_mem {cs:List Nat} {i:Nat} (h:i < cs.length):cA cs i∈cs:=by
 unfold cA
 rw[List.getD_eq_getElem?_getD,List.getElem?_eq_getElem h]
 exact List.getElem_mem h
structure Stage (P:List Part) (Q:List Player) (S:List Scene) (cs:List Nat):Prop where
 hp:P.length≤8
 hq:Q.length≤6
 hs:S.length≤5
 voice:∀p∈P,p.voice = "a" ∧ p.off=0∧p.on=0
 voices:∀q∈Q,q.voices = "ba"
 good:∀s∈S,GoodScene P.length s
 len:cs.length=P.length
 lt:∀j∈cs,j < Q.length
 own:∀s∈S,(s.who.map (cA cs)).Nodup
theorem Stage.one {P:List Part} {Q:List Player} {S:List Scene} {cs:List Nat} (h:Stage P Q S cs):∀p∈P,(signs p.voice).length=1:=λp hp=>by rw[(h.voice p hp).1];rfl
theorem has_ba {p:Part} {q:Player} (h1:p.voice = "a") (h2:q.voices = "ba"):hasV p q=true:=by
 unfold hasV;rw[h1,h2];rfl
theorem inj_of_nodup {f:Nat→Nat}:∀ {l:List Nat},(l.map f).Nodup→∀ {x y:Nat},x∈l→y∈l→f x=f y→x=y
 | a::r,nd,x,y,hx,hy,e=>by
  rw[List.map_cons,List.nodup_cons] at nd
  rcases List.mem_cons.mp hx with h1 | h1<;>rcases List.mem_cons.mp hy with h2 | h2
  ·rw[h1,h2]
  ·exact absurd (List.mem_map.mpr ⟨y,h2,by rw[←e,h1]⟩) nd.1
  ·exact absurd (List.mem_map.mpr ⟨x,h1,by rw[e,h2]⟩) nd.1
  ·exact inj_of_nodup nd.2 h1 h2 e
theorem good_none {P:List Part} {Q:List Player} {S:List Scene} {cs:List Nat} (h:Stage P Q S cs):faultsV P Q (psV P S) (cs.map some)=[]:=by
 unfold faultsV
 rw[List.append_eq_nil_iff]
 constructor
 ·rw[List.filterMap_eq_nil_iff]
  intro k hk
  rw[List.length_map] at hk
  have hk:=List.mem_range.mp hk
  unfold faultP
  rw[some_at hk]
  have hj:=h.lt _ (cA_mem hk)
  have:mayB P Q k (cA cs k)=true:=by
   rw[mayB_at (by rw[←h.len];exact hk) hj]
   exact has_ba (h.voice _ (List.getElem_mem _)).1 (h.voices _ (List.getElem_mem _))
  simp[this]
 ·rw[List.map_eq_nil_iff,List.filter_eq_nil_iff]
  intro p hp
  obtain⟨h1,h2⟩:=List.mem_filter.mp hp
  have hlt:=pairsTo_mem h1
  rw[calm_reason (λs hs=>⟨(h.good s hs).len,(h.good s hs).pause⟩) (λq hq=>(h.voice q hq).2)] at h2
  obtain⟨s,hs,hw⟩:=List.any_eq_true.mp h2
  rw[Bool.and_eq_true,decide_eq_true_eq,decide_eq_true_eq] at hw
  unfold oneB
  rw[some_at (by rw[h.len];lia),some_at (by rw[h.len];lia)]
  intro hz
  simp at hz
  have:=inj_of_nodup (h.own s hs) hw.1 hw.2 hz
  lia
theorem ask_ok (n:Nat) (b c:D) (h:callF T dfs (n+6) 8 [b,c]=.ok (.lst [])):callF T dfs (n+7) 9 [b,c]=.ok .non:=by
 refine callF_nx (e:=[.v b,.v c]) rfl rfl rfl ?_
 have q:D.cmp .NotEq (.lst []) (.lst [])=.ok (.bl false):=rfl
 simp[b_ask_that_it_plays,h,q]
theorem len_scenes {S:List Scene}:Bt.run .len [.tup (S.map Scene.enc)]=.ok (.int (S.length:Nat)):=by
 show Res.ok (D.int ((S.map Scene.enc).length:Nat))=_
 rw[List.length_map]
theorem len_players {Q:List Player}:Bt.run .len [.tup (Q.map Player.enc)]=.ok (.int (Q.length:Nat)):=by
 show Res.ok (D.int ((Q.map Player.enc).length:Nat))=_
 rw[List.length_map]
noncomputable abbrev bkS (P:List Part) (Q:List Player) (S:List Scene) (L:D) (cv:List (Nat×Nat)):D:=.tup [.tup (P.map Part.enc),.tup (Q.map Player.enc),.tup (S.map Scene.enc),L,.tup (cv.map prD)]
noncomputable def kindAt (S:List Scene) (cv:List (Nat×Nat)) (cs aw:List Nat) (k:Nat):Str:=((S[k]?).map λs=>kindV (gapsV cs aw s) (coverV cv cs aw s)).getD ""
noncomputable def CovOk (cv:List (Nat×Nat)) (Q:List Player):Prop:=cv.length≤49∧∀x∈cv,x.2 < Q.length
section
variable {P:List Part} {Q:List Player} {S:List Scene} {cs:List Nat} {L:D} {cv:List (Nat×Nat)}
theorem plays (st:Stage P Q S cs) (n:Nat):callF T dfs (n+7) 9 [bkS P Q S L cv,.lst (natD cs)]=.ok .non:=by
 have hs5:=st.hs
 refine ask_ok n _ _ ?_
 have f:=faults_are n P Q S L (.tup (cv.map prD)) st.hp (by lia) st.one (cs.map some) (by rw[List.length_map];exact st.len) (λj hj=>by
  obtain⟨y,hy,e⟩:=List.mem_map.mp hj
  cases e
  exact st.lt _ hy)
 rw[good_none st,←nat_opt] at f
 exact f
theorem told_at (st:Stage P Q S cs) (hc:CovOk cv Q) {A:D} {aw:List Nat} (hA:AwayD A aw) (m:Nat) {k:Nat} (hk:k < S.length):∃x,callF T dfs (m+8) 13 [bkS P Q S L cv,.lst (natD cs),A,.int (k:Int)]=.ok (.tup (.str (kindAt S cv cs aw k)::x)):=by
 have:=scene_told m (.tup (P.map Part.enc)) (.tup (Q.map Player.enc)) L S cv hc.1 Q.length st.hq hc.2 cs aw A hA (λs hs=>by rw[st.len];exact st.good s hs) (by rw[st.len];exact st.hp) k hk
 unfold kindAt
 rw[List.getElem?_eq_getElem hk]
 exact this
theorem night_of (st:Stage P Q S cs) (hc:CovOk cv Q) {A:D} {aw:List Nat} (hA:AwayD A aw) (m:Nat):∃X:Nat→List D,callF T dfs (m+9) 14 [bkS P Q S L cv,.lst (natD cs),A]=.ok (.lst ((List.range S.length).map λk=>.tup (.str (kindAt S cv cs aw k)::X k))):=by
 have hb:=ten_big
 have hs5:=st.hs
 have ha:=plays (L:=L) (cv:=cv) st (m+1)
 have ex:∀k,∃x,k < S.length→callF T dfs (m+8) 13 [bkS P Q S L cv,.lst (natD cs),A,.int (k:Int)]=.ok (.tup (.str (kindAt S cv cs aw k)::x)):=λk=>by
  by_cases hk:k < S.length
  ·obtain⟨x,e⟩:=told_at (L:=L) st hc hA m hk
   exact⟨x,λ_=>e⟩
  ·exact⟨[],λz=>absurd z hk⟩
 refine⟨λk=>(ex k).choose,callF_rt (k:=true) rfl rfl rfl ?_⟩
 have hX:∀k,k < S.length→callF T dfs (m+8) 13 [bkS P Q S L cv,.lst (natD cs),A,.int (k:Int)]=.ok (.tup (.str (kindAt S cv cs aw k)::(ex k).choose)):=λk hk=>(ex k).choose_spec hk
 have c1:compL (compF T (callF T dfs (m+8)) 1 [0,1,2] (.one 0) e_night_of_1 (.con (.bl true)) [.v (bkS P Q S L cv),.v (.lst (natD cs)),.v A]) ((List.range S.length).map natI)=.ok ((List.range S.length).map λk=>.tup (.str (kindAt S cv cs aw k)::(ex k).choose)):=by
  rw[compL_enc natI (λ(k:Nat)=>some (D.tup (.str (kindAt S cv cs aw k)::(ex k).choose))) (λk hk=>by
   have e:=hX k (List.mem_range.mp hk)
   generalize D.tup (.str (kindAt S cv cs aw k)::(ex k).choose)=out at e ⊢
   generalize bkS P Q S L cv=BK at e ⊢
   generalize D.lst (natD cs)=nc at e ⊢
   simp[compF,Tr.compEnv,e_night_of_1,natI,e]),List.filterMap_eq_map']
 have rg:=rng_nat (n:=S.length) (by lia)
 have ln:=len_scenes (S:=S)
 have l1:((List.range S.length).map natI).length≤big:=by rw[List.length_map,List.length_range];lia
 clear hX
 generalize (List.range S.length).map (λk=>D.tup (.str (kindAt S cv cs aw k)::(ex k).choose))=out at *
 simp only[bkS] at c1 ha ⊢
 generalize S.map Scene.enc=se at *
 generalize (List.range S.length).map natI=rr at *
 generalize natD cs=nc at *
 simp[b_night_of,ha,ln,rg,l1,c1]
theorem kinds (st:Stage P Q S cs) (hc:CovOk cv Q) {A:D} {aw:List Nat} (hA:AwayD A aw) (m:Nat):callF T dfs (m+10) 30 [bkS P Q S L cv,.lst (natD cs),A]=.ok (.lst ((List.range S.length).map λk=>D.str (kindAt S cv cs aw k))):=by
 have hb:=ten_big
 have hs5:=st.hs
 obtain⟨X,e⟩:=night_of (L:=L) st hc hA m
 refine callF_rt (k:=true) rfl rfl rfl ?_
 have c1:∀env,compL (compF T (callF T dfs (m+9)) 1 [] (.one 0) e_kinds_1 (.con (.bl true)) env) ((List.range S.length).map λk=>.tup (.str (kindAt S cv cs aw k)::X k))=.ok ((List.range S.length).map λk=>D.str (kindAt S cv cs aw k)):=λenv=>by
  rw[compL_enc (λk=>.tup (.str (kindAt S cv cs aw k)::X k)) (λk=>some (D.str (kindAt S cv cs aw k))) (λk _=>by simp[compF,Tr.compEnv,e_kinds_1]),List.filterMap_eq_map']
 have l1:((List.range S.length).map λk=>D.tup (.str (kindAt S cv cs aw k)::X k)).length≤big:=by rw[List.length_map,List.length_range];lia
 generalize ((List.range S.length).map λk=>D.tup (.str (kindAt S cv cs aw k)::X k))=nn at *
 generalize ((List.range S.length).map λk=>D.str (kindAt S cv cs aw k))=kk at *
 simp only[bkS] at e ⊢
 generalize natD cs=nc at *
 simp[b_law_kinds,e,l1,c1]
end
theorem no_worse (m n:Nat) (hn:n≤9) (f g:Nat→Str) (h:∀k,k < n→f k = "covered" → g k = "covered"):callF T dfs (m+1) 31 [.lst ((List.range n).map λk=>D.str (f k)),.lst ((List.range n).map λk=>D.str (g k))]=.ok (.bl true):=by
 have hb:=ten_big
 refine callF_rt (k:=false) rfl rfl rfl ?_
 have ln:Bt.run .len [.lst ((List.range n).map λk=>D.str (f k))]=.ok (.int (n:Nat)):=by
  show Res.ok (D.int (((List.range n).map λk=>D.str (f k)).length:Nat))=_
  rw[List.length_map,List.length_range]
 have rg:=rng_nat (n:=n) (by lia)
 have ixf:∀(f:Nat→Str) k,k < n→D.ix (.lst ((List.range n).map λk=>D.str (f k))) (.int (k:Int))=.ok (.str (f k)):=λf k hk=>ix_l (by rw[List.getElem?_map,List.getElem?_range hk];rfl)
 have c1:compL (compF T (callF T dfs m) 1 [0,1] (.one 0) e_no_worse_2 c_no_worse_1 [.v (.lst ((List.range n).map λk=>D.str (f k))),.v (.lst ((List.range n).map λk=>D.str (g k)))]) ((List.range n).map natI)=.ok []:=by
  rw[compL_enc natI (λ_=>none) (λk hk=>by
   have hk:=List.mem_range.mp hk
   have e1:=ixf f k hk
   have e2:=ixf g k hk
   have q1:=cmp_eq_str (f k) "covered"
   have q2:D.cmp .NotEq (.str (g k)) (.str "covered")=.ok (.bl (!(g k == "covered"))):=rfl
   by_cases z:f k = "covered"
   ·rw[show (f k==("covered" : Str))=true by rw[z];simp] at q1
    rw[show (g k==("covered" : Str))=true by rw[h k hk z];simp] at q2
    generalize (List.range n).map (λk=>D.str (f k))=ff at *
    generalize (List.range n).map (λk=>D.str (g k))=gg at *
    simp[compF,Tr.compEnv,e_no_worse_2,c_no_worse_1,natI,e1,e2,q1,q2]
   ·rw[show (f k==("covered" : Str))=false by simpa using z] at q1
    generalize (List.range n).map (λk=>D.str (f k))=ff at *
    generalize (List.range n).map (λk=>D.str (g k))=gg at *
    simp[compF,Tr.compEnv,e_no_worse_2,c_no_worse_1,natI,e1,q1])]
  simp
 have l1:((List.range n).map natI).length≤big:=by rw[List.length_map,List.length_range];lia
 have q:D.cmp .Eq (.lst []) (.lst [])=.ok (.bl true):=rfl
 generalize (List.range n).map (λk=>D.str (f k))=ff at *
 generalize (List.range n).map (λk=>D.str (g k))=gg at *
 generalize (List.range n).map natI=rr at *
 simp[b_law_no_worse,ln,rg,l1,c1,q]
theorem mem_cover {cv:List (Nat×Nat)} {cs aw:List Nat} {s:Scene} {g p:Nat}:p∈coverV cv cs aw s g↔(g,p)∈cv∧p∉aw∧p∉busyV cs s:=by
 unfold coverV
 rw[List.mem_filter,sortN_mem,List.mem_map]
 constructor
 ·rintro⟨⟨x,hx,rfl⟩,h2⟩
  obtain⟨h3,h4⟩:=List.mem_filter.mp hx
  have h4:x.1=g:=by simpa using h4
  rw[←h4]
  simp at h2
  exact⟨h3,h2⟩
 ·rintro⟨h1,h2⟩
  exact⟨⟨(g,p),List.mem_filter.mpr ⟨h1,by simp⟩,rfl⟩,by simpa using h2⟩
theorem full_mono {cv cv':List (Nat×Nat)} {cs aw aw':List Nat} {s:Scene} (hc:∀x∈cv,x∈cv') (ha:∀j∈aw',j∈aw) (h:Full (gapsV cs aw s) (coverV cv cs aw s)):Full (gapsV cs aw' s) (coverV cv' cs aw' s):=by
 refine h.of (λg hg=>?_) (λg _ p hp=>?_)
 ·obtain⟨h1,h2⟩:=List.mem_filter.mp hg
  exact List.mem_filter.mpr ⟨h1,decide_eq_true (ha _ (of_decide_eq_true h2))⟩
 ·obtain⟨h1,h2,h3⟩:=mem_cover.mp hp
  exact mem_cover.mpr ⟨hc _ h1,λz=>h2 (ha _ z),h3⟩
theorem kind_two (G:List Nat) (ch:Nat→List Nat):kindV G ch = "covered" ∨ kindV G ch = "lacks" := by
 by_cases h:Full G ch
 ·exact .inl (kind_of h)
 ·exact .inr (kind_no h)
theorem kind_full {G:List Nat} {ch:Nat→List Nat} (h:kindV G ch = "covered"):Full G ch:=by
 by_cases z:Full G ch
 ·exact z
 ·rw[kind_no z] at h
  exact absurd h (by decide)
theorem at_two {S:List Scene} {cv:List (Nat×Nat)} {cs aw:List Nat} {k:Nat} (hk:k < S.length):kindAt S cv cs aw k = "covered" ∨ kindAt S cv cs aw k = "lacks" := by
 unfold kindAt
 rw[List.getElem?_eq_getElem hk]
 exact kind_two _ _
theorem kind_mono {S:List Scene} {cv cv':List (Nat×Nat)} {cs aw aw':List Nat} (hc:∀x∈cv,x∈cv') (ha:∀j∈aw',j∈aw) {k:Nat} (hk:k < S.length) (h:kindAt S cv cs aw k = "covered"):kindAt S cv' cs aw' k = "covered" := by
 unfold kindAt at h ⊢
 rw[List.getElem?_eq_getElem hk] at h ⊢
 exact kind_of (full_mono hc ha (kind_full h))
theorem kind_none {S:List Scene} {cv:List (Nat×Nat)} {cs:List Nat} {k:Nat} (hk:k < S.length):kindAt S cv cs [] k = "covered" := by
 unfold kindAt
 rw[List.getElem?_eq_getElem hk]
 refine kind_of ⟨λ_=>0,λg hg=>?_,λg hg=>?_⟩ <;>
  exact absurd (of_decide_eq_true (List.mem_filter.mp hg).2) (List.not_mem_nil)
open Classical in
noncomputable def lackV (S:List Scene) (cv:List (Nat×Nat)) (cs aw:List Nat):Option Nat:=(List.range S.length).find? λk=>decide (kindAt S cv cs aw k = "lacks")
theorem lack_mono {S:List Scene} {cv:List (Nat×Nat)} {cs aw aw':List Nat} (ha:∀j∈aw',j∈aw) :
 (lackV S cv cs aw=none→lackV S cv cs aw'=none)∧∀i j,lackV S cv cs aw=some i→lackV S cv cs aw'=some j→i≤j:=by
 have imp:∀k,k < S.length→kindAt S cv cs aw' k = "lacks" → kindAt S cv cs aw k = "lacks" := λk hk h=>by
  rcases at_two (cv:=cv) (cs:=cs) (aw:=aw) hk with z | z
  ·rw[kind_mono (λ_ h=>h) ha hk z] at h
   exact absurd h (by decide)
  ·exact z
 unfold lackV
 constructor
 ·intro h
  rw[List.find?_eq_none] at h ⊢
  intro k hk z
  exact h k hk (decide_eq_true (imp k (List.mem_range.mp hk) (of_decide_eq_true z)))
 ·intro i j hi hj
  have h1:=List.mem_of_find?_eq_some hj
  have h2:=List.find?_some hj
  rw[List.find?_range_eq_some] at hi
  apply Classical.byContradiction
  intro z
  have:=hi.2.2 j (by lia)
  rw[decide_eq_true (imp j (List.mem_range.mp h1) (of_decide_eq_true h2))] at this
  cases this
section
variable {P:List Part} {Q:List Player} {S:List Scene} {cs:List Nat} {L:D} {cv:List (Nat×Nat)}
open Classical in
theorem lack_loop (st:Stage P Q S cs) (hc:CovOk cv Q) {A:D} {aw:List Nat} (hA:AwayD A aw) (m:Nat):∀(ks:List Nat) (x:Sl),(∀k∈ks,k < S.length) →
 ∃y,forL (bodyF T (callF T dfs (m+8)) (.one 3) b_first_lacking_1) (ks.map natI) [.v (bkS P Q S L cv),.v (.lst (natD cs)),.v A,x]=.ok (match ks.find? λk=>decide (kindAt S cv cs aw k = "lacks") with
  | some k=>.rt (.int (k:Int)) false
  | none=>.nx [.v (bkS P Q S L cv),.v (.lst (natD cs)),.v A,y])
 | [],x,_=>⟨x,rfl⟩
 | k::r,x,h=>by
  have hk:=h k List.mem_cons_self
  obtain⟨z,e⟩:=told_at (L:=L) st hc hA m hk
  obtain⟨y,ih⟩:=lack_loop st hc hA m r (.v (.int (k:Int))) λq hq=>h q (List.mem_cons_of_mem _ hq)
  refine⟨y,?_⟩
  rw[List.find?_cons]
  rcases at_two (cv:=cv) (cs:=cs) (aw:=aw) hk with w | w
  ·rw[w] at e
   have body:bodyF T (callF T dfs (m+8)) (.one 3) b_first_lacking_1 (natI k) [.v (bkS P Q S L cv),.v (.lst (natD cs)),.v A,x]=.ok (.nx [.v (bkS P Q S L cv),.v (.lst (natD cs)),.v A,.v (.int (k:Int))]):=by
    generalize bkS P Q S L cv=BK at e ⊢
    generalize D.lst (natD cs)=nc at e ⊢
    have q1:D.cmp .Eq (.str "covered") (.str "lacks")=.ok (.bl false):=rfl
    simp[bodyF,b_first_lacking_1,natI,e,q1]
   rw[List.map_cons,forL_nx body,ih,decide_eq_false (by rw[w];decide)]
  ·rw[w] at e
   have body:bodyF T (callF T dfs (m+8)) (.one 3) b_first_lacking_1 (natI k) [.v (bkS P Q S L cv),.v (.lst (natD cs)),.v A,x]=.ok (.rt (.int (k:Int)) false):=by
    generalize bkS P Q S L cv=BK at e ⊢
    generalize D.lst (natD cs)=nc at e ⊢
    have q1:D.cmp .Eq (.str "lacks") (.str "lacks")=.ok (.bl true):=rfl
    simp[bodyF,b_first_lacking_1,natI,e,q1]
   rw[List.map_cons,forL_rt body,decide_eq_true w]
theorem first_lacking (st:Stage P Q S cs) (hc:CovOk cv Q) {A:D} {aw:List Nat} (hA:AwayD A aw) (m:Nat):callF T dfs (m+9) 15 [bkS P Q S L cv,.lst (natD cs),A]=.ok (optN (lackV S cv cs aw)):=by
 have hs5:=st.hs
 obtain⟨y,h1⟩:=lack_loop (L:=L) st hc hA m (List.range S.length) .no λk hk=>List.mem_range.mp hk
 have rg:=rng_nat (n:=S.length) (by lia)
 have ln:=len_scenes (S:=S)
 unfold lackV
 refine callF_rt (k:=false) rfl rfl rfl ?_
 generalize List.find? _ (List.range S.length)=fo at *
 simp only[bkS] at h1 ⊢
 generalize S.map Scene.enc=se at *
 generalize (List.range S.length).map natI=rr at *
 generalize natD cs=nc at *
 cases fo<;>simp[b_first_lacking,ln,rg,h1,optN]
end
noncomputable def stV:List Nat→Nat
 | []=>0
 | p::_=>p+1
noncomputable def longerV (many:Nat) (a:List Nat):List (List Nat):=(List.range' (stV a) (many - stV a)).map λq=>a++[q]
noncomputable def tN (t:List Nat):D:=.tup (natD t)
theorem add_tN:∀ {a:List Nat} (q:Nat),a.length≤1→D.bin .Add (tN a) (.tup [.int (q:Int)])=.ok (tN (a++[q]))
 | [],_,_=>rfl
 | [_],_,_=>rfl
theorem longer_len (many:Nat) (a:List Nat):(longerV many a).length≤many:=by
 unfold longerV
 rw[List.length_map,List.length_range'];lia
theorem longer_body (n many:Nat) (hm:many≤6) {a:List Nat} (h1:a.length≤1) (hs:∀p∈a,p < 100) (L:D) (acc:List D) (ha:acc.length≤900) (x y:Sl) :
 bodyF T (callF T dfs n) (.one 3) b_one_longer_2 (tN a) [.v L,.v (.int (many:Int)),.o (.lst acc),x,y]=.ok (.nx [.v L,.v (.int (many:Int)),.o (.lst (acc++(longerV many a).map tN)),.v (tN a),.v (.int (stV a:Int))]):=by
 have hb:=ten_big
 have hst:stV a < 1000:=by
  cases a with
  | nil=>exact (by decide:0 < 1000)
  | cons p r=>have:=hs p List.mem_cons_self;show p+1 < 1000;lia
 have rg:rng2R (.int (stV a:Int)) (.int (many:Int))=.ok ((List.range' (stV a) (many - stV a)).map natI):=by
  rw[rng2_ok (by lia) (by lia),rangeD_nat]
 have c1:∀a0 a1 a2 a4,compL (compF T (callF T dfs n) 1 [3] (.one 0) e_one_longer_1 (.con (.bl true)) [a0,a1,a2,.v (tN a),a4]) ((List.range' (stV a) (many - stV a)).map natI)=.ok ((longerV many a).map tN):=λa0 a1 a2 a4=>by
  unfold longerV
  rw[compL_enc natI (λ(p:Nat)=>some (tN (a++[p]))) (λp _=>by
   have ad:=add_tN p h1
   generalize tN a=t at *
   simp[compF,Tr.compEnv,e_one_longer_1,natI,ad]),List.filterMap_eq_map',List.map_map]
  rfl
 have l1:((List.range' (stV a) (many - stV a)).map natI).length≤big:=by rw[List.length_map,List.length_range'];lia
 have l2:acc.length+((longerV many a).map tN).length≤big:=by have:=longer_len many a;rw[List.length_map];lia
 generalize (longerV many a).map tN=z at c1 l2 ⊢
 generalize (List.range' (stV a) (many - stV a)).map natI=rr at rg c1 l1
 have two:a=[]∨∃p,a=[p]:=by
  cases a with
  | nil=>exact .inl rfl
  | cons p r =>
   cases r with
   | nil=>exact .inr ⟨p,rfl⟩
   | cons q s=>exact absurd h1 (by rw[List.length_cons,List.length_cons];lia)
 rcases two with rfl | ⟨p,rfl⟩
 ·have tr:(tN []).truth=.ok false:=rfl
  rw[show ((stV []:Nat):Int)=0 from rfl] at rg ⊢
  generalize tN []=t at *
  simp[bodyF,b_one_longer_2,tr,rg,c1,l1,l2]
 ·have tr:(tN [p]).truth=.ok true:=rfl
  have ix:D.ix (tN [p]) (.int (-1))=.ok (.int (p:Int)):=rfl
  rw[show ((stV [p]:Nat):Int)=(p:Int)+1 from rfl] at rg ⊢
  have hp:=hs p List.mem_cons_self
  have ad:D.bin .Add (.int (p:Int)) (.int 1)=.ok (.int ((p:Int)+1)):=rfl
  generalize tN [p]=t at *
  simp[bodyF,b_one_longer_2,tr,ix,ad,rg,c1,l1,l2]
theorem longer_loop (n many:Nat) (hm:many≤6) (L:D):∀(zs:List (List Nat)) (acc:List D) (x y:Sl),(∀a∈zs,a.length≤1∧∀p∈a,p < 100)→acc.length+zs.length*6≤900 →
 ∃x' y',forL (bodyF T (callF T dfs n) (.one 3) b_one_longer_2) (zs.map tN) [.v L,.v (.int (many:Int)),.o (.lst acc),x,y]=.ok (.nx [.v L,.v (.int (many:Int)),.o (.lst (acc++(zs.flatMap (longerV many)).map tN)),x',y'])
 | [],acc,x,y,_,_=>⟨x,y,by rw[List.flatMap_nil,List.map_nil,List.append_nil];rfl⟩
 | a::r,acc,x,y,h,hl=>by
  have h0:=h a List.mem_cons_self
  have ll:=longer_len many a
  rw[List.length_cons] at hl
  obtain⟨x',y',ih⟩:=longer_loop n many hm L r (acc++(longerV many a).map tN) (.v (tN a)) (.v (.int (stV a:Int))) (λb hb=>h b (List.mem_cons_of_mem _ hb)) (by rw[List.length_append,List.length_map];lia)
  refine⟨x',y',?_⟩
  rw[List.map_cons,forL_nx (longer_body n many hm h0.1 h0.2 L acc (by lia) x y),ih,List.flatMap_cons,List.map_append,List.append_assoc]
theorem one_longer (n many:Nat) (hm:many≤6) (zs:List (List Nat)) (h:∀a∈zs,a.length≤1∧∀p∈a,p < 100) (hl:zs.length≤100):callF T dfs (n+1) 16 [.lst (zs.map tN),.int (many:Int)]=.ok (.lst ((zs.flatMap (longerV many)).map tN)):=by
 have hb:=ten_big
 obtain⟨x',y',lo⟩:=longer_loop n many hm (.lst (zs.map tN)) zs [] .no .no h (by rw[List.length_nil];lia)
 rw[List.nil_append] at lo
 have l1:(zs.map tN).length≤big:=by rw[List.length_map];lia
 refine callF_rt (k:=true) rfl rfl rfl ?_
 generalize (zs.flatMap (longerV many)).map tN=z at *
 generalize zs.map tN=z2 at *
 simp[b_one_longer,lo,l1]
theorem flat_tN:∀zs:List (List Nat),D.flatL (.lst (zs.map tN))=true:=λzs=>by
 show D.flats _=true
 induction zs with
 | nil=>rfl
 | cons a r ih =>
  rw[List.map_cons,D.flats,ih,Bool.and_true]
  show D.flats (natD a)=true
  induction a with
  | nil=>rfl
  | cons x s ih2 =>
   show D.flats (.int (x:Int)::natD s)=true
   rw[D.flats,ih2];rfl
theorem exS_asgN {cf:Nat→List D→Res D} {e:Nv} {i:Nat} {x:E}:exS T cf (.asgN i x) e=(do let d ←evE T cf x e;when (newE T x e&&(d.isNon||d.flatL)) (.ok (.nx (e.set i (.n d))))):=id rfl
noncomputable def onesV (many:Nat):List (List Nat):=longerV many []
noncomputable def setsV (many:Nat):List (List Nat):=[]::(onesV many++(onesV many).flatMap (longerV many))
theorem sets_up_to (n many:Nat) (hm:many≤6):callF T dfs (n+2) 17 [.int (many:Int),.int 2]=.ok (.lst ((setsV many).map tN)):=by
 have hb:=ten_big
 have o1:∀a∈onesV many,a.length≤1∧∀p∈a,p < 100:=λa ha=>by
  obtain⟨q,hq,rfl⟩:=List.mem_map.mp ha
  have hq:=(List.mem_range'_1.mp hq).2
  refine⟨Nat.le_refl _,λp hp=>?_⟩
  have:=List.mem_singleton.mp hp
  have h0:stV []=0:=rfl
  lia
 have lo:=longer_len many []
 have lt:∀zs:List (List Nat),(zs.flatMap (longerV many)).length≤zs.length*6:=λzs=>by
  induction zs with
  | nil=>exact Nat.zero_le _
  | cons a r ih=>have:=longer_len many a;rw[List.flatMap_cons,List.length_append,List.length_cons];lia
 have l2:=lt (onesV many)
 have ho:(onesV many).length≤many:=lo
 have e1:=one_longer n many hm [[]] (λa ha=>by rw[List.mem_singleton.mp ha];exact⟨Nat.zero_le _,λp hp=>by cases hp⟩) (by decide)
 rw[List.flatMap_cons,List.flatMap_nil,List.append_nil] at e1
 have e2:=one_longer n many hm (onesV many) o1 (by lia)
 have f1:=flat_tN (onesV many)
 have f2:=flat_tN ((onesV many).flatMap (longerV many))
 have q1:((onesV many).map tN).length≤100:=by rw[List.length_map];lia
 have q2:(((onesV many).flatMap (longerV many)).map tN).length≤100:=by rw[List.length_map];lia
 refine callF_rt (k:=true) rfl rfl rfl ?_
 rw[show (setsV many).map tN=.tup []::((onesV many).map tN++((onesV many).flatMap (longerV many)).map tN) by unfold setsV;rw[List.map_cons,List.map_append];rfl]
 rw[show longerV many []=onesV many from rfl] at e1
 rw[show ([[]]:List (List Nat)).map tN=[.tup []] from rfl] at e1
 generalize (onesV many).map tN=z1 at *
 generalize ((onesV many).flatMap (longerV many)).map tN=z2 at *
 have s1:exS T (callF T dfs (n+1)) (.asgN 2 (.lst (.acons (.tup .anil) .anil))) [.v (.int (many:Int)),.v (.int 2),.no,.no,.no]=.ok (.nx [.v (.int (many:Int)),.v (.int 2),.n (.lst [.tup []]),.no,.no]):=by
  rw[exS_asgN]
  simp
  rfl
 have s2:∀(a b:List D) (f:List D) (i:Sl),callF T dfs (n+1) 16 [.lst a,.int (many:Int)]=.ok (.lst b)→D.flatL (.lst b)=true→exS T (callF T dfs (n+1)) (.asgN 2 (.call 16 (.acons (.var 2) (.acons (.var 0) .anil)))) [.v (.int (many:Int)),.v (.int 2),.n (.lst a),.o (.lst f),i]=.ok (.nx [.v (.int (many:Int)),.v (.int 2),.n (.lst b),.o (.lst f),i]):=λa b f i he fl=>by
  rw[exS_asgN]
  have nv:(Sl.n (.lst a)).val=.ok (.lst a):=rfl
  simp[nv,he]
  rw[when_of (by rw[fl,Bool.or_true,Bool.and_true];rfl)]
 have s3:∀(b f:List D) (i:Sl),f.length+b.length≤1000→exS T (callF T dfs (n+1)) (.extN 3 2) [.v (.int (many:Int)),.v (.int 2),.n (.lst b),.o (.lst f),i]=.ok (.nx [.v (.int (many:Int)),.v (.int 2),.n (.lst b),.o (.lst (f++b)),i]):=λb f i hl=>by
  rw[xS_extN]
  show (do let a ←Sl.own (.o (.lst f));when (decide (a.length+b.length≤big)) (Res.ok (Out.nx _)))=_
  show when (decide (f.length+b.length≤big)) _=_
  rw[when_of (decide_eq_true (by lia))];rfl
 have rg:rngR (.int 2)=.ok [.int 0,.int 1]:=rfl
 have body:∀(a b f:List D) (i:Int) (x:Sl),callF T dfs (n+1) 16 [.lst a,.int (many:Int)]=.ok (.lst b)→D.flatL (.lst b)=true→f.length+b.length≤1000→bodyF T (callF T dfs (n+1)) (.one 4) b_sets_up_to_1 (.int i) [.v (.int (many:Int)),.v (.int 2),.n (.lst a),.o (.lst f),x]=.ok (.nx [.v (.int (many:Int)),.v (.int 2),.n (.lst b),.o (.lst (f++b)),.v (.int i)]):=λa b f i x h1 h2 h3=>by
  have t2:=λi=>s2 a b f i h1 h2
  have t3:=λi=>s3 b f i h3
  simp[bodyF,b_sets_up_to_1,t2,t3]
 have lo:forL (bodyF T (callF T dfs (n+1)) (.one 4) b_sets_up_to_1) [.int 0,.int 1] [.v (.int (many:Int)),.v (.int 2),.n (.lst [.tup []]),.o (.lst [.tup []]),.no]=.ok (.nx [.v (.int (many:Int)),.v (.int 2),.n (.lst z2),.o (.lst (.tup []::(z1++z2))),.v (.int 1)]):=by
  rw[forL_nx (body [D.tup []] z1 [D.tup []] 0 .no e1 f1 (by rw[List.length_cons,List.length_nil];lia)),forL_nx (body z1 z2 ([D.tup []]++z1) 1 (.v (.int 0)) e2 f2 (by rw[List.length_append,List.length_cons,List.length_nil];lia))]
  rw[List.append_assoc];rfl
 simp[b_sets_up_to,s1,rg,lo]
theorem mem_sets {many:Nat} {a:List Nat} (h:a∈setsV many):a=[]∨(∃p,p < many∧a=[p])∨∃p q,p < many∧q < many∧a=[p,q]:=by
 have h0:stV []=0:=rfl
 rcases List.mem_cons.mp h with h | h
 ·exact .inl h
 ·have one:∀a,a∈onesV many→∃p,p < many∧a=[p]:=λa h=>by
   obtain⟨q,hq,rfl⟩:=List.mem_map.mp h
   have:=(List.mem_range'_1.mp hq).2
   exact⟨q,by lia,rfl⟩
  rcases List.mem_append.mp h with h | h
  ·exact .inr (.inl (one a h))
  ·obtain⟨b,hb,h⟩:=List.mem_flatMap.mp h
   obtain⟨p,hp,rfl⟩:=one b hb
   obtain⟨q,hq,rfl⟩:=List.mem_map.mp h
   have:=(List.mem_range'_1.mp hq).2
   have h1:stV [p]=p+1:=rfl
   exact .inr (.inr ⟨p,q,hp,by lia,rfl⟩)
theorem one_sets {many p:Nat} (h:p < many):[p]∈setsV many:=List.mem_cons_of_mem _ (List.mem_append_left _ (List.mem_map.mpr ⟨p,List.mem_range'_1.mpr ⟨Nat.zero_le _,by have h0:stV []=0:=rfl;lia⟩,rfl⟩))
theorem sets_len {many:Nat} (h:many≤6):(setsV many).length≤100:=by
 have lt:∀zs:List (List Nat),(zs.flatMap (longerV many)).length≤zs.length*6:=λzs=>by
  induction zs with
  | nil=>exact Nat.zero_le _
  | cons a r ih=>have:=longer_len many a;rw[List.flatMap_cons,List.length_append,List.length_cons];lia
 have l1:=longer_len many []
 have l2:=lt (onesV many)
 have l3:(onesV many).length=(longerV many []).length:=rfl
 unfold setsV
 rw[List.length_cons,List.length_append];lia
section
variable {P:List Part} {Q:List Player} {S:List Scene} {cs:List Nat} {L:D} {cv:List (Nat×Nat)}
theorem nights_of (st:Stage P Q S cs) (hc:CovOk cv Q) (m:Nat):callF T dfs (m+10) 18 [bkS P Q S L cv,.lst (natD cs),.int 2]=.ok (.lst ((setsV Q.length).map λa=>.tup [tN a,optN (lackV S cv cs a)])):=by
 have hb:=ten_big
 have ha:=plays (L:=L) (cv:=cv) st (m+2)
 have e1:=sets_up_to (m+7) Q.length st.hq
 have ll:(setsV Q.length).length≤100:=sets_len st.hq
 have c1:compL (compF T (callF T dfs (m+9)) 1 [0,1] (.one 0) e_nights_of_1 (.con (.bl true)) [.v (bkS P Q S L cv),.v (.lst (natD cs)),.v (.int 2)]) ((setsV Q.length).map tN)=.ok ((setsV Q.length).map λa=>.tup [tN a,optN (lackV S cv cs a)]):=by
  rw[compL_enc tN (λa=>some (D.tup [tN a,optN (lackV S cv cs a)])) (λa _=>by
   have e:callF T dfs (m+9) 15 [bkS P Q S L cv,.lst (natD cs),tN a]=.ok (optN (lackV S cv cs a)):=first_lacking (L:=L) st hc (away_tup a) m
   generalize optN (lackV S cv cs a)=o at *
   generalize bkS P Q S L cv=BK at e ⊢
   generalize D.lst (natD cs)=nc at e ⊢
   generalize tN a=t at *
   simp[compF,Tr.compEnv,e_nights_of_1,e]),List.filterMap_eq_map']
 have lq:=len_players (Q:=Q)
 have l1:((setsV Q.length).map tN).length≤big:=by rw[List.length_map];lia
 refine callF_rt (k:=true) rfl rfl rfl ?_
 generalize (setsV Q.length).map (λa=>D.tup [tN a,optN (lackV S cv cs a)])=out at *
 generalize (setsV Q.length).map tN=zs at *
 simp only[bkS] at c1 ha ⊢
 generalize Q.map Player.enc=qe at *
 generalize natD cs=nc at *
 simp[b_nights_of,ha,lq,e1,l1,c1]
end
noncomputable def keyW (k:List Nat):List (Sum Int Str):=k.map λ(i:Nat)=>Sum.inl (i:Int)
theorem keyW_inj:∀ {a b:List Nat},keyW a=keyW b→a=b
 | [],[],_=>rfl
 | [],b::s,h=>nomatch h
 | a::r,[],h=>nomatch h
 | a::r,b::s,h=>by
  injection h with h1 h2
  injection h1 with h1
  rw[Int.ofNat.inj h1,keyW_inj h2]
theorem keysI_nat:∀k:List Nat,keysI (natD k)=some (keyW k)
 | []=>rfl
 | i::k=>by
  show (keysI (natD k)).map _=_
  rw[keysI_nat k];rfl
theorem keyD_nat (k:List Nat):(keyW k).map keyD=natD k:=by
 unfold keyW natD
 rw[List.map_map];rfl
theorem keyV_nat (k:List Nat):keyV (tN k)=.ok (keyW k):=by
 show Res.of (keysI (natD k))=_
 rw[keysI_nat];rfl
noncomputable def encN (f:List Nat→D) (l:List (List Nat)):List (List (Sum Int Str)×D):=l.map λa=>(keyW a,f a)
theorem find_encN {f:List Nat→D} {k:List Nat}:∀ {l:List (List Nat)},k∈l→valT (encN f l) (keyW k)=some (f k)
 | a::r,h=>by
  unfold valT encN
  rw[List.map_cons,List.find?_cons]
  by_cases z:a=k
  ·subst z
   rw[decide_eq_true rfl];rfl
  ·rw[decide_eq_false (λq=>z (keyW_inj q))]
   exact find_encN ((List.mem_cons.mp h).resolve_left λq=>z q.symm)
theorem put_encN {f:List Nat→D} {k:List Nat} (l:List (List Nat)):∃l',putTD (encN f l) (keyW k) (f k)=encN f l'∧(∀a,a∈l'↔a∈l∨a=k)∧l'.length≤l.length+1:=by
 unfold putTD
 by_cases z:((encN f l).any λkv=>decide (kv.1=keyW k))=true
 ·rw[if_pos z]
  refine⟨l,?_,λa=>⟨.inl,λh=>h.elim id λh=>?_⟩,by lia⟩
  ·unfold encN
   rw[List.map_map]
   refine List.map_congr_left λa _=>?_
   show (if keyW a=keyW k then (keyW a,f k) else (keyW a,f a))=_
   by_cases q:keyW a=keyW k
   ·rw[if_pos q,keyW_inj q]
   ·rw[if_neg q]
  ·subst h
   obtain⟨x,hx,e⟩:=List.any_eq_true.mp z
   obtain⟨b,hb,rfl⟩:=List.mem_map.mp hx
   rw[←keyW_inj (of_decide_eq_true e)];exact hb
 ·rw[if_neg z]
  refine⟨l++[k],by unfold encN;rw[List.map_append];rfl,λa=>by rw[List.mem_append,List.mem_singleton],by rw[List.length_append];exact Nat.le_refl _⟩
theorem ix_encN {f:List Nat→D} {k:List Nat} {l:List (List Nat)} (h:k∈l):D.ix (.tdc (encN f l)) (tN k)=.ok (f k):=by
 show (Res.of (keysI (natD k))>>=λq=>Res.of (valT (encN f l) q))=_
 rw[keysI_nat]
 show Res.of (valT (encN f l) (keyW k))=_
 rw[find_encN h];rfl
theorem dkeys_encN (f:List Nat→D) (l:List (List Nat)):dkeysR (.tdc (encN f l))=.ok (l.map tN):=by
 show Res.ok ((encN f l).map _)=_
 unfold encN
 rw[List.map_map]
 refine congrArg Res.ok (List.map_congr_left λe _=>?_)
 show D.tup ((keyW e).map keyD)=_
 rw[keyD_nat];rfl
section
variable {x0 x1 x2 x3 x4 x5 x6 x7 x8 x9:Sl} {f:List Nat→D}
theorem put_loop (cf:Nat→List D→Res D):∀(zs l:List (List Nat)) (x11 x12 x13 x14:Sl),l.length+zs.length≤900 →
 ∃l' y11 y12,forL (bodyF T cf (.many [11,12]) b_law_6) (zs.map λa=>.tup [tN a,f a]) [x0,x1,x2,x3,x4,x5,x6,x7,x8,x9,.o (.tdc (encN f l)),x11,x12,x13,x14]=.ok (.nx [x0,x1,x2,x3,x4,x5,x6,x7,x8,x9,.o (.tdc (encN f l')),y11,y12,x13,x14])∧(∀a,a∈l'↔a∈l∨a∈zs)∧l'.length≤900
 | [],l,x11,x12,x13,x14,h=>⟨l,x11,x12,rfl,λa=>by simp,by rw[List.length_nil] at h;lia⟩
 | a::r,l,x11,x12,x13,x14,h=>by
  have hb:=ten_big
  rw[List.length_cons] at h
  obtain⟨l1,e1,h1,hl⟩:=put_encN (f:=f) (k:=a) l
  obtain⟨l',y11,y12,ih,h2,h3⟩:=put_loop cf r l1 (.v (tN a)) (.v (f a)) x13 x14 (by lia)
  refine⟨l',y11,y12,?_,λb=>?_,h3⟩
  ·have kv:=keyV_nat a
   have lb:(encN f l).length < big:=by unfold encN;rw[List.length_map];lia
   rw[List.map_cons,←ih]
   refine forL_nx ?_
   rw[←e1]
   generalize encN f l=el at *
   generalize f a=fa at *
   generalize tN a=ta at *
   simp[bodyF,b_law_6,xS_dputV,kv,lb]
  ·rw[h2,h1,List.mem_cons,or_assoc]
end
section
variable {x0 x1 x2 x3 x4 x5 x6 x7 x8 x9 x12:Sl} {f:List Nat→Option Nat} {l:List (List Nat)}
theorem less_body (cf:Nat→List D→Res D) {a b:List Nat} {k:Int} {u v:D} (ha:a∈l) (hb:b∈l) (s1:D.sl (tN a) none (some k)=.ok u) (s2:D.sl (tN a) (some (k+1)) none=.ok v) (s3:D.bin .Add u v=.ok (tN b)) (h1:f a=none→f b=none) (h2:∀i j,f a=some i→f b=some j→i≤j) (x13 x14:Sl) :
 bodyF T cf (.one 13) b_law_7 (.int k) [x0,x1,x2,x3,x4,x5,x6,x7,x8,x9,.v (.tdc (encN (λa=>optN (f a)) l)),.v (tN a),x12,x13,x14]=.ok (.nx [x0,x1,x2,x3,x4,x5,x6,x7,x8,x9,.v (.tdc (encN (λa=>optN (f a)) l)),.v (tN a),x12,.v (.int k),.v (tN b)]):=by
 have i1:=ix_encN (f:=λa=>optN (f a)) ha
 have i2:=ix_encN (f:=λa=>optN (f a)) hb
 have ad:D.bin .Add (.int k) (.int 1)=.ok (.int (k+1)):=rfl
 have p1:D.part (.int k)=.ok (some k):=rfl
 have p2:D.part (.int (k+1))=.ok (some (k+1)):=rfl
 have p3:D.part .non=.ok none:=rfl
 generalize D.tdc (encN (λa=>optN (f a)) l)=DD at *
 generalize tN a=ta at *
 generalize tN b=tb at *
 have n1:D.cmp .Is .non .non=.ok (.bl true):=rfl
 have n2:D.cmp .IsNot .non .non=.ok (.bl false):=rfl
 have n3:∀j:Nat,D.cmp .Is (.int (j:Int)) .non=.ok (.bl false):=λ_=>rfl
 have n4:∀j:Nat,D.cmp .IsNot (.int (j:Int)) .non=.ok (.bl true):=λ_=>rfl
 cases qa:f a with
 | none =>
  rw[qa] at i1
  rw[h1 qa] at i2
  rw[optN_none] at i1 i2
  simp[bodyF,b_law_7,ad,p1,p2,p3,s1,s2,s3,i1,i2,n1,n2]
 | some i =>
  rw[qa] at i1
  cases qb:f b with
  | none =>
   rw[qb] at i2
   rw[optN_none] at i2
   rw[show optN (some i)=.int (i:Int) from rfl] at i1
   simp[bodyF,b_law_7,ad,p1,p2,p3,s1,s2,s3,i1,i2,n1,n2,n3,n4]
  | some j =>
   rw[qb] at i2
   rw[show optN (some j)=.int (j:Int) from rfl] at i2
   rw[show optN (some i)=.int (i:Int) from rfl] at i1
   have le:=h2 i j qa qb
   have lt:D.cmp .Lt (.int (j:Int)) (.int (i:Int))=.ok (.bl false):=by
    show Res.ok (D.bl (decide ((j:Int) < (i:Int))))=_
    rw[decide_eq_false (by lia)]
   simp[bodyF,b_law_7,ad,p1,p2,p3,s1,s2,s3,i1,i2,n1,n2,n3,n4,lt]
theorem less_all (cf:Nat→List D→Res D) {many:Nat} (hl:∀a,a∈l↔a∈setsV many) (hf:∀a b:List Nat,(∀j∈b,j∈a)→(f a=none→f b=none)∧∀i j,f a=some i→f b=some j→i≤j) {a:List Nat} (ha:a∈setsV many) (x11 x13 x14:Sl) :
 ∃y13 y14,bodyF T cf (.one 11) b_law_8 (tN a) [x0,x1,x2,x3,x4,x5,x6,x7,x8,x9,.v (.tdc (encN (λa=>optN (f a)) l)),x11,x12,x13,x14]=.ok (.nx [x0,x1,x2,x3,x4,x5,x6,x7,x8,x9,.v (.tdc (encN (λa=>optN (f a)) l)),.v (tN a),x12,y13,y14]):=by
 have ma:=(hl a).mpr ha
 have m0:[]∈l:=(hl []).mpr List.mem_cons_self
 rcases mem_sets ha with rfl | ⟨p,hp,rfl⟩ | ⟨p,q,hp,hq,rfl⟩
 ·have ln:Bt.run .len [tN []]=.ok (.int 0):=rfl
  have rg:rngR (.int 0)=.ok []:=rfl
  refine⟨x13,x14,?_⟩
  generalize D.tdc (encN (λa=>optN (f a)) l)=DD at *
  generalize tN []=ta at *
  simp[bodyF,b_law_8,ln,rg,forL]
 ·have b1:=λx13 x14=>less_body (x0:=x0) (x1:=x1) (x2:=x2) (x3:=x3) (x4:=x4) (x5:=x5) (x6:=x6) (x7:=x7) (x8:=x8) (x9:=x9) (x12:=x12) cf (k:=0) (u:=.tup []) (v:=.tup []) ma m0 rfl rfl rfl (hf [p] [] λj hj=>by cases hj).1 (hf [p] [] λj hj=>by cases hj).2 x13 x14
  have ln:Bt.run .len [tN [p]]=.ok (.int 1):=rfl
  have rg:rngR (.int 1)=.ok [.int 0]:=rfl
  refine⟨.v (.int 0),.v (tN []),?_⟩
  generalize D.tdc (encN (λa=>optN (f a)) l)=DD at *
  generalize tN [p]=ta at *
  generalize tN []=t0 at *
  have lo:forL (bodyF T cf (.one 13) b_law_7) [.int 0] [x0,x1,x2,x3,x4,x5,x6,x7,x8,x9,.v DD,.v ta,x12,x13,x14]=.ok (.nx [x0,x1,x2,x3,x4,x5,x6,x7,x8,x9,.v DD,.v ta,x12,.v (.int 0),.v t0]):=by
   rw[forL_nx (b1 _ _)];rfl
  simp[bodyF,b_law_8,ln,rg,lo]
 ·have mp:[p]∈l:=(hl [p]).mpr (one_sets hp)
  have mq:[q]∈l:=(hl [q]).mpr (one_sets hq)
  have h1:=hf [p,q] [q] λj hj=>List.mem_cons_of_mem _ hj
  have h2:=hf [p,q] [p] λj hj=>by rw[List.mem_singleton.mp hj];exact List.mem_cons_self
  have b1:=λx13 x14=>less_body (x0:=x0) (x1:=x1) (x2:=x2) (x3:=x3) (x4:=x4) (x5:=x5) (x6:=x6) (x7:=x7) (x8:=x8) (x9:=x9) (x12:=x12) cf (k:=0) (u:=.tup []) (v:=.tup [.int (q:Int)]) ma mq rfl rfl rfl h1.1 h1.2 x13 x14
  have b2:=λx13 x14=>less_body (x0:=x0) (x1:=x1) (x2:=x2) (x3:=x3) (x4:=x4) (x5:=x5) (x6:=x6) (x7:=x7) (x8:=x8) (x9:=x9) (x12:=x12) cf (k:=1) (u:=.tup [.int (p:Int)]) (v:=.tup []) ma mp rfl rfl rfl h2.1 h2.2 x13 x14
  have ln:Bt.run .len [tN [p,q]]=.ok (.int 2):=rfl
  have rg:rngR (.int 2)=.ok [.int 0,.int 1]:=rfl
  refine⟨.v (.int 1),.v (tN [p]),?_⟩
  generalize D.tdc (encN (λa=>optN (f a)) l)=DD at *
  generalize tN [p,q]=ta at *
  generalize tN [p]=tp at *
  generalize tN [q]=tq at *
  have lo:forL (bodyF T cf (.one 13) b_law_7) [.int 0,.int 1] [x0,x1,x2,x3,x4,x5,x6,x7,x8,x9,.v DD,.v ta,x12,x13,x14]=.ok (.nx [x0,x1,x2,x3,x4,x5,x6,x7,x8,x9,.v DD,.v ta,x12,.v (.int 1),.v tp]):=by
   rw[forL_nx (b1 _ _),forL_nx (b2 _ _)];rfl
  simp[bodyF,b_law_8,ln,rg,lo]
theorem less_loop (cf:Nat→List D→Res D) {many:Nat} (hl:∀a,a∈l↔a∈setsV many) (hf:∀a b:List Nat,(∀j∈b,j∈a)→(f a=none→f b=none)∧∀i j,f a=some i→f b=some j→i≤j):∀(zs:List (List Nat)) (x11 x13 x14:Sl),(∀a∈zs,a∈setsV many) →
 ∃y11 y13 y14,forL (bodyF T cf (.one 11) b_law_8) (zs.map tN) [x0,x1,x2,x3,x4,x5,x6,x7,x8,x9,.v (.tdc (encN (λa=>optN (f a)) l)),x11,x12,x13,x14]=.ok (.nx [x0,x1,x2,x3,x4,x5,x6,x7,x8,x9,.v (.tdc (encN (λa=>optN (f a)) l)),y11,x12,y13,y14])
 | [],x11,x13,x14,_=>⟨x11,x13,x14,rfl⟩
 | a::r,x11,x13,x14,h=>by
  obtain⟨z13,z14,e⟩:=less_all (x0:=x0) (x1:=x1) (x2:=x2) (x3:=x3) (x4:=x4) (x5:=x5) (x6:=x6) (x7:=x7) (x8:=x8) (x9:=x9) (x12:=x12) cf hl hf (h a List.mem_cons_self) x11 x13 x14
  obtain⟨y11,y13,y14,ih⟩:=less_loop cf hl hf r (.v (tN a)) z13 z14 λb hb=>h b (List.mem_cons_of_mem _ hb)
  exact⟨y11,y13,y14,by rw[List.map_cons,forL_nx e,ih]⟩
end
theorem law_away (n:Nat) (B0 B2 L C:D) (Q:List Player) (hq:Q.length≤6) (cell:Int):∃aw:List Nat,aw.length≤6∧callF T dfs (n+1) 29 [.tup [B0,.tup (Q.map Player.enc),B2,L,C],.int cell]=.ok (.lst (natD aw)):=by
 have hb:=ten_big
 refine⟨(List.range Q.length).filter (inV cell),Nat.le_trans (List.length_filter_le ..) (by rw[List.length_range];exact hq),callF_rt (k:=true) rfl rfl rfl ?_⟩
 have c1:∀a0,compL (compF T (callF T dfs n) 1 [1] (.one 0) e_away_2 c_away_1 [a0,.v (.int cell)]) ((List.range Q.length).map natI)=.ok (natD ((List.range Q.length).filter (inV cell))):=λa0=>by
  refine compL_keep natI (inV cell) λj hj=>?_
  have hj:=List.mem_range.mp hj
  have e1:D.ix (.lst [.int 1,.int 3,.int 9,.int 27,.int 81,.int 243]) (.int (j:Int))=.ok (.int (powV j)):=by
   show Res.of (atI _ _)=_
   rw[six_at _ _ _ _ _ _ j (by lia)]
   unfold powV
   have:j=0∨j=1∨j=2∨j=3∨j=4∨j=5:=by lia
   rcases this with rfl | rfl | rfl | rfl | rfl | rfl<;>rfl
  have hp:=powV_pos j
  have e2:D.bin .FloorDiv (.int cell) (.int (powV j))=.ok (.int (cell / powV j)):=by
   show when (decide (0 < powV j)&&decide (powV j < 1073741824)) _=_
   rw[show decide (0 < powV j)=true by simpa using hp.1,show decide (powV j < 1073741824)=true by simpa using hp.2]
   rfl
  unfold inV
  by_cases q:cell / powV j % 3=0
  ·rw[if_pos (decide_eq_true q)]
   simp[compF,Tr.compEnv,e_away_2,c_away_1,natI,e1,e2,q]
  ·rw[if_neg (by rw[decide_eq_false q];exact Bool.false_ne_true)]
   simp[compF,Tr.compEnv,e_away_2,c_away_1,natI,e1,e2,q]
 have rg:=rng_nat (n:=Q.length) (by lia)
 have ln:=len_players (Q:=Q)
 have l1:((List.range Q.length).map natI).length≤big:=by rw[List.length_map,List.length_range];lia
 generalize natD ((List.range Q.length).filter (inV cell))=out at *
 generalize Q.map Player.enc=qe at *
 generalize (List.range Q.length).map natI=rr at *
 simp[b_law_away,ln,rg,l1,c1]
theorem notin_prD (p:Nat×Nat) (cv:List (Nat×Nat)):∃b,D.cmp .NotIn (.tup [.int (p.1:Int),.int (p.2:Int)]) (.tup (cv.map prD))=.ok (.bl b):=by
 refine⟨!D.mem (prD p) (cv.map prD),?_⟩
 show (do let k ←when (D.pls 30 (cv.map prD)&&D.pl 29 (prD p)) (.ok (D.mem (prD p) (cv.map prD)));.ok (D.bl (!k)))=_
 rw[when_of (by rw[pls_map prD 29 (λ_=>by rfl) cv];rfl)];rfl
theorem ne_prD (x p:Nat×Nat):D.cmp .NotEq (prD x) (.tup [.int (p.1:Int),.int (p.2:Int)])=.ok (.bl (!D.eqb (prD x) (prD p))):=by
 show when (D.eqOk (prD x) (prD p)) (.ok (D.bl (!D.eqb (prD x) (prD p))))=_
 rw[when_of (by rfl)]
theorem add_prD (cv:List (Nat×Nat)) (h:cv.length≤49) (p:Nat×Nat):D.bin .Add (.tup (cv.map prD)) (.tup [.tup [.int (p.1:Int),.int (p.2:Int)]])=.ok (.tup ((cv++[p]).map prD)):=by
 have hb:=ten_big
 show when (decide ((cv.map prD).length+1≤big)) (.ok (D.tup (cv.map prD++[prD p])))=_
 rw[when_of (decide_eq_true (by rw[List.length_map];lia)),List.map_append];rfl
theorem few_comp (cf:Nat→List D→Res D) (cv:List (Nat×Nat)) (p:Nat×Nat) (a0 a1 a2 a3 a4 a5 a6 a8 a9 a10 a11 a12 a13 a14:Sl):compL (compF T cf 1 [7] (.one 0) e_law_5 c_law_4 [a0,a1,a2,a3,a4,a5,a6,.v (.tup [.int (p.1:Int),.int (p.2:Int)]),a8,a9,a10,a11,a12,a13,a14]) (cv.map prD)=.ok ((cv.filter λx=>!D.eqb (prD x) (prD p)).map prD):=by
 refine compL_keep prD (λx=>!D.eqb (prD x) (prD p)) λx _=>?_
 have e:=ne_prD x p
 generalize (!D.eqb (prD x) (prD p))=b at *
 generalize prD x=d at *
 cases b<;>simp[compF,Tr.compEnv,e_law_5,c_law_4,e]
theorem one_comp (cf:Nat→List D→Res D) (aw:List Nat) (p:Nat) (a0 a1 a2 a3 a4 a6 a7 a8 a9 a10 a11 a12 a13 a14:Sl):compL (compF T cf 1 [5] (.one 0) e_law_2 c_law_1 [a0,a1,a2,a3,a4,.v (.int (p:Int)),a6,a7,a8,a9,a10,a11,a12,a13,a14]) (natD aw)=.ok (natD (aw.filter λo=>!decide (o=p))):=by
 refine compL_keep (λ(i:Nat)=>D.int (i:Int)) (λo=>!decide (o=p)) λo _=>?_
 have ne:D.cmp .NotEq (.int (o:Int)) (.int (p:Int))=.ok (.bl (!decide (o=p))):=by
  show Res.ok (D.bl (!decide ((o:Int)=(p:Int))))=_
  rw[show decide ((o:Int)=(p:Int))=decide (o=p) by by_cases h:o=p<;>simp[h]<;>lia]
 generalize (!decide (o=p))=b at *
 cases b<;>simp[compF,Tr.compEnv,e_law_2,c_law_1,ne]
theorem eq_lst {l:List D} (h:D.pls 30 l=true):D.cmp .Eq (.lst l) (.lst l)=.ok (.bl true):=by
 have pl:D.pl 30 (.lst l)=true:=by rw[pl_lst];exact h
 show when (D.eqOk _ _) (.ok (D.bl (D.eqb _ _)))=_
 rw[when_of (by unfold D.eqOk;rw[pl];rfl),D.eqb_refl 30 _ pl]
theorem stage_ok {P:List Part} {Q:List Player} {S:List Scene} (dr:Drawn P Q S) (hq:0 < Q.length) (cell:Int):Stage (P.map partS) (Q.map playerS) ((S.take 5).map (sceneS (castS cell Q.length P.length))) (castS cell Q.length P.length):=by
 have hcl:(castS cell Q.length P.length).length=P.length:=by unfold castS;rw[List.length_map,List.length_range]
 refine⟨by rw[List.length_map];exact dr.hp,by rw[List.length_map];exact dr.hq,by rw[List.length_map,List.length_take];lia,λp hp=>?_,λq hq=>?_,λs hs=>?_,by rw[List.length_map];exact hcl,λj hj=>by rw[List.length_map];exact castS_lt hq hj,λs hs=>?_⟩
 ·obtain⟨x,_,rfl⟩:=List.mem_map.mp hp
  exact⟨rfl,rfl,rfl⟩
 ·obtain⟨x,_,rfl⟩:=List.mem_map.mp hq
  rfl
 ·obtain⟨x,hx,rfl⟩:=List.mem_map.mp hs
  rw[List.length_map]
  exact sceneS_good (dr.good x (List.mem_of_mem_take hx))
 ·obtain⟨x,hx,rfl⟩:=List.mem_map.mp hs
  exact (keepS_ok _ x.who [] List.nodup_nil).1
theorem mod_nat (a:Int) {b:Nat} (h:0 < b):∃k:Nat,k < b∧D.bin .Mod (.int a) (.int (b:Int))=.ok (.int (k:Int)):=by
 have hz:(0:Int) < (b:Int):=by lia
 have h1:=Int.emod_nonneg a (Int.ne_of_gt hz)
 have h2:=Int.emod_lt_of_pos a hz
 refine⟨(a % (b:Int)).toNat,by lia,?_⟩
 rw[bin_mod hz,Int.toNat_of_nonneg h1]
theorem len_parts {P:List Part}:Bt.run .len [.tup (P.map Part.enc)]=.ok (.int (P.length:Nat)):=by
 show Res.ok (D.int ((P.map Part.enc).length:Nat))=_
 rw[List.length_map]
section
variable {P:List Part} {Q:List Player} {S:List Scene} {cs:List Nat} {L:D} {cv:List (Nat×Nat)}
noncomputable def kindsD (S:List Scene) (cv:List (Nat×Nat)) (cs aw:List Nat):D:=.lst ((List.range S.length).map λk=>D.str (kindAt S cv cs aw k))
theorem away_loop (st:Stage P Q S cs) (hc:CovOk cv Q) {aw:List Nat} (hl:aw.length≤6) (m:Nat) (x0:Sl):∀(r:List Nat) (x5 x6 x7 x8 x9 x10 x11 x12 x13 x14:Sl),
 ∃y5,forL (bodyF T (callF T dfs (m+10)) (.one 5) b_law_3) (natD r) [x0,.v (bkS P Q S L cv),.v (.lst (natD cs)),.v (.lst (natD aw)),.v (kindsD S cv cs aw),x5,x6,x7,x8,x9,x10,x11,x12,x13,x14]=.ok (.nx [x0,.v (bkS P Q S L cv),.v (.lst (natD cs)),.v (.lst (natD aw)),.v (kindsD S cv cs aw),y5,x6,x7,x8,x9,x10,x11,x12,x13,x14])
 | [],x5,x6,x7,x8,x9,x10,x11,x12,x13,x14=>⟨x5,rfl⟩
 | p::r,x5,x6,x7,x8,x9,x10,x11,x12,x13,x14=>by
  have hb:=ten_big
  have hs5:=st.hs
  obtain⟨y5,ih⟩:=away_loop st hc hl m x0 r (.v (.int (p:Int))) x6 x7 x8 x9 x10 x11 x12 x13 x14
  refine⟨y5,?_⟩
  have k1:callF T dfs (m+10) 30 [bkS P Q S L cv,.lst (natD cs),.lst (natD (aw.filter λo=>!decide (o=p)))]=.ok (kindsD S cv cs (aw.filter λo=>!decide (o=p))):=kinds (L:=L) st hc (away_lst _) m
  have w1:callF T dfs (m+10) 31 [kindsD S cv cs aw,kindsD S cv cs (aw.filter λo=>!decide (o=p))]=.ok (.bl true):=no_worse (m+9) S.length (by lia) _ _ λk hk h=>kind_mono (λ_ z=>z) (λj hj=>(List.mem_filter.mp hj).1) hk h
  have c1:=λa4=>one_comp (callF T dfs (m+10)) aw p x0 (.v (bkS P Q S L cv)) (.v (.lst (natD cs))) (.v (.lst (natD aw))) a4 x6 x7 x8 x9 x10 x11 x12 x13 x14
  have la:(natD aw).length≤big:=by rw[natD_length];lia
  show forL _ (.int (p:Int)::natD r) _=_
  rw[←ih]
  refine forL_nx ?_
  generalize kindsD S cv cs (aw.filter λo=>!decide (o=p))=k2 at *
  generalize kindsD S cv cs aw=k1 at *
  generalize natD (aw.filter λo=>!decide (o=p))=a2 at *
  generalize natD aw=a1 at *
  generalize natD cs=nc at *
  generalize bkS P Q S L cv=BK at *
  simp[bodyF,b_law_3,c1,la,k1,w1]
theorem more_ok (st:Stage P Q S cs) {cv':List (Nat×Nat)} (hc':CovOk cv' Q) {aw:List Nat} (hs:∀x∈cv,x∈cv') (m:Nat):callF T dfs (m+10) 30 [bkS P Q S L cv',.lst (natD cs),.lst (natD aw)]=.ok (kindsD S cv' cs aw)∧callF T dfs (m+10) 31 [kindsD S cv cs aw,kindsD S cv' cs aw]=.ok (.bl true):=by
 have hs5:=st.hs
 exact⟨kinds (L:=L) st hc' (away_lst _) m,no_worse (m+9) S.length (by lia) _ _ λk hk h=>kind_mono hs (λ_ z=>z) hk h⟩
theorem all_covered (n:Nat):kindsD S cv cs []=.lst (S.map λ_=>.str "covered"):=by
 unfold kindsD
 refine congrArg D.lst (List.ext_getElem (by rw[List.length_map,List.length_map,List.length_range]) λk h1 h2=>?_)
 rw[List.getElem_map,List.getElem_map,List.getElem_range,kind_none (by rw[List.length_map] at h2;exact h2)]
end
noncomputable def hdB:S→S
 | .cons a _=>a
 | s=>s
noncomputable def tlB:S→S
 | .cons _ r=>r
 | s=>s
noncomputable def lawIf:S:=hdB (tlB (tlB (tlB (tlB (tlB (tlB (tlB b_law)))))))
noncomputable def lawT:S:=tlB (tlB (tlB (tlB (tlB (tlB (tlB (tlB b_law)))))))
section
variable {P:List Part} {Q:List Player} {S:List Scene} {cs:List Nat} {L:D} {cv:List (Nat×Nat)}
theorem law_if (st:Stage P Q S cs) (hq:0 < Q.length) (hcv:cv.length≤48) (hcq:∀x∈cv,x.2 < Q.length) (aw:List Nat) (m:Nat) (c:Int) (x0 x5 x7 x8 x9 x10 x11 x12 x13 x14:Sl) :
 ∃y7 y8 y9,exS T (callF T dfs (m+10)) lawIf [x0,.v (bkS P Q S L cv),.v (.lst (natD cs)),.v (.lst (natD aw)),.v (kindsD S cv cs aw),x5,.v (.int c),x7,x8,x9,x10,x11,x12,x13,x14]=.ok (.nx [x0,.v (bkS P Q S L cv),.v (.lst (natD cs)),.v (.lst (natD aw)),.v (kindsD S cv cs aw),x5,.v (.int c),y7,y8,y9,x10,x11,x12,x13,x14]):=by
 have hb:=ten_big
 have ln:=len_parts (P:=P)
 by_cases hp:0 < P.length
 ·have lq:=len_players (Q:=Q)
  obtain⟨i,hi,m1⟩:=mod_nat c hp
  obtain⟨j,hj,m2⟩:=mod_nat (c / 8) hq
  have fd:D.bin .FloorDiv (.int c) (.int 8)=.ok (.int (c / 8)):=rfl
  have gt:D.cmp .Gt (.int (P.length:Int)) (.int 0)=.ok (.bl true):=by
   show Res.ok (D.bl (decide ((0:Int) < (P.length:Int))))=_
   rw[decide_eq_true (by lia)]
  obtain⟨b,ni⟩:=notin_prD (i,j) cv
  have ad:=add_prD cv (by lia) (i,j)
  have fc:=λa8 a9=>few_comp (callF T dfs (m+10)) cv (i,j) x0 (.v (bkS P Q S L cv)) (.v (.lst (natD cs))) (.v (.lst (natD aw))) (.v (kindsD S cv cs aw)) x5 (.v (.int c)) a8 a9 x10 x11 x12 x13 x14
  obtain⟨k1,w1⟩:=more_ok (L:=L) (cv:=cv) (aw:=aw) st (cv':=cv++[(i,j)]) ⟨by rw[List.length_append];show cv.length+1≤49;lia,λx hx=>by
   rcases List.mem_append.mp hx with h | h
   ·exact hcq x h
   ·rw[List.mem_singleton.mp h];exact hj⟩ (λx hx=>List.mem_append_left _ hx) m
  have hf:∀x∈cv.filter (λx=>!D.eqb (prD x) (prD (i,j))),x∈cv:=λx hx=>(List.mem_filter.mp hx).1
  have lf:(cv.filter (λx=>!D.eqb (prD x) (prD (i,j)))).length≤48:=Nat.le_trans (List.length_filter_le ..) hcv
  obtain⟨_,w2⟩:=more_ok (L:=L) (cv:=cv.filter (λx=>!D.eqb (prD x) (prD (i,j)))) (cv':=cv) (aw:=aw) st ⟨by lia,hcq⟩ hf m
  have k2:callF T dfs (m+10) 30 [bkS P Q S L (cv.filter (λx=>!D.eqb (prD x) (prD (i,j)))),.lst (natD cs),.lst (natD aw)]=.ok (kindsD S (cv.filter (λx=>!D.eqb (prD x) (prD (i,j)))) cs aw):=kinds (L:=L) st ⟨by lia,λx hx=>hcq x (hf x hx)⟩ (away_lst _) m
  have lc:(cv.map prD).length≤big:=by rw[List.length_map];lia
  have lf2:((cv.filter (λx=>!D.eqb (prD x) (prD (i,j)))).map prD).length≤big:=by rw[List.length_map];lia
  generalize kindsD S (cv++[(i,j)]) cs aw=KM at *
  generalize kindsD S (cv.filter (λx=>!D.eqb (prD x) (prD (i,j)))) cs aw=KF at *
  generalize kindsD S cv cs aw=KA at *
  dsimp only at ni ad fc
  simp only[bkS] at k1 k2 fc ⊢
  generalize (cv.filter (λx=>!D.eqb (prD x) (prD (i,j)))).map prD=cf at *
  generalize (cv++[(i,j)]).map prD=cm at *
  generalize cv.map prD=cc at *
  generalize natD cs=nc at *
  generalize natD aw=na at *
  generalize P.map Part.enc=pp at *
  generalize Q.map Player.enc=qq at *
  generalize S.map Scene.enc=ss at *
  have s4:∀a b c d e:D,D.sl (.tup [a,b,c,d,e]) none (some 4)=.ok (.tup [a,b,c,d]):=λ_ _ _ _ _=>rfl
  have a5:∀a b c d e:D,D.bin .Add (.tup [a,b,c,d]) (.tup [e])=.ok (.tup [a,b,c,d,e]):=λ_ _ _ _ _=>rfl
  have tp:Bt.run .tuple [.lst cf]=.ok (.tup cf):=rfl
  have p1:D.part .non=.ok none:=rfl
  have p2:D.part (.int 4)=.ok (some 4):=rfl
  cases b with
  | true =>
   refine⟨.v (.tup [.int (i:Int),.int (j:Int)]),.v (.tup [.tup pp,.tup qq,.tup ss,L,.tup cm]),.v (.tup [.tup pp,.tup qq,.tup ss,L,.tup cf]),?_⟩
   simp[-sl_t,lawIf,hdB,tlB,b_law,ln,gt,m1,fd,lq,m2,ni,s4,p1,p2,ad,a5,k1,w1,lc,fc,tp,k2,w2]
  | false =>
   refine⟨.v (.tup [.int (i:Int),.int (j:Int)]),x8,.v (.tup [.tup pp,.tup qq,.tup ss,L,.tup cf]),?_⟩
   simp[-sl_t,lawIf,hdB,tlB,b_law,ln,gt,m1,fd,lq,m2,ni,s4,p1,p2,a5,lc,fc,tp,k2,w2]
 ·have gt:D.cmp .Gt (.int (P.length:Int)) (.int 0)=.ok (.bl false):=by
   show Res.ok (D.bl (decide ((0:Int) < (P.length:Int))))=_
   rw[decide_eq_false (by lia)]
  refine⟨x7,x8,x9,?_⟩
  simp only[bkS]
  generalize kindsD S cv cs aw=KA at *
  generalize cv.map prD=cc at *
  generalize natD cs=nc at *
  generalize natD aw=na at *
  generalize P.map Part.enc=pp at *
  generalize Q.map Player.enc=qq at *
  generalize S.map Scene.enc=ss at *
  simp[lawIf,hdB,tlB,b_law,ln,gt]
end
section
variable {P:List Part} {Q:List Player} {S:List Scene} {cs:List Nat} {L:D} {cv:List (Nat×Nat)}
theorem law_tail (st:Stage P Q S cs) (hc:CovOk cv Q) (m:Nat) (x0 x3 x4 x5 x6 x7 x8 x9:Sl) :
 exS T (callF T dfs (m+10)) lawT [x0,.v (bkS P Q S L cv),.v (.lst (natD cs)),x3,x4,x5,x6,x7,x8,x9,.no,.no,.no,.no,.no]=.ok (.rt (.bl true) false):=by
 have hb:=ten_big
 have hs5:=st.hs
 have e1:=nights_of (L:=L) st hc m
 have e2:callF T dfs (m+10) 30 [bkS P Q S L cv,.lst (natD cs),.lst []]=.ok (kindsD S cv cs []):=kinds (L:=L) st hc (away_lst []) m
 rw[all_covered 0] at e2
 have c1:∀env,compL (compF T (callF T dfs (m+10)) 1 [] (.one 0) e_law_9 (.con (.bl true)) env) (S.map Scene.enc)=.ok (S.map λ_=>.str "covered"):=λenv=>by
  rw[compL_enc Scene.enc (λ_=>some (.str "covered")) (λs _=>by simp[compF,Tr.compEnv,e_law_9]),List.filterMap_eq_map']
 have q:=eq_lst (pls_map (λ_:Scene=>D.str "covered") 29 (λ_=>rfl) S)
 have ls:(S.map Scene.enc).length≤big:=by rw[List.length_map];lia
 have ll:(setsV Q.length).length≤100:=sets_len st.hq
 obtain⟨l,y11,y12,p1,p2,p3⟩:=put_loop (x0:=x0) (x1:=.v (bkS P Q S L cv)) (x2:=.v (.lst (natD cs))) (x3:=x3) (x4:=x4) (x5:=x5) (x6:=x6) (x7:=x7) (x8:=x8) (x9:=x9) (f:=λa=>optN (lackV S cv cs a)) (callF T dfs (m+10)) (setsV Q.length) [] .no .no .no .no (by rw[List.length_nil];lia)
 have hl:∀a,a∈l↔a∈setsV Q.length:=λa=>by rw[p2 a];simp
 obtain⟨z11,z13,z14,l2⟩:=less_loop (x0:=x0) (x1:=.v (bkS P Q S L cv)) (x2:=.v (.lst (natD cs))) (x3:=x3) (x4:=x4) (x5:=x5) (x6:=x6) (x7:=x7) (x8:=x8) (x9:=x9) (x12:=y12) (f:=lackV S cv cs) (callF T dfs (m+10)) hl (λa b h=>lack_mono h) l y11 .no .no (λa ha=>(hl a).mp ha)
 have dk:=dkeys_encN (λa=>optN (lackV S cv cs a)) l
 rw[show encN (λa=>optN (lackV S cv cs a)) []=[] from rfl] at p1
 have l1:((setsV Q.length).map λa=>D.tup [tN a,optN (lackV S cv cs a)]).length≤big:=by rw[List.length_map];lia
 have l3:(l.map tN).length≤big:=by rw[List.length_map];lia
 generalize encN (λa=>optN (lackV S cv cs a)) l=DD at *
 generalize (setsV Q.length).map (λa=>D.tup [tN a,optN (lackV S cv cs a)])=nn at *
 generalize l.map tN=kl at *
 generalize (S.map λ_=>D.str "covered")=co at *
 simp only[bkS] at e1 e2 p1 l2 ⊢
 generalize S.map Scene.enc=ss at *
 generalize natD cs=nc at *
 simp[lawT,tlB,b_law,e1,l1,p1,dk,l3,l2,e2,ls,c1,q]
end
theorem law_true (ns:List Int) (hn:ns.length≤63):callF T dfs 30 32 [.lst (ns.map D.int)]=.ok (.bl true):=by
 have hb:=ten_big
 obtain⟨P,Q,S,L,cv,dr,hcx,hcv,e1⟩:=book62 26 ns 3 hn (by lia)
 rw[show ((3:Nat):Int)=3 from rfl] at e1
 have c0:=cell_at 28 ns 0
 rw[show ((0:Nat):Int)=0 from rfl] at c0
 have c1:=cell_at 28 ns 1
 rw[show ((1:Nat):Int)=1 from rfl] at c1
 have c2:=cell_at 28 ns 2
 rw[show ((2:Nat):Int)=2 from rfl] at c2
 have q1:=cmp_tup_nil (xs:=Q.map Player.enc) (pls_map Player.enc 29 (λq=>by rfl) Q)
 refine callF_rt (k:=false) rfl rfl rfl ?_
 by_cases hq:Q=[]
 ·rw[show (Q.map Player.enc).isEmpty=true by rw[hq];rfl] at q1
  generalize P.map Part.enc=pp at *
  generalize Q.map Player.enc=qq at *
  generalize S.map Scene.enc=ss at *
  generalize cv.map prD=cc at *
  simp[b_law,e1,q1]
 rw[show (Q.map Player.enc).isEmpty=false by cases Q with | nil=>exact absurd rfl hq | cons _ _=>rfl] at q1
 have hq0:0 < Q.length:=List.length_pos_iff.mpr hq
 have e2:=staged 27 P Q S L (.tup (cv.map prD)) dr hq0 (cellV ns 0)
 have st:=stage_ok dr hq0 (cellV ns 0)
 have hcq:∀x∈cv,x.2 < (Q.map playerS).length:=λx hx=>by rw[List.length_map];exact (hcx x hx).2
 have hq2:0 < (Q.map playerS).length:=by rw[List.length_map];exact hq0
 generalize castS (cellV ns 0) Q.length P.length=cs at *
 generalize hP2:P.map partS=P2 at *
 generalize hQ2:Q.map playerS=Q2 at *
 generalize hS2:(S.take 5).map (sceneS cs)=S2 at *
 have hc:CovOk cv Q2:=⟨by lia,hcq⟩
 obtain⟨aw,ha,e3⟩:=law_away 28 (.tup (P2.map Part.enc)) (.tup (S2.map Scene.enc)) L (.tup (cv.map prD)) Q2 st.hq (cellV ns 1)
 have e4:callF T dfs 29 30 [bkS P2 Q2 S2 L cv,.lst (natD cs),.lst (natD aw)]=.ok (kindsD S2 cv cs aw):=kinds (L:=L) st hc (away_lst aw) 19
 obtain⟨y5,lo⟩:=away_loop (L:=L) st hc ha 19 (.v (.lst (ns.map D.int))) aw .no .no .no .no .no .no .no .no .no .no
 have la:(natD aw).length≤big:=by rw[natD_length];lia
 obtain⟨y7,y8,y9,li⟩:=law_if (L:=L) st hq2 hcv hcq aw 19 (cellV ns 2) (.v (.lst (ns.map D.int))) y5 .no .no .no .no .no .no .no .no
 have lt:=law_tail (L:=L) st hc 19 (.v (.lst (ns.map D.int))) (.v (.lst (natD aw))) (.v (kindsD S2 cv cs aw)) y5 (.v (.int (cellV ns 2))) y7 y8 y9
 show exS T (callF T dfs 29) (.cons (hdB b_law) (.cons (hdB (tlB b_law)) (.cons (hdB (tlB (tlB b_law))) (.cons (hdB (tlB (tlB (tlB b_law)))) (.cons (hdB (tlB (tlB (tlB (tlB b_law))))) (.cons (hdB (tlB (tlB (tlB (tlB (tlB b_law)))))) (.cons (hdB (tlB (tlB (tlB (tlB (tlB (tlB b_law))))))) (.cons lawIf lawT)))))))) _=_
 rw[show (19+10:Nat)=29 from rfl] at li lt lo
 generalize kindsD S2 cv cs aw=KA at *
 simp only[bkS] at e4 lo li lt
 generalize lawIf=LI at *
 generalize lawT=LT at *
 generalize P2.map Part.enc=pp2 at *
 generalize Q2.map Player.enc=qq2 at *
 generalize S2.map Scene.enc=ss2 at *
 generalize P.map Part.enc=pp at *
 generalize Q.map Player.enc=qq at *
 generalize S.map Scene.enc=ss at *
 generalize cv.map prD=cc at *
 generalize natD cs=nc at *
 generalize natD aw=na at *
 simp[hdB,tlB,b_law,e1,q1,c0,c1,c2,e2,e3,e4,lo,la,li,lt]
end K63
namespace K63
open PySem L2 Tr
noncomputable def top (i:Nat):Stmt:=PySem.Challenge.pw_troupe_k63_whole_nights.main.body.getD i (.Pass ⟨0,0,0,0⟩)
noncomputable abbrev d_time_between:DefT:=⟨"time_between", top 8,["book", "s", "t", "scenes"],["book", "s", "t"],b_time_between,none⟩
noncomputable abbrev d_change_time:DefT:=⟨"change_time", top 9,["book", "one", "other"],["book", "one", "other"],b_change_time,none⟩
noncomputable abbrev d_short_change_from:DefT:=⟨"short_change_from", top 10,["book", "s", "one", "other", "need", "t", "have"],["book", "s", "one", "other"],b_short_change_from,none⟩
noncomputable abbrev d_reason_from:DefT:=⟨"reason_from", top 11,["book", "s", "i", "j", "numbers"],["book", "s", "i", "j"],b_reason_from,none⟩
noncomputable abbrev d_reason_of:DefT:=⟨"reason_of", top 12,["book", "i", "j", "s", "reason"],["book", "i", "j"],b_reason_of,none⟩
noncomputable abbrev d_clashes_of:DefT:=⟨"clashes_of", top 13,["book", "pairs", "many", "i"],["book"],b_clashes_of,none⟩
noncomputable abbrev d_fault_of_part:DefT:=⟨"fault_of_part", top 15,["book", "i", "player"],["book", "i", "player"],b_fault_of_part,none⟩
noncomputable abbrev d_have_one_player:DefT:=⟨"have_one_player", top 16,["casting", "i", "j"],["casting", "i", "j"],b_have_one_player,none⟩
noncomputable abbrev d_faults_of:DefT:=⟨"faults_of", top 17,["book", "casting", "faults"],["book", "casting"],b_faults_of,none⟩
noncomputable abbrev d_ask_that_it_plays:DefT:=⟨"ask_that_it_plays", top 18,["book", "casting"],["book", "casting"],b_ask_that_it_plays,none⟩
noncomputable abbrev d_gaps_of:DefT:=⟨"gaps_of", top 20,["book", "casting", "away", "scene"],["book", "casting", "away", "scene"],b_gaps_of,none⟩
noncomputable abbrev d_covers_of:DefT:=⟨"covers_of", top 21,["book", "casting", "away", "scene", "part", "busy", "told"],["book", "casting", "away", "scene", "part"],b_covers_of,none⟩
noncomputable abbrev d_lack_told:DefT:=⟨"lack_told", top 23,["covered", "asked", "gap", "gaps"],["covered", "asked", "gap"],b_lack_told,none⟩
noncomputable abbrev d_scene_told:DefT:=⟨"scene_told", top 24,["book", "casting", "away", "scene", "gaps", "choices", "covered", "gap", "asked", "players"],["book", "casting", "away", "scene"],b_scene_told,none⟩
noncomputable abbrev d_night_of:DefT:=⟨"night_of", top 25,["book", "casting", "away"],["book", "casting", "away"],b_night_of,none⟩
noncomputable abbrev d_first_lacking:DefT:=⟨"first_lacking", top 26,["book", "casting", "away", "scene"],["book", "casting", "away"],b_first_lacking,none⟩
noncomputable abbrev d_one_longer:DefT:=⟨"one_longer", top 27,["sets", "many", "longer", "players", "start"],["sets", "many"],b_one_longer,none⟩
noncomputable abbrev d_sets_up_to:DefT:=⟨"sets_up_to", top 28,["many", "most", "sets", "found", "size"],["many", "most"],b_sets_up_to,none⟩
noncomputable abbrev d_nights_of:DefT:=⟨"nights_of", top 29,["book", "casting", "most"],["book", "casting", "most"],b_nights_of,none⟩
noncomputable abbrev d_law_cell_at:DefT:=⟨"_law_cell_at", top 31,["_law_script", "_law_k"],["_law_script", "_law_k"],b_law_cell_at,none⟩
noncomputable abbrev d_law_mix:DefT:=⟨"_law_mix", top 32,["_law_cell", "_law_k"],["_law_cell", "_law_k"],b_law_mix,none⟩
noncomputable abbrev d_law_name:DefT:=⟨"_law_name", top 33,["_law_cell", "_law_k", "_law_letter", "_law_tail", "_law_at"],["_law_cell", "_law_k"],b_law_name,none⟩
noncomputable abbrev d_law_minutes:DefT:=⟨"_law_minutes", top 34,["_law_number"],["_law_number"],b_law_minutes,none⟩
noncomputable abbrev d_law_part:DefT:=⟨"_law_part", top 35,["_law_cell", "_law_k", "_law_base", "_law_number", "_law_voice"],["_law_cell", "_law_k", "_law_base"],b_law_part,none⟩
noncomputable abbrev d_law_player:DefT:=⟨"_law_player", top 36,["_law_cell", "_law_k", "_law_base", "_law_number", "_law_voices"],["_law_cell", "_law_k", "_law_base"],b_law_player,none⟩
noncomputable abbrev d_law_scene:DefT:=⟨"_law_scene", top 37,["_law_cell", "_law_k", "_law_base", "_law_many", "_law_number", "_law_some", "_law_middle", "_law_pause"],["_law_cell", "_law_k", "_law_base", "_law_many"],b_law_scene,none⟩
noncomputable abbrev d_law_pairs:DefT:=⟨"_law_pairs", top 38,["_law_cell", "_law_one", "_law_other", "_law_share", "_law_found", "_law_k", "_law_number", "_law_pair", "_law_middle"],["_law_cell", "_law_one", "_law_other", "_law_share"],b_law_pairs,none⟩
noncomputable abbrev d_law_drawn:DefT:=⟨"_law_drawn", top 39,["_law_script", "_law_at", "_law_cells", "_law_many", "_law_parts", "_law_players", "_law_scenes", "_law_k", "_law_cell", "_law_likes", "_law_player_here", "_law_part_here", "_law_covers"],["_law_script", "_law_at"],b_law_drawn,none⟩
noncomputable abbrev d_law_staged:DefT:=⟨"_law_staged", top 40,["_law_book", "_law_cell", "_law_parts", "_law_players", "_law_casting", "_law_scenes", "_law_name_here", "_law_length", "_law_pause", "_law_numbers", "_law_kept", "_law_part_here"],["_law_book", "_law_cell"],b_law_staged,none⟩
noncomputable abbrev d_law_away:DefT:=⟨"_law_away", top 41,["_law_book", "_law_cell"],["_law_book", "_law_cell"],b_law_away,none⟩
noncomputable abbrev d_law_kinds:DefT:=⟨"_law_kinds", top 42,["_law_book", "_law_casting", "_law_away_here"],["_law_book", "_law_casting", "_law_away_here"],b_law_kinds,none⟩
noncomputable abbrev d_law_no_worse:DefT:=⟨"_law_no_worse", top 43,["_law_ahead", "_law_behind"],["_law_ahead", "_law_behind"],b_law_no_worse,none⟩
noncomputable abbrev d_law:DefT:=⟨"law", top 44,["_law_script", "_law_book", "_law_casting", "_law_away_here", "_law_ahead", "_law_player_here", "_law_cell", "_law_pair", "_law_more", "_law_fewer", "_law_nights", "_law_some", "_law_scene_here", "_law_k", "_law_lesser"],["_law_script"],b_law,none⟩
noncomputable abbrev d_finds_cover:DefT:=⟨"finds_cover", top 22,["choices", "covered", "asked", "gap", "player"],["choices", "covered", "asked", "gap"],b_finds_cover,none⟩
noncomputable def defs:List DefT:=[d_time_between,d_change_time,d_short_change_from,d_reason_from,d_reason_of,d_clashes_of,d_fault_of_part,d_have_one_player,d_faults_of,d_ask_that_it_plays,d_gaps_of,d_covers_of,d_lack_told,d_scene_told,d_night_of,d_first_lacking,d_one_longer,d_sets_up_to,d_nights_of,d_law_cell_at,d_law_mix,d_law_name,d_law_minutes,d_law_part,d_law_player,d_law_scene,d_law_pairs,d_law_drawn,d_law_staged,d_law_away,d_law_kinds,d_law_no_worse,d_law,d_finds_cover]
noncomputable def Tx:Txt:=⟨["PARTS", "PLAYERS", "SCENES", "COVERS"],[("time_between":Str),("change_time":Str),("short_change_from":Str),("reason_from":Str),("reason_of":Str),("clashes_of":Str),("fault_of_part":Str),("have_one_player":Str),("faults_of":Str),("ask_that_it_plays":Str),("gaps_of":Str),("covers_of":Str),("lack_told":Str),("scene_told":Str),("night_of":Str),("first_lacking":Str),("one_longer":Str),("sets_up_to":Str),("nights_of":Str),("_law_cell_at":Str),("_law_mix":Str),("_law_name":Str),("_law_minutes":Str),("_law_part":Str),("_law_player":Str),("_law_scene":Str),("_law_pairs":Str),("_law_drawn":Str),("_law_staged":Str),("_law_away":Str),("_law_kinds":Str),("_law_no_worse":Str),("law":Str)],[],[],[],[],[(33, "finds_cover")]⟩
theorem okB:defs.all (·.okB Tx)=true:=by decide +kernel
end K63
open PySem PySem.W PyProof.Rows
set_option maxRecDepth 100000 in
set_option maxHeartbeats 0 in
theorem PySem.Challenge.cw_troupe_k63_whole_nights_holds : PySem.Challenge.rw_troupe_k63_whole_nights.Holds := by
 refine K63.hd ?_
 k_fill
 refine Tr.walkT (l:=PySem.Challenge.rw_troupe_k63_whole_nights) (T:=K63.T) (Tx:=K63.Tx) (defs:=K63.defs) (i:=32) (n:=30) rfl rfl rfl rfl rfl ⟨rfl,by decide,by decide⟩ K63.law_true (λw h Y=>PySem.W.kIn_of Y) ?X (λ_ _ _ _ _ _ _=>rfl)
 case X =>
  intro w mg h KX G
  refine' Tr.text_plain ⟨Tr.dn_of rfl rfl,K63.okB,(Tr.all_cons (Tr.fun_in KX G ?a0 ?l0 ?c0 ?k0 ?b0) (Tr.all_cons (Tr.fun_in KX G ?a1 ?l1 ?c1 ?k1 ?b1) (Tr.all_cons (Tr.fun_in KX G ?a2 ?l2 ?c2 ?k2 ?b2) (Tr.all_cons (Tr.fun_in KX G ?a3 ?l3 ?c3 ?k3 ?b3) (Tr.all_cons (Tr.fun_in KX G ?a4 ?l4 ?c4 ?k4 ?b4) (Tr.all_cons (Tr.fun_in KX G ?a5 ?l5 ?c5 ?k5 ?b5) (Tr.all_cons (Tr.fun_in KX G ?a6 ?l6 ?c6 ?k6 ?b6) (Tr.all_cons (Tr.fun_in KX G ?a7 ?l7 ?c7 ?k7 ?b7) (Tr.all_cons (Tr.fun_in KX G ?a8 ?l8 ?c8 ?k8 ?b8) (Tr.all_cons (Tr.fun_in KX G ?a9 ?l9 ?c9 ?k9 ?b9) (Tr.all_cons (Tr.fun_in KX G ?a10 ?l10 ?c10 ?k10 ?b10) (Tr.all_cons (Tr.fun_in KX G ?a11 ?l11 ?c11 ?k11 ?b11) (Tr.all_cons (Tr.fun_in KX G ?a12 ?l12 ?c12 ?k12 ?b12) (Tr.all_cons (Tr.fun_in KX G ?a13 ?l13 ?c13 ?k13 ?b13) (Tr.all_cons (Tr.fun_in KX G ?a14 ?l14 ?c14 ?k14 ?b14) (Tr.all_cons (Tr.fun_in KX G ?a15 ?l15 ?c15 ?k15 ?b15) (Tr.all_cons (Tr.fun_in KX G ?a16 ?l16 ?c16 ?k16 ?b16) (Tr.all_cons (Tr.fun_in KX G ?a17 ?l17 ?c17 ?k17 ?b17) (Tr.all_cons (Tr.fun_in KX G ?a18 ?l18 ?c18 ?k18 ?b18) (Tr.all_cons (Tr.fun_in KX G ?a19 ?l19 ?c19 ?k19 ?b19) (Tr.all_cons (Tr.fun_in KX G ?a20 ?l20 ?c20 ?k20 ?b20) (Tr.all_cons (Tr.fun_in KX G ?a21 ?l21 ?c21 ?k21 ?b21) (Tr.all_cons (Tr.fun_in KX G ?a22 ?l22 ?c22 ?k22 ?b22) (Tr.all_cons (Tr.fun_in KX G ?a23 ?l23 ?c23 ?k23 ?b23) (Tr.all_cons (Tr.fun_in KX G ?a24 ?l24 ?c24 ?k24 ?b24) (Tr.all_cons (Tr.fun_in KX G ?a25 ?l25 ?c25 ?k25 ?b25) (Tr.all_cons (Tr.fun_in KX G ?a26 ?l26 ?c26 ?k26 ?b26) (Tr.all_cons (Tr.fun_in KX G ?a27 ?l27 ?c27 ?k27 ?b27) (Tr.all_cons (Tr.fun_in KX G ?a28 ?l28 ?c28 ?k28 ?b28) (Tr.all_cons (Tr.fun_in KX G ?a29 ?l29 ?c29 ?k29 ?b29) (Tr.all_cons (Tr.fun_in KX G ?a30 ?l30 ?c30 ?k30 ?b30) (Tr.all_cons (Tr.fun_in KX G ?a31 ?l31 ?c31 ?k31 ?b31) (Tr.all_cons (Tr.fun_in KX G ?a32 ?l32 ?c32 ?k32 ?b32) (Tr.all_cons (Tr.fun_in KX G ?a33 ?l33 ?c33 ?k33 ?b33) Tr.all_nil)))))))))))))))))))))))))))))))))),(Tr.gl_cons (Tr.glob_int KX G ?gg0) (Tr.gl_cons (Tr.glob_int KX G ?gg1) (Tr.gl_cons (Tr.glob_int KX G ?gg2) (Tr.gl_cons (Tr.glob_int KX G ?gg3) Tr.gl_nil)))),(Tr.all_cons (Tr.blt_none KX G ?z0) (Tr.all_cons (Tr.blt_none KX G ?z1) (Tr.all_cons (Tr.blt_none KX G ?z2) (Tr.all_cons (Tr.blt_none KX G ?z3) (Tr.all_cons (Tr.blt_none KX G ?z4) (Tr.all_cons (Tr.blt_none KX G ?z5) (Tr.all_cons (Tr.blt_none KX G ?z6) (Tr.all_cons (Tr.blt_none KX G ?z7) (Tr.all_cons (Tr.blt_none KX G ?z8) (Tr.all_cons (Tr.blt_none KX G ?z9) (Tr.all_cons (Tr.blt_none KX G ?z10) (Tr.all_cons (Tr.blt_none KX G ?z11) (Tr.all_cons (Tr.blt_none KX G ?z12) (Tr.all_cons (Tr.blt_none KX G ?z13) (Tr.all_cons (Tr.blt_none KX G ?z14) (Tr.all_cons (Tr.blt_none KX G ?z15) (Tr.all_cons (Tr.blt_none KX G ?z16) (Tr.all_cons (Tr.blt_none KX G ?z17) (Tr.all_cons (Tr.blt_none KX G ?z18) Tr.all_nil))))))))))))))))))),Tr.all_nil,Tr.all_nil,Tr.all_nil,Tr.all_nil,(Tr.all_cons ⟨_,rfl,rfl⟩ Tr.all_nil),Tr.all_nil⟩ rfl
  (case a0=>k_is);(case l0=>k_is);(case c0=>k_is);(case k0=>k_is)
  (case b0=>exact λ_ _ _ _ _ _=>Tr.len3 (λ_ _ _=>rfl))
  (case a1=>k_is);(case l1=>k_is);(case c1=>k_is);(case k1=>k_is)
  (case b1=>exact λ_ _ _ _ _ _=>Tr.len3 (λ_ _ _=>rfl))
  (case a2=>k_is);(case l2=>k_is);(case c2=>k_is);(case k2=>k_is)
  (case b2=>exact λ_ _ _ _ _ _=>Tr.len4 (λ_ _ _ _=>rfl))
  (case a3=>k_is);(case l3=>k_is);(case c3=>k_is);(case k3=>k_is)
  (case b3=>exact λ_ _ _ _ _ _=>Tr.len4 (λ_ _ _ _=>rfl))
  (case a4=>k_is);(case l4=>k_is);(case c4=>k_is);(case k4=>k_is)
  (case b4=>exact λ_ _ _ _ _ _=>Tr.len3 (λ_ _ _=>rfl))
  (case a5=>k_is);(case l5=>k_is);(case c5=>k_is);(case k5=>k_is)
  (case b5=>exact λ_ _ _ _ _ _=>Tr.len1 (λ_=>rfl))
  (case a6=>k_is);(case l6=>k_is);(case c6=>k_is);(case k6=>k_is)
  (case b6=>exact λ_ _ _ _ _ _=>Tr.len3 (λ_ _ _=>rfl))
  (case a7=>k_is);(case l7=>k_is);(case c7=>k_is);(case k7=>k_is)
  (case b7=>exact λ_ _ _ _ _ _=>Tr.len3 (λ_ _ _=>rfl))
  (case a8=>k_is);(case l8=>k_is);(case c8=>k_is);(case k8=>k_is)
  (case b8=>exact λ_ _ _ _ _ _=>Tr.len2 (λ_ _=>rfl))
  (case a9=>k_is);(case l9=>k_is);(case c9=>k_is);(case k9=>k_is)
  (case b9=>exact λ_ _ _ _ _ _=>Tr.len2 (λ_ _=>rfl))
  (case a10=>k_is);(case l10=>k_is);(case c10=>k_is);(case k10=>k_is)
  (case b10=>exact λ_ _ _ _ _ _=>Tr.len4 (λ_ _ _ _=>rfl))
  (case a11=>k_is);(case l11=>k_is);(case c11=>k_is);(case k11=>k_is)
  (case b11=>exact λ_ _ _ _ _ _=>Tr.len5 (λ_ _ _ _ _=>rfl))
  (case a12=>k_is);(case l12=>k_is);(case c12=>k_is);(case k12=>k_is)
  (case b12=>exact λ_ _ _ _ _ _=>Tr.len3 (λ_ _ _=>rfl))
  (case a13=>k_is);(case l13=>k_is);(case c13=>k_is);(case k13=>k_is)
  (case b13=>exact λ_ _ _ _ _ _=>Tr.len4 (λ_ _ _ _=>rfl))
  (case a14=>k_is);(case l14=>k_is);(case c14=>k_is);(case k14=>k_is)
  (case b14=>exact λ_ _ _ _ _ _=>Tr.len3 (λ_ _ _=>rfl))
  (case a15=>k_is);(case l15=>k_is);(case c15=>k_is);(case k15=>k_is)
  (case b15=>exact λ_ _ _ _ _ _=>Tr.len3 (λ_ _ _=>rfl))
  (case a16=>k_is);(case l16=>k_is);(case c16=>k_is);(case k16=>k_is)
  (case b16=>exact λ_ _ _ _ _ _=>Tr.len2 (λ_ _=>rfl))
  (case a17=>k_is);(case l17=>k_is);(case c17=>k_is);(case k17=>k_is)
  (case b17=>exact λ_ _ _ _ _ _=>Tr.len2 (λ_ _=>rfl))
  (case a18=>k_is);(case l18=>k_is);(case c18=>k_is);(case k18=>k_is)
  (case b18=>exact λ_ _ _ _ _ _=>Tr.len3 (λ_ _ _=>rfl))
  (case a19=>k_is);(case l19=>k_is);(case c19=>k_is);(case k19=>k_is)
  (case b19=>exact λ_ _ _ _ _ _=>Tr.len2 (λ_ _=>rfl))
  (case a20=>k_is);(case l20=>k_is);(case c20=>k_is);(case k20=>k_is)
  (case b20=>exact λ_ _ _ _ _ _=>Tr.len2 (λ_ _=>rfl))
  (case a21=>k_is);(case l21=>k_is);(case c21=>k_is);(case k21=>k_is)
  (case b21=>exact λ_ _ _ _ _ _=>Tr.len2 (λ_ _=>rfl))
  (case a22=>k_is);(case l22=>k_is);(case c22=>k_is);(case k22=>k_is)
  (case b22=>exact λ_ _ _ _ _ _=>Tr.len1 (λ_=>rfl))
  (case a23=>k_is);(case l23=>k_is);(case c23=>k_is);(case k23=>k_is)
  (case b23=>exact λ_ _ _ _ _ _=>Tr.len3 (λ_ _ _=>rfl))
  (case a24=>k_is);(case l24=>k_is);(case c24=>k_is);(case k24=>k_is)
  (case b24=>exact λ_ _ _ _ _ _=>Tr.len3 (λ_ _ _=>rfl))
  (case a25=>k_is);(case l25=>k_is);(case c25=>k_is);(case k25=>k_is)
  (case b25=>exact λ_ _ _ _ _ _=>Tr.len4 (λ_ _ _ _=>rfl))
  (case a26=>k_is);(case l26=>k_is);(case c26=>k_is);(case k26=>k_is)
  (case b26=>exact λ_ _ _ _ _ _=>Tr.len4 (λ_ _ _ _=>rfl))
  (case a27=>k_is);(case l27=>k_is);(case c27=>k_is);(case k27=>k_is)
  (case b27=>exact λ_ _ _ _ _ _=>Tr.len2 (λ_ _=>rfl))
  (case a28=>k_is);(case l28=>k_is);(case c28=>k_is);(case k28=>k_is)
  (case b28=>exact λ_ _ _ _ _ _=>Tr.len2 (λ_ _=>rfl))
  (case a29=>k_is);(case l29=>k_is);(case c29=>k_is);(case k29=>k_is)
  (case b29=>exact λ_ _ _ _ _ _=>Tr.len2 (λ_ _=>rfl))
  (case a30=>k_is);(case l30=>k_is);(case c30=>k_is);(case k30=>k_is)
  (case b30=>exact λ_ _ _ _ _ _=>Tr.len3 (λ_ _ _=>rfl))
  (case a31=>k_is);(case l31=>k_is);(case c31=>k_is);(case k31=>k_is)
  (case b31=>exact λ_ _ _ _ _ _=>Tr.len2 (λ_ _=>rfl))
  (case a32=>k_is);(case l32=>k_is);(case c32=>k_is);(case k32=>k_is)
  (case b32=>exact λ_ _ _ _ _ _=>Tr.len1 (λ_=>rfl))
  (case a33=>k_is);(case l33=>k_is);(case c33=>k_is);(case k33=>k_is)
  (case b33=>exact λ_ _ _ _ _ _=>Tr.len4 (λ_ _ _ _=>rfl))
  (case gg0=>k_is)
  (case gg1=>k_is)
  (case gg2=>k_is)
  (case gg3=>k_is)
  (case z0=>k_is)
  (case z1=>k_is)
  (case z2=>k_is)
  (case z3=>k_is)
  (case z4=>k_is)
  (case z5=>k_is)
  (case z6=>k_is)
  (case z7=>k_is)
  (case z8=>k_is)
  (case z9=>k_is)
  (case z10=>k_is)
  (case z11=>k_is)
  (case z12=>k_is)
  (case z13=>k_is)
  (case z14=>k_is)
  (case z15=>k_is)
  (case z16=>k_is)
  (case z17=>k_is)
  (case z18=>k_is)
