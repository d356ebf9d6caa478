import PyProof.Rows.All
import Wide.All
import OpenK.AllK
import Wide.FinOn
import Lean
import PyProof.EqAt
import PyProof.EqKinds
import PyProof.TupleCall
import PySem.Challenge.RW_troupe_k42_whole_least_with_papers
set_option Elab.async false
set_option genSizeOf false
set_option bootstrap.genMatcherCode false
set_option compiler.extract_closed false
set_option genSizeOfSpec false
set_option linter.all false
set_option maxRecDepth 100000
namespace K42
theorem both1 {a b:Bool} (h:(a&&b)=true):a=true:=(Bool.and_eq_true_iff.mp h).1
theorem both2 {a b:Bool} (h:(a&&b)=true):b=true:=(Bool.and_eq_true_iff.mp h).2
noncomputable def vw:PySem.Program:=PySem.W.view PySem.Challenge.pw_troupe_k42_whole_least_with_papers [1,2,3,4,5,7,8,9,10,11,12,14,16,17,18,19,20,21,22,23,24,26,27,28,29,30,31,32,33,35,36,37,38,39,41,42,43,44,45,46,47,48,49,50,51,52,53,54,55]
end K42
section
open PySem PySem.W PyProof.Rows
set_option maxHeartbeats 0
local macro_rules
  | `(tactic| o_head $H)=>`(tactic| (
    apply holds_open (N:=4100) (q:=K42.vw) (loose:=[])
      (Yf:=($H).obs) (Ya:=($H).val) (YP:=($H).says)
      (XP:=XL K42.vw []) (Xt:=fun s=>xlAt K42.vw [] s&&recOk (PySem.Challenge.rw_troupe_k42_whole_least_with_papers.row.toRowW).records s)
      (by intro w;kernel_rfl) ($H).of ($H).keeps
      (fun s e=>xl_of s (K42.both1 e)) XL.keeps
      rfl rfl rfl
      (fun s e=>recFacts_of (K42.both2 e))
      rfl (by assumption) (by decide +kernel)
      (by refine⟨rfl,rfl,rfl,rfl,rfl,?_⟩;decide +kernel)))
open_top K42.hd for PySem.Challenge.rw_troupe_k42_whole_least_with_papers
end
set_option Elab.async false
set_option linter.all false
set_option maxRecDepth 100000
namespace L2
open PySem PySem.Spec PyProof.Rows
noncomputable abbrev Key:=Sum Int Str
noncomputable def keyIs:Key→Value→Bool
 | .inl k,v=>Value.isInt k v
 | .inr x,v=>Value.isStrOf x v
noncomputable def keyH (w:World):Key→Int
 | .inl k=>hashInt k
 | .inr x=>hashStr w x
theorem keyIs_shape:∀ {k:Key} {v:Value},keyIs k v=true→(∃i t,k=Sum.inl i∧v=Value.int i t)∨(∃x t,k=Sum.inr x∧v=Value.str x t)
 | .inl i,v,h=>by
  obtain⟨t,e⟩:=Value.isInt_shape (k:=i) (v:=v) h
  exact .inl ⟨i,t,rfl,e⟩
 | .inr x,v,h=>by
  obtain⟨t,e⟩:=Value.isStrOf_shape (x:=x) (v:=v) h
  exact .inr ⟨x,t,rfl,e⟩
theorem keyIs_int (i:Int) (t:Tok):keyIs (.inl i) (.int i t)=true:=by simp[keyIs,Value.isInt]
theorem keyIs_str (x:Str) (t:Tok):keyIs (.inr x) (.str x t)=true:=by simp[keyIs,Value.isStrOf]
theorem key_ll (a b:Int):decide ((Sum.inl a:Key)=Sum.inl b)=(a==b):=by
 by_cases e:a=b
 ·subst e;simp
 ·have h:¬(Sum.inl a:Key)=Sum.inl b:=λq=>e (Sum.inl.inj q)
  rw[decide_eq_false h]
  exact (beq_eq_false_iff_ne.mpr e).symm
theorem key_rr (a b:Str):decide ((Sum.inr a:Key)=Sum.inr b)=decide (a=b):=by
 by_cases e:a=b
 ·subst e;simp
 ·have h:¬(Sum.inr a:Key)=Sum.inr b:=λq=>e (Sum.inr.inj q)
  rw[decide_eq_false h,decide_eq_false e]
theorem key_lr (a:Int) (b:Str):decide ((Sum.inl a:Key)=Sum.inr b)=false:=decide_eq_false (λq=>nomatch q)
theorem key_rl (a:Str) (b:Int):decide ((Sum.inr a:Key)=Sum.inl b)=false:=decide_eq_false (λq=>nomatch q)
noncomputable def mixKind (prog:Program) (w:World):PySem.KeyKind prog w Key where
 is:=keyIs
 hash:=keyH w
 inj:=λv a b ha hb=>by
  rcases keyIs_shape ha with ⟨i,t,rfl,rfl⟩ | ⟨x,t,rfl,rfl⟩
  ·rcases keyIs_shape hb with ⟨j,u,rfl,e⟩ | ⟨y,u,rfl,e⟩
   ·injection e with e1 _;rw[e1]
   ·exact nomatch e
  ·rcases keyIs_shape hb with ⟨j,u,rfl,e⟩ | ⟨y,u,rfl,e⟩
   ·exact nomatch e
   ·injection e with e1 _;rw[e1]
 byValue:=λk v h=>by
  rcases keyIs_shape h with ⟨i,t,rfl,rfl⟩ | ⟨x,t,rfl,rfl⟩<;>rfl
 pyHash:=λhv h=>by
  rcases keyIs_shape hv with ⟨i,t,rfl,rfl⟩ | ⟨x,t,rfl,rfl⟩
  ·exact wpAny_pyHash_int h
  ·exact wpAny_pyHash_str h
 eqBool:=λhu hv h=>by
  rcases keyIs_shape hu with ⟨i,t,rfl,rfl⟩ | ⟨x,t,rfl,rfl⟩
  ·rcases keyIs_shape hv with ⟨j,u,rfl,rfl⟩ | ⟨y,u,rfl,rfl⟩
   ·rw[key_ll] at h;exact wpAny_eqBool_int h
   ·rw[key_lr] at h;exact SeqAt.EqAt.int_str i t y u _ _ _ _ h
  ·rcases keyIs_shape hv with ⟨j,u,rfl,rfl⟩ | ⟨y,u,rfl,rfl⟩
   ·rw[key_rl] at h;exact SeqAt.EqAt.str_int x t j u _ _ _ _ h
   ·rw[key_rr] at h;exact wpAny_eqBool_str h
 «strs»:=λk x t v h=>by
  rcases keyIs_shape h with ⟨i,u,rfl,e⟩ | ⟨y,u,rfl,e⟩
  ·exact nomatch e
  ·injection e with e1 _
   subst e1
   cases v<;>rfl
theorem mixKind_int (prog:Program) (w:World) (i:Int) (t:Tok):(mixKind prog w).is (.inl i) (.int i t)=true:=keyIs_int i t
theorem mixKind_str (prog:Program) (w:World) (x:Str) (t:Tok):(mixKind prog w).is (.inr x) (.str x t)=true:=keyIs_str x t
inductive V where
 | non | bl (b:Bool) | int (i:Int) | str (x:Str) | byt (b:Array UInt8) | flt (b:UInt64) | ref (a:Addr) | ty (n:String)
 deriving DecidableEq
noncomputable def RelV:V→Value→Prop
 | .non,u=>u=Value.none
 | .bl b,u=>u=Value.bool b
 | .int i,u=>∃t,u=Value.int i t
 | .str x,u=>∃t,u=Value.str x t
 | .byt b,u=>∃t,u=Value.bytes b t
 | .flt b,u=>∃t,u=Value.float b t
 | .ref a,u=>u=Value.ref a
 | .ty n,u=>u=Value.type n
noncomputable abbrev Vals:List V→List Value→Prop:=Paired RelV
theorem Vals.length {xs:List V} {us:List Value} (r:Vals xs us):xs.length=us.length:=Paired.length r
theorem Vals.get:∀ {xs:List V} {us:List Value} {i:Nat} {x:V},Vals xs us→xs[i]?=some x→∃u,us[i]?=some u∧RelV x u
 | _,_,_,_,.nil,e=>by simp at e
 | _,_,0,_,.cons r _,e=>by simp at e;subst e;exact⟨_,rfl,r⟩
 | _,_,i+1,x,.cons _ t,e=>by
  obtain⟨u,h1,h2⟩:=Vals.get (i:=i) (x:=x) t (by simpa using e)
  exact⟨u,by simpa using h1,h2⟩
theorem Vals.append:∀ {xs ys:List V} {us ws:List Value},Vals xs us→Vals ys ws→Vals (xs++ys) (us++ws)
 | _,_,_,_,.nil,s=>s
 | _,_,_,_,.cons r t,s=>.cons r (Vals.append t s)
theorem Vals.take:∀ {xs:List V} {us:List Value} (n:Nat),Vals xs us→Vals (xs.take n) (us.take n)
 | _,_,0,_=>.nil
 | _,_,_+1,.nil=>.nil
 | _,_,n+1,.cons r t=>.cons r (Vals.take n t)
theorem Vals.drop:∀ {xs:List V} {us:List Value} (n:Nat),Vals xs us→Vals (xs.drop n) (us.drop n)
 | _,_,0,r=>r
 | _,_,_+1,.nil=>.nil
 | _,_,n+1,.cons _ t=>Vals.drop n t
noncomputable def RelO:Option V→Option Value→Prop
 | some v,some u=>RelV v u
 | none,none=>True
 | _,_=>False
noncomputable def KV {κ:Type}:List (κ×V)→List (κ×Value)→Prop:=Paired λ(p:κ×V) (q:κ×Value)=>p.1=q.1∧RelV p.2 q.2
noncomputable def kV:Key→V
 | .inl i=>.int i
 | .inr x=>.str x
inductive HO where
 | lst (xs:List V)
 | tup (xs:List V)
 | dK (kvs:List (Key×V)) | dT (kvs:List (List Key×V))
 | set (S:Int→Bool) (n:Nat)
 | ins (C dx:Addr) (fs:List (Str×V))
 | own (x:Addr)
 | xd (fs:List (Str×V))
 | met (f x:Addr)
 | rng (lo hi:Int)
 | frz (o:Obj) (u:HO)
 | tbl (ps:Array Value)
 | ext (φ:Heap→Prop)
noncomputable abbrev Hp:=Addr→Option HO
noncomputable def upd (H:Hp) (a:Addr) (o:HO):Hp:=λb=>if b=a then some o else H b
theorem upd_same {H:Hp} {a:Addr} {o:HO}:upd H a o a=some o:=by unfold upd;rw[if_pos rfl]
theorem upd_ne {H:Hp} {a b:Addr} {o:HO} (h:b≠a):upd H a o b=H b:=by unfold upd;rw[if_neg h]
theorem upd_upd {H:Hp} {a:Addr} {o u:HO}:upd (upd H a o) a u=upd H a u:=by
 funext b;unfold upd;split<;>rfl
theorem ne_of {H:Hp} {a b:Addr} {o u:HO} (h:H a=some o) (h':H b=some u) (d:o≠u):a≠b:=by
 intro e;subst e;rw[h] at h';exact d (Option.some.inj h')
theorem ne_of_none {H:Hp} {a b:Addr} {o:HO} (h:H a=some o) (h':H b=none):a≠b:=by
 intro e;subst e;rw[h] at h';cases h'
section
variable (P:Program) (w:World)
noncomputable def ObjOk (H:Hp) (h:Heap) (a:Addr):HO→Prop
 | .lst xs=>xs.length≤sizeLine∧∃(its:List Value) (n:Nat),Vals xs its∧h.get? a=some { cls:=.type "list", data:=.seq its.toArray n }
 | .tup xs=>xs.length≤sizeLine∧∃its:List Value,Vals xs its∧IsTup h a its.toArray
 | .dK kvs=>kvs.length≤sizeLine∧(a==sysModules)=false∧∃vs,KV kvs vs∧h.DictOf (mixKind P w) a vs
 | .dT kvs=>kvs.length≤sizeLine∧(a==sysModules)=false∧∃xs:List (List Key×Addr×Value),
  Paired (λ(p:List Key×V) (q:List Key×Addr×Value)=>p.1=q.1∧H q.2.1=some (.tup (p.1.map kV))∧RelV p.2 q.2.2) kvs xs ∧
  ∃o es ep,h.get? a=some o∧o.ExactDict∧o.data=.dict es ep∧es.toList=xs.map (entryOfKey (tupleKind (mixKind P w)))∧(xs.map (·.1)).Nodup
 | .set S n=>h.SetOf (intKind P w) a S n
 | .ins C dx fs=>H dx=some (.own a)∧fs.length≤1000∧dx≠a∧h.get? a=some (PySem.W.instObj C dx) ∧
  ∃mA,h.Ns1 dx mA∧(∀f,RelO (fs.lookup f) (mA f))∧PySem.Within mA (fs.map (·.1))
 | .own _=>∃o,h.get? a=some o
 | .xd fs=>∃mA,h.Ns1 a mA∧∀f,RelO (fs.lookup f) (mA f)
 | .rng lo hi=>∃t u v,h.get? a=some { cls:=.type "range", data:=.fields #[.int lo t,.int hi u,.int 1 v] }
 | .frz o u=>h.get? a=some o∧ObjOk H h a u
 | .tbl ps=>h.get? a=some { cls:=.none,data:=.fields ps }
 | .met f x=>h.get? a=some (PySem.W.methodObj (.ref f) (.ref x))
 | .ext φ=>φ h∧(∃o,h.get? a=some o)∧∀h1 h2:Heap,φ h1→(∀o,h1.get? a=some o→h2.get? a=some o)→φ h2
noncomputable def HOk (H:Hp) (h:Heap):Prop:=∀a o,H a=some o→ObjOk P w H h a o
end
section
variable {P:Program} {w:World} {H H':Hp} {h h':Heap} {a:Addr} {o:HO}
theorem ObjOk.lt (x:ObjOk P w H h a o):a < h.objs.size:=by
 cases o with
 | lst xs=>obtain⟨_,_,_,_,e⟩:=x;exact Heap.lt_size e
 | tup xs=>obtain⟨_,_,_,p⟩:=x;exact p.lt
 | dK kvs=>obtain⟨_,_,_,_,o,_,_,e,_⟩:=x;exact Heap.lt_size e
 | dT kvs=>obtain⟨_,_,_,_,o,_,_,e,_⟩:=x;exact Heap.lt_size e
 | set S n=>obtain⟨o,_,_,_,e,_⟩:=x;exact Heap.lt_size e
 | ins C dx fs=>obtain⟨_,_,_,e,_⟩:=x;exact Heap.lt_size e
 | own y=>obtain⟨_,e⟩:=x;exact Heap.lt_size e
 | xd fs=>obtain⟨_,⟨_,_,_,e,_⟩,_⟩:=x;exact Heap.lt_size e
 | rng lo hi=>obtain⟨_,_,_,e⟩:=x;exact Heap.lt_size e
 | frz ob u=>obtain⟨e,_⟩:=x;exact Heap.lt_size e
 | tbl ps=>exact Heap.lt_size (show h.get? a=some _ from x)
 | met f y=>exact Heap.lt_size (show h.get? a=some _ from x)
 | ext φ=>obtain⟨_,⟨_,e⟩,_⟩:=x;exact Heap.lt_size e
theorem Paired.mapP {α β:Type} {F G:α→β→Prop}:∀ {l₁:List α} {l₂:List β},Paired F l₁ l₂→(∀a b,F a b→G a b)→Paired G l₁ l₂
 | _,_,.nil,_=>.nil
 | _,_,.cons r t,f=>.cons (f _ _ r) (Paired.mapP t f)
theorem ObjOk.stay (x:ObjOk P w H h a o) (k:∀b u,(b=a∨H b=some (.own a))→h.get? b=some u→h'.get? b=some u)
 (ho:∀b,H b=some (.own a)→H' b=some (.own a)) (ht:∀b xs,H b=some (.tup xs)→H' b=some (.tup xs)):ObjOk P w H' h' a o:=by
 induction o with
 | lst xs=>obtain⟨z,its,n,r,e⟩:=x;exact⟨z,its,n,r,k _ _ (.inl rfl) e⟩
 | tup xs=>obtain⟨z,its,r,ob,e,c⟩:=x;exact⟨z,its,r,ob,k _ _ (.inl rfl) e,c⟩
 | dK kvs=>obtain⟨z,y,vs,r,ob,es,ep,e,c⟩:=x;exact⟨z,y,vs,r,ob,es,ep,k _ _ (.inl rfl) e,c⟩
 | dT kvs =>
  obtain⟨z,y,xs,r,ob,es,ep,e,c⟩:=x
  exact⟨z,y,xs,Paired.mapP r λp q z=>⟨z.1,ht _ _ z.2.1,z.2.2⟩,ob,es,ep,k _ _ (.inl rfl) e,c⟩
 | set S n=>obtain⟨ob,es,ep,t,e,c⟩:=x;exact⟨ob,es,ep,t,k _ _ (.inl rfl) e,c⟩
 | ins C dx fs =>
  obtain⟨d,z,ne,e,mA,⟨od,es,ep,e2,c⟩,r⟩:=x
  exact⟨ho _ d,z,ne,k _ _ (.inl rfl) e,mA,⟨od,es,ep,k _ _ (.inr d) e2,c⟩,r⟩
 | own y=>obtain⟨ob,e⟩:=x;exact⟨ob,k _ _ (.inl rfl) e⟩
 | xd fs=>obtain⟨mA,⟨od,es,ep,e,c⟩,r⟩:=x;exact⟨mA,⟨od,es,ep,k _ _ (.inl rfl) e,c⟩,r⟩
 | rng lo hi=>obtain⟨t,u,v,e⟩:=x;exact⟨t,u,v,k _ _ (.inl rfl) e⟩
 | frz ob u ih=>obtain⟨e,q⟩:=x;exact⟨k _ _ (.inl rfl) e,ih q⟩
 | tbl ps =>
  have e:h.get? a=some { cls:=.none,data:=.fields ps }:=x
  show h'.get? a=some { cls:=.none,data:=.fields ps }
  exact k a _ (.inl rfl) e
 | met f y =>
  have e:h.get? a=some (PySem.W.methodObj (.ref f) (.ref y)):=x
  show h'.get? a=some (PySem.W.methodObj (.ref f) (.ref y))
  exact k a _ (.inl rfl) e
 | ext φ=>obtain⟨p,⟨o,e⟩,st⟩:=x;exact⟨st _ _ p λo q=>k _ _ (.inl rfl) q,⟨o,k _ _ (.inl rfl) e⟩,st⟩
theorem HOk.lt (x:HOk P w H h) (e:H a=some o):a < h.objs.size:=(x a o e).lt
theorem HOk.fresh (x:HOk P w H h) (e:h.objs.size≤a):H a=none:=by
 cases q:H a with
 | none=>rfl
 | some u=>exact absurd (Nat.lt_of_lt_of_le (x.lt q) e) (Nat.lt_irrefl _)
theorem HOk.kept (x:HOk P w H h) (k:∀b u,h.get? b=some u→h'.get? b=some u):HOk P w H h':=λa o e =>
 (x a o e).stay (λb u _ q=>k b u q) (λ_ q=>q) λ_ _ q=>q
theorem HOk.laid (x:HOk P w H h) (k:∀b u,h.get? b=some u→h'.get? b=some u) (hp:h.objs.size≤a) (new:ObjOk P w (upd H a o) h' a o):HOk P w (upd H a o) h':=λb u e=>by
 have hn:=x.fresh hp
 by_cases hb:b=a
 ·subst hb;rw[upd_same] at e;cases e;exact new
 ·rw[upd_ne hb] at e
  exact (x b u e).stay (λc v _ q=>k c v q) (λc q=>by rw[upd_ne (ne_of_none q hn)];exact q) λc xs q=>by rw[upd_ne (ne_of_none q hn)];exact q
end
noncomputable def Rd (H:Hp) (a:Addr) (u:HO):Prop:=H a=some u∨∃o,H a=some (.frz o u)
theorem Rd.ok {P:Program} {w:World} {H:Hp} {h:Heap} {a:Addr} {u:HO} (r:Rd H a u) (x:HOk P w H h):ObjOk P w H h a u:=by
 rcases r with r | ⟨o,r⟩
 ·exact x a u r
 ·obtain⟨_,q⟩:=x a _ r
  exact q
noncomputable def Mut:Option HO→Prop
 | some (.lst _)=>True
 | some (.dK _)=>True
 | some (.dT _)=>True
 | some (.set _ _)=>True
 | some (.ins _ _ _)=>True
 | some (.ext _)=>True
 | _=>False
section
variable {P:Program} {w:World} {H:Hp} {h h':Heap} {x e:Addr} {o':HO}
theorem HOk.write (ok:HOk P w H h) (mu:Mut (H x)) (he:e=x∨H e=some (.own x)) (k:∀b u,b≠e→h.get? b=some u→h'.get? b=some u) (heo:∃u,h'.get? e=some u)
 (new:ObjOk P w (upd H x o') h' x o'):HOk P w (upd H x o') h':=λb u q=>by
 have nown:∀c y,H c=some (.own y)→c≠x:=λc y r z=>by subst z;rw[r] at mu;exact mu
 have ntup:∀c xs,H c=some (.tup xs)→c≠x:=λc xs r z=>by subst z;rw[r] at mu;exact mu
 by_cases hb:b=x
 ·subst hb;rw[upd_same] at q;cases q;exact new
 ·rw[upd_ne hb] at q
  by_cases hbe:b=e
  ·have q':H b=some (.own x):=by
    rcases he with z | z
    ·exact absurd (hbe.trans z) hb
    ·rw[hbe];exact z
   rw[q] at q';cases q'
   obtain⟨v,hv⟩:=heo
   exact⟨v,by rw[hbe];exact hv⟩
  ·refine (ok b u q).stay (λc v hc r=>k c v ?_ r) (λc r=>by rw[upd_ne (nown c b r)];exact r) λc xs r=>by rw[upd_ne (ntup c xs r)];exact r
   rcases hc with rfl | hc
   ·exact hbe
   ·rintro rfl
    rcases he with z | z
    ·exact nown c b hc z
    ·rw[hc] at z;cases z;exact hb rfl
end
set_option genInjectivity false in
structure Un (fs ex:List Addr) (H H':Hp) (h h':Heap):Prop where
 keep:∀b o,h.get? b=some o→H b=none→b∉fs→b∉ex→h'.get? b=some o
 slot:∀b o,h.get? b=some o→H b=none→b∈fs→b∉ex→∃sl,h'.get? b=some { o with slots:=sl }
 free:∀b o,h.get? b=some o→H b=none→b∉ex→H' b=none
 there:∀b o,h.get? b=some o→b∉ex→∃o',h'.get? b=some o'
 tups:∀b xs,H b=some (.tup xs)→H' b=some (.tup xs)
 frzs:∀b o u,H b=some (.frz o u)→H' b=some (.frz o u)
 tbls:∀b ps,H b=some (.tbl ps)→∃more,H' b=some (.tbl (ps++more))
section
variable {fs fs' ex ex':List Addr} {H H1 H2:Hp} {h h1 h2 h':Heap} {a x e:Addr} {o:HO}
theorem Un.any (u:Un fs ex H H1 h h1) {b:Addr} {ob:Obj} (q:h.get? b=some ob) (n:H b=none) (hx:b∉ex):∃sl,h1.get? b=some { ob with slots:=sl }:=by
 by_cases hb:b∈fs
 ·exact u.slot b ob q n hb hx
 ·exact⟨ob.slots,u.keep b ob q n hb hx⟩
theorem Un.kept (k:∀b u,h.get? b=some u→h'.get? b=some u):Un fs ex H H h h' :=
 ⟨λb ob q _ _ _=>k b ob q,λb ob q _ _ _=>⟨ob.slots,k b ob q⟩,λ_ _ _ n _=>n,λb ob q _=>⟨ob,k b ob q⟩,λ_ _ q=>q,λ_ _ _ q=>q,λ_ ps q=>⟨#[],by rw[q];simp⟩⟩
theorem Un.refl:Un fs ex H H h h:=Un.kept λ_ _ q=>q
theorem Un.laid (k:∀b u,h.get? b=some u→h'.get? b=some u) (hp:h.objs.size≤a) (hn:H a=none):Un fs ex H (upd H a o) h h' where
 keep:=λb u q _ _ _=>k b u q
 slot:=λb u q _ _ _=>⟨u.slots,k b u q⟩
 free:=λb u q n _=>by rw[upd_ne (Nat.ne_of_lt (Nat.lt_of_lt_of_le (Heap.lt_size q) hp))];exact n
 there:=λb u q _=>⟨u,k b u q⟩
 tups:=λb xs q=>by rw[upd_ne (ne_of_none q hn)];exact q
 frzs:=λb u xs q=>by rw[upd_ne (ne_of_none q hn)];exact q
 tbls:=λb ps q=>⟨#[],by rw[upd_ne (ne_of_none q hn),q];simp⟩
theorem Un.write (mu:Mut (H x)) (he:e=x∨H e=some (.own x)) (k:∀b u,b≠e→h.get? b=some u→h'.get? b=some u) (heo:∃u,h'.get? e=some u):Un fs ex H (upd H x o) h h':=by
 have hx:∀b,H b=none→b≠x:=λb n z=>by subst z;rw[n] at mu;exact mu
 have hb:∀b,H b=none→b≠e:=λb n z=>by
  subst z
  rcases he with r | r
  ·exact hx b n r
  ·rw[n] at r;cases r
 have hm:∀b u,H b=some u→¬Mut (some u)→b≠x:=λb u q nm z=>by subst z;rw[q] at mu;exact nm mu
 refine⟨λb u q n _ _=>k b u (hb b n) q,λb u q n _ _=>⟨u.slots,k b u (hb b n) q⟩,λb u q n _=>by rw[upd_ne (hx b n)];exact n,λb u q _=>?_,
  λb xs q=>by rw[upd_ne (hm b _ q λz=>z)];exact q,λb u xs q=>by rw[upd_ne (hm b _ q λz=>z)];exact q,λb ps q=>⟨#[],by rw[upd_ne (hm b _ q λz=>z),q];simp⟩⟩
 by_cases hbe:b=e
 ·subst hbe;exact heo
 ·exact⟨u,k b u hbe q⟩
end
noncomputable def trk (h:Heap) (H:Hp):List Addr:=(List.range h.objs.size).filter λa=>(H a).isSome
noncomputable def hidT (h:Heap) (H:Hp):Heap:=PySem.W.hideAll h (trk h H)
theorem hidT_size (h:Heap) (H:Hp):(hidT h H).objs.size=h.objs.size:=PySem.W.hideAll_size _ _
theorem hidT_get {h:Heap} {H:Hp} {b:Addr} {o:Obj} (e:h.get? b=some o) (n:H b=none):(hidT h H).get? b=some o :=
 PySem.W.hideAll_get _ e λhm=>by
  have q:(H b).isSome=true:=(List.mem_filter.mp hm).2
  rw[n] at q;simp at q
theorem of_hidT {h:Heap} {H:Hp} {b:Addr} {o:Obj} (e:(hidT h H).get? b=some o):h.get? b=some o∧H b=none:=by
 have e':h.get? b=some o:=PySem.W.of_hideAll (trk h H) e
 refine⟨e',?_⟩
 cases q:H b with
 | none=>rfl
 | some x =>
  have hm:b∈trk h H:=List.mem_filter.mpr ⟨List.mem_range.mpr (Heap.lt_size e'),by simp[q]⟩
  have z:(hidT h H).get? b=none:=PySem.W.hideAll_none (trk h H) hm
  rw[z] at e;cases e
set_option genInjectivity false in
structure Mod (K:PySem.W.Frag) (mg:Str→Option Value) (base:Heap):Prop where
 kin:K.In base
 glob:base.Ns mainGlobals mg
 blt:∃mb,base.Ns builtinsNs mb∧∀x:Str,x ≠ "__name__" → mb x=bootBuiltins x
 nolimit:base.NoLimit
set_option genInjectivity false in
structure Cx where
 prog:Program
 w:World
 K:PySem.W.Frag
 mg:Str→Option Value
 base:Heap
 A:Around
 N:List Str
 s₀:Shared
 H₀:Hp
 env:Env
 outer:List Env
 stack:List Env
 ex:List Addr
 fn:Str→Bool
 calm:Bool
 pn:List (Addr×Obj)
 xe:Value→Shared→Prop
noncomputable def frs (l:List Env):List Addr:=l.filterMap (·.frame)
noncomputable abbrev Cx.fs (X:Cx):List Addr:=frs X.outer
noncomputable def Vis (sc:Scope) (x:Str):Prop:=sc.names.lookup x=some .local∨sc.names.lookup x=some .cell∨sc.names.lookup x=some .free
noncomputable def Loc (sc:Scope) (x:Str):Prop:=sc.names.lookup x=some .local∨sc.names.lookup x=some .cell
noncomputable def Look (env:Env) (h:Heap) (m:Str→Option Value) (x:Str) (u:Value):Prop :=
 (env.kindOf x=some .local∧m x=some u)∨((env.kindOf x=some .cell∨env.kindOf x=some .free)∧∃c,env.cells.lookup x=some c∧h.IsCell c (some u))
set_option genInjectivity false in
structure Cx.Ok (X:Cx):Prop where
 mod:Mod X.K X.mg X.base
 kind:X.env.scope.kind=.function
 glob:X.env.globals=mainGlobals
 blt:X.env.builtins=builtinsNs
 above:X.s₀.heap.objs.size≤X.env.locals
 inj:∀x y c,X.env.cells.lookup x=some c→X.env.cells.lookup y=some c→x=y
 has:∀x,(X.env.kindOf x=some .cell∨X.env.kindOf x=some .free)→∃c,X.env.cells.lookup x=some c
 cab:∀x c,X.fn x=true→X.env.cells.lookup x=some c→X.s₀.heap.objs.size≤c
 hd:X.calm=true→X.A.handled=none
 frames:X.A.frames=some X.stack
 stk:X.stack=X.outer∨(X.stack=X.env::X.outer∧X.env.frame=some X.env.locals)
 exf:∀b∈X.ex,b≠X.env.locals∧∀x c,X.env.cells.lookup x=some c→c≠b
 bs:∀b o,X.base.get? b=some o→X.s₀.heap.get? b=some o∧X.H₀ b=none
 bsz:X.base.objs.size≤X.s₀.heap.objs.size
 noex:∀b o,X.base.get? b=some o→b∉X.ex
 exfs:∀b∈X.ex,b∉X.fs
 funs:X.s₀.heap.FunFrames X.base X.outer
 frf:∀b∈X.fs,X.H₀ b=none
set_option genInjectivity false in
structure Inv (X:Cx) (pins:List (Addr×Obj)) (σ:List (Option V)) (H:Hp) (s:Shared):Prop where
 ok:X.Ok
 os:s.os=X.s₀.os
 bare:AllBare s.gens
 base:Un X.fs X.ex X.H₀ H X.s₀.heap s.heap
 loc:∃m,s.heap.Ns X.env.locals m∧∀(i:Nat) (x:Str) (v:V),X.N[i]?=some x→σ[i]?=some (some v)→Vis X.env.scope x→∃u,RelV v u∧Look X.env s.heap m x u
 cell:∀x c,X.env.cells.lookup x=some c→∃v,s.heap.IsCell c v
 free:H X.env.locals=none
 freeC:∀x c,X.env.cells.lookup x=some c→H c=none
 pin:∀p∈X.pn++pins,s.heap.get? p.1=some p.2∧H p.1=none∧p.1≠X.env.locals∧p.1∉X.fs∧∀v,p.2.data≠.cell v
 hok:HOk X.prog X.w H s.heap
 len:σ.length=X.N.length
section
variable {X:Cx} {pins:List (Addr×Obj)} {σ:List (Option V)} {H H':Hp} {s:Shared} {h':Heap}
theorem Cx.Ok.nofr (ok:X.Ok) {b:Addr} {o:Obj} (e:X.base.get? b=some o):b∉X.fs:=λhb=>by
 have:=(ok.funs.mem hb).1
 rw[e] at this;cases this
theorem Inv.bs (I:Inv X pins σ H s):∀b o,X.base.get? b=some o→s.heap.get? b=some o∧H b=none:=λb o e =>
 ⟨I.base.keep b o (I.ok.bs b o e).1 (I.ok.bs b o e).2 (I.ok.nofr e) (I.ok.noex b o e),I.base.free b o (I.ok.bs b o e).1 (I.ok.bs b o e).2 (I.ok.noex b o e)⟩
theorem Inv.bk (I:Inv X pins σ H s):∀b o,X.base.get? b=some o→s.heap.get? b=some o:=λb o e=>(I.bs b o e).1
theorem Inv.mod (I:Inv X pins σ H s):Mod X.K X.mg X.base:=I.ok.mod
theorem Inv.kIn (I:Inv X pins σ H s):X.K.In s.heap:=I.ok.mod.kin.keeps I.bk
theorem Inv.lt (I:Inv X pins σ H s):X.env.locals < s.heap.objs.size:=let ⟨_,hn,_⟩:=I.loc;hn.lt
theorem Inv.sz (I:Inv X pins σ H s):X.s₀.heap.objs.size≤s.heap.objs.size:=Nat.le_trans I.ok.above (Nat.le_of_lt I.lt)
theorem Inv.nofs (I:Inv X pins σ H s) {a:Addr} (h:s.heap.objs.size≤a):a∉X.fs:=λhb=>by
 obtain⟨_,o,ho,_⟩:=I.ok.funs.mem hb
 exact absurd (Nat.lt_of_lt_of_le (Heap.lt_size ho) (Nat.le_trans I.sz h)) (Nat.lt_irrefl _)
theorem Inv.cne (I:Inv X pins σ H s):∀x c,X.env.cells.lookup x=some c→c≠X.env.locals:=λx c e z=>by
 obtain⟨v,o,ho,hd⟩:=I.cell x c e
 obtain⟨m,⟨o',es,ep,ho',hd',_⟩,_⟩:=I.loc
 rw[z,ho'] at ho;cases ho;rw[hd'] at hd;cases hd
theorem Inv.funs (I:Inv X pins σ H s):s.heap.FunFrames X.base X.outer:=by
 have all:∀(l:List Env),(∀b∈frs l,b∈X.fs)→X.s₀.heap.FunFrames X.base l→s.heap.FunFrames X.base l:=by
  intro l
  induction l with
  | nil=>intro _ _;trivial
  | cons env r ih =>
   intro hs hl
   obtain⟨hk,⟨L,o,hf,hn,ho,hd⟩,hr⟩:=hl
   have hL:L∈X.fs:=hs L (by unfold frs;rw[List.filterMap_cons,hf];exact List.mem_cons_self)
   obtain⟨sl,e⟩:=I.base.slot L o ho (I.ok.frf L hL) hL λz=>I.ok.exfs L z hL
   exact⟨hk,⟨L,_,hf,hn,e,hd⟩,ih (λb hb=>hs b (by unfold frs;rw[List.filterMap_cons,hf];exact List.mem_cons_of_mem _ hb)) hr⟩
 exact all X.outer (λ_ hb=>hb) I.ok.funs
theorem Inv.stack (I:Inv X pins σ H s):s.heap.FunFrames X.base X.stack:=by
 rcases I.ok.stk with e | ⟨e,hf⟩
 ·rw[e];exact I.funs
 ·rw[e]
  obtain⟨m,hn,_⟩:=I.loc
  refine .cons (by rw[I.ok.kind];decide) hf hn ?_ I.funs
  exact Heap.get?_none_of_le (Nat.le_trans I.ok.bsz I.ok.above)
theorem Inv.stkSub (I:Inv X pins σ H s):∀b∈frs X.stack,b∈X.env.locals::X.fs:=λb hb=>by
 rcases I.ok.stk with e | ⟨e,hf⟩
 ·rw[e] at hb;exact List.mem_cons_of_mem _ hb
 ·rw[e] at hb
  unfold frs at hb
  rw[List.filterMap_cons,hf] at hb
  exact hb
theorem Inv.stkFree (I:Inv X pins σ H s):∀b∈frs X.stack,H b=none:=λb hb=>by
 rcases List.mem_cons.mp (I.stkSub b hb) with e | hb
 ·rw[e];exact I.free
 ·obtain⟨_,o,ho,_⟩:=I.ok.funs.mem hb
  exact I.base.free b o ho (I.ok.frf b hb) λz=>I.ok.exfs b z hb
theorem Inv.step {g':Array GenState} {t':Nat} {d':Drawn} {ch:List Addr} (I:Inv X pins σ H s)
 (hch:∀b∈ch,(b∈X.ex∨X.s₀.heap.objs.size≤b)∧b≠X.env.locals∧(∀x c,X.env.cells.lookup x=some c→c≠b)∧∀p∈X.pn++pins,p.1≠b)
 (keep:∀b o,b≠X.env.locals→b∉X.fs→b∉ch→s.heap.get? b=some o→H b=none→h'.get? b=some o)
 (slot:∀b o,b≠X.env.locals→b∈X.fs→b∉ch→s.heap.get? b=some o→H b=none→∃sl,h'.get? b=some { o with slots:=sl }) (free:∀b o,b∉ch→s.heap.get? b=some o→H b=none→H' b=none)
 (there:∀b o,b∉ch→s.heap.get? b=some o→∃o',h'.get? b=some o')
 (tups:∀b xs,H b=some (.tup xs)→H' b=some (.tup xs)) (frzs:∀b o u,H b=some (.frz o u)→H' b=some (.frz o u)) (tbls:∀b ps,H b=some (.tbl ps)→∃more,H' b=some (.tbl (ps++more)))
 (ns:∀m,s.heap.Ns X.env.locals m→h'.Ns X.env.locals m) (hok:HOk X.prog X.w H' h') (hg:AllBare g') :
 Inv X pins σ H' { s with heap:=h',gens:=g',drawn:=d',toks:=t' }:=by
 have neL:∀b o,X.s₀.heap.get? b=some o→b≠X.env.locals:=λb o e=>Nat.ne_of_lt (Nat.lt_of_lt_of_le (Heap.lt_size e) I.ok.above)
 have neC:∀b o,X.s₀.heap.get? b=some o→b∉X.ex→b∉ch:=λb o e hx hb=>by
  rcases (hch b hb).1 with z | z
  ·exact hx z
  ·exact absurd (Nat.lt_of_lt_of_le (Heap.lt_size e) z) (Nat.lt_irrefl _)
 have cellK:∀x c,X.env.cells.lookup x=some c→∀v,s.heap.IsCell c v→h'.IsCell c v:=λx c e v ⟨o,ho,hd⟩=>by
  have nch:c∉ch:=λz=>(hch c z).2.2.1 x c e rfl
  by_cases hc:c∈X.fs
  ·obtain⟨sl,q⟩:=slot c o (I.cne x c e) hc nch ho (I.freeC x c e)
   exact⟨_,q,hd⟩
  ·exact⟨o,keep c o (I.cne x c e) hc nch ho (I.freeC x c e),hd⟩
 refine⟨I.ok,I.os,hg,⟨λb o e n hb hx=>?_,λb o e n hb hx=>?_,λb o e n hx=>?_,λb o e hx=>?_,λb xs e=>tups b xs (I.base.tups b xs e),λb o xs e=>frzs b o xs (I.base.frzs b o xs e),λb ps e=>?_⟩,?_,λx c e=>?_,?_,λx c e=>?_,λp hp=>?_,hok,I.len⟩
 ·exact keep b o (neL b o e) hb (neC b o e hx) (I.base.keep b o e n hb hx) (I.base.free b o e n hx)
 ·obtain⟨sl,e1⟩:=I.base.slot b o e n hb hx
  obtain⟨sl',e2⟩:=slot b _ (neL b o e) hb (neC b o e hx) e1 (I.base.free b o e n hx)
  exact⟨sl',e2⟩
 ·obtain⟨o',e1⟩:=I.base.there b o e hx
  exact free b o' (neC b o e hx) e1 (I.base.free b o e n hx)
 ·obtain⟨o',e1⟩:=I.base.there b o e hx
  exact there b o' (neC b o e hx) e1
 ·obtain⟨m1,e1⟩:=I.base.tbls b ps e
  obtain⟨m2,e2⟩:=tbls b _ e1
  exact⟨m1++m2,by rw[e2,Array.append_assoc]⟩
 ·obtain⟨m,hn,hl⟩:=I.loc
  refine⟨m,ns m hn,λi x v e1 e2 e3=>?_⟩
  obtain⟨u,r,l⟩:=hl i x v e1 e2 e3
  refine⟨u,r,?_⟩
  rcases l with l | ⟨k,c,e,z⟩
  ·exact .inl l
  ·exact .inr ⟨k,c,e,cellK x c e _ z⟩
 ·obtain⟨v,z⟩:=I.cell x c e
  exact⟨v,cellK x c e v z⟩
 ·obtain⟨m,⟨o,_,_,ho,_⟩,_⟩:=I.loc
  exact free _ o (λz=>(hch _ z).2.1 rfl) ho I.free
 ·obtain⟨v,o,ho,hd⟩:=I.cell x c e
  exact free c o (λz=>(hch c z).2.2.1 x c e rfl) ho (I.freeC x c e)
 ·obtain⟨e,n,ne,nf,d⟩:=I.pin p hp
  have nch:p.1∉ch:=λz=>(hch p.1 z).2.2.2 p hp rfl
  exact⟨keep p.1 p.2 ne nf nch e n,free p.1 p.2 nch e n,ne,nf,d⟩
theorem Inv.un {t':Nat} (I:Inv X pins σ H s) (u:Un X.fs [] H H' s.heap h') (hok:HOk X.prog X.w H' h'):Inv X pins σ H' { s with heap:=h',toks:=t' }:=by
 obtain⟨m,⟨o,es,ep,ho,r⟩,_⟩:=id I.loc
 obtain⟨sl,hL⟩:=u.any ho I.free (by simp)
 exact I.step (g':=s.gens) (d':=s.drawn) (ch:=[]) (λ_ z=>nomatch z) (λb o _ hb _ e n=>u.keep b o e n hb (by simp)) (λb o _ hb _ e n=>u.slot b o e n hb (by simp)) (λb o _ e n=>u.free b o e n (by simp)) (λb o _ e=>u.there b o e (by simp)) u.tups u.frzs u.tbls (λm' hm=>by
  obtain⟨o',es',ep',ho',r'⟩:=hm
  rw[ho] at ho';cases ho'
  exact⟨_,es',ep',hL,r'⟩) hok I.bare
theorem Inv.call {g':Array GenState} {t':Nat} {d':Drawn} {ch:List Addr} (I:Inv X pins σ H s) (u:Un (frs X.stack) ch H H' s.heap h') (hok:HOk X.prog X.w H' h') (hg:AllBare g')
 (hch:∀b∈ch,(b∈X.ex∨X.s₀.heap.objs.size≤b)∧b≠X.env.locals∧(∀x c,X.env.cells.lookup x=some c→c≠b)∧∀p∈X.pn++pins,p.1≠b) :
 Inv X pins σ H' { s with heap:=h',gens:=g',drawn:=d',toks:=t' }:=by
 obtain⟨m,⟨o,es,ep,ho,r⟩,_⟩:=id I.loc
 obtain⟨sl,hL⟩:=u.any ho I.free λz=>(hch _ z).2.1 rfl
 exact I.step (ch:=ch) hch (λb o hL hb hc e n=>u.keep b o e n (λz=>(List.mem_cons.mp (I.stkSub b z)).elim hL hb) hc) (λb o _ _ hc e n=>u.any e n hc) (λb o hc e n=>u.free b o e n hc) (λb o hc e=>u.there b o e hc) u.tups u.frzs u.tbls (λm' hm=>by
  obtain⟨o',es',ep',ho',r'⟩:=hm
  rw[ho] at ho';cases ho'
  exact⟨_,es',ep',hL,r'⟩) hok hg
theorem Inv.turned {t':Nat} {it:Addr} (I:Inv X pins σ H s) (k:∀b o,b≠it→s.heap.get? b=some o→h'.get? b=some o) (hn:H it=none) (hL:it≠X.env.locals)
 (h1:it∈X.ex∨X.s₀.heap.objs.size≤it) (h2:∀x c,X.env.cells.lookup x=some c→c≠it) (h3:∀p∈X.pn++pins,p.1≠it):Inv X pins σ H { s with heap:=h',toks:=t' }:=by
 have nit:∀b u,H b=some u→b≠it:=λb u e z=>by rw[z,hn] at e;cases e
 refine I.step (g':=s.gens) (d':=s.drawn) (ch:=[it]) (λb hb=>?_) (λb o _ _ hc e _=>k b o (λz=>hc (by simp[z])) e) (λb o _ _ hc e _=>⟨o.slots,k b o (λz=>hc (by simp[z])) e⟩) (λ_ _ _ _ n=>n)
  (λb o hc e=>⟨o,k b o (λz=>hc (by simp[z])) e⟩) (λ_ _ e=>e) (λ_ _ _ e=>e) (λb ps e=>⟨#[],by rw[e];simp⟩) (λm hm=>?_) (λb u e=>?_) I.bare
 ·have e:b=it:=by simpa using hb
  subst e
  exact⟨h1,hL,h2,h3⟩
 ·obtain⟨o,es,ep,ho,r⟩:=hm
  exact⟨o,es,ep,k _ o (Ne.symm hL) ho,r⟩
 ·refine (I.hok b u e).stay (λc v hc q=>k c v ?_ q) (λ_ q=>q) λ_ _ q=>q
  rcases hc with z | z
  ·rw[z];exact nit b u e
  ·exact nit c _ z
theorem Inv.tok (I:Inv X pins σ H s) (t:Nat):Inv X pins σ H { s with toks:=t }:=I.un (h':=s.heap) (t':=t) Un.refl I.hok
theorem Inv.kept {t':Nat} (I:Inv X pins σ H s) (k:∀b u,s.heap.get? b=some u→h'.get? b=some u):Inv X pins σ H { s with heap:=h',toks:=t' }:=I.un (Un.kept k) (I.hok.kept k)
theorem Inv.laid {a:Addr} {o:HO} {t':Nat} (I:Inv X pins σ H s) (k:∀b u,s.heap.get? b=some u→h'.get? b=some u) (hp:s.heap.objs.size≤a) (new:ObjOk X.prog X.w (upd H a o) h' a o) :
 Inv X pins σ (upd H a o) { s with heap:=h',toks:=t' }:=I.un (Un.laid k hp (I.hok.fresh hp)) (I.hok.laid k hp new)
theorem Inv.write {x e:Addr} {o:HO} {t':Nat} (I:Inv X pins σ H s) (mu:Mut (H x)) (he:e=x∨H e=some (.own x)) (k:∀b u,b≠e→s.heap.get? b=some u→h'.get? b=some u) (heo:∃u,h'.get? e=some u)
 (new:ObjOk X.prog X.w (upd H x o) h' x o):Inv X pins σ (upd H x o) { s with heap:=h',toks:=t' }:=I.un (Un.write mu he k heo) (I.hok.write mu he k heo new)
theorem Inv.pins_of {pins':List (Addr×Obj)} (I:Inv X pins σ H s) (h:∀p∈pins',s.heap.get? p.1=some p.2∧H p.1=none∧p.1≠X.env.locals∧p.1∉X.fs∧∀v,p.2.data≠.cell v):Inv X pins' σ H s :=
 ⟨I.ok,I.os,I.bare,I.base,I.loc,I.cell,I.free,I.freeC,λp hp=>(List.mem_append.mp hp).elim (λz=>I.pin p (List.mem_append_left _ z)) (h p),I.hok,I.len⟩
theorem nodup_ix {N:List Str} (hN:N.Nodup) {i j:Nat} {x:Str} (a:N[i]?=some x) (b:N[j]?=some x):i=j:=by
 obtain⟨h1,e1⟩:=List.getElem?_eq_some_iff.mp a
 obtain⟨h2,e2⟩:=List.getElem?_eq_some_iff.mp b
 exact (List.getElem_inj hN).mp (e1.trans e2.symm)
theorem store_ok2 {M:Model} {A:Around} {E:Value→Shared→Prop} {i:Nat} {x:Str} {v:V} {u:Value} {Q:Unit→Shared→Prop} (I:Inv X pins σ H s) (hN:X.N.Nodup) (hi:X.N[i]?=some x) (hx:Loc X.env.scope x) (r:RelV v u)
 (h:∀s',Inv X pins (σ.set i (some v)) H s'→(∃a,Heap.SameBut a s.heap s'.heap∧(a=X.env.locals∨X.env.cells.lookup x=some a))→Q () s') (hf:X.fn x=true∨X.env.scope.names.lookup x=some .local:=by first | exact .inl rfl | exact .inr rfl | assumption):wpAny M A (storeName X.env x u) Q E s:=by
 obtain⟨m,hn,hl⟩:=id I.loc
 have hcls:(X.env.scope.kind==.class||(X.env.scope.kind==.module&&X.env.locals != X.env.globals))=false:=by rw[I.ok.kind];rfl
 have hiσ:i < σ.length:=by rw[I.len];exact (List.getElem?_eq_some_iff.mp hi).1
 have cne:=I.cne
 have tracked:∀ {a:Addr} {h':Heap},(∃o,s.heap.get? a=some o∧H a=none)→Heap.SameBut a s.heap h'→HOk X.prog X.w H h':=λ{a h'} ha hs b ob e=>by
  obtain⟨_,_,hfree⟩:=ha
  refine (I.hok b ob e).stay (λc w' hc q=>(hs.2 c ?_).trans q) (λ_ q=>q) λ_ _ q=>q
  rintro rfl
  rcases hc with rfl | hc
  ·rw[hfree] at e;cases e
  ·rw[hfree] at hc;cases hc
 rcases hx with hk | hk
 ·refine wpAny_storeName_local hk hn (λh' hn' hs=>?_) hcls
  obtain⟨oL,_,_,hoL,_⟩:=id hn
  refine h _ ⟨I.ok,I.os,I.bare,⟨λb o e n hb hx=>?_,λb o e n hb hx=>?_,I.base.free,λb o e hx=>?_,I.base.tups,I.base.frzs,I.base.tbls⟩,⟨_,hn',λj y v' e1 e2 e3=>?_⟩,λy c e=>?_,I.free,I.freeC,λp hp=>?_,tracked ⟨oL,hoL,I.free⟩ hs,by simpa using I.len⟩ ⟨_,hs,.inl rfl⟩
  ·exact (hs.2 b (Nat.ne_of_lt (Nat.lt_of_lt_of_le (Heap.lt_size e) I.ok.above))).trans (I.base.keep b o e n hb hx)
  ·obtain⟨sl,e1⟩:=I.base.slot b o e n hb hx
   exact⟨sl,(hs.2 b (Nat.ne_of_lt (Nat.lt_of_lt_of_le (Heap.lt_size e) I.ok.above))).trans e1⟩
  ·obtain⟨o',e1⟩:=I.base.there b o e hx
   exact⟨o',(hs.2 b (Nat.ne_of_lt (Nat.lt_of_lt_of_le (Heap.lt_size e) I.ok.above))).trans e1⟩
  ·by_cases hj:j=i
   ·subst hj
    rw[hi] at e1;cases e1
    rw[List.getElem?_set_self hiσ] at e2
    cases e2
    exact⟨u,r,.inl ⟨hk,by simp⟩⟩
   ·rw[List.getElem?_set_ne (Ne.symm hj)] at e2
    obtain⟨u',r',q⟩:=hl j y v' e1 e2 e3
    refine⟨u',r',?_⟩
    rcases q with ⟨k,e⟩ | ⟨k,c,e,z⟩
    ·refine .inl ⟨k,?_⟩
     have:y≠x:=λe=>hj (nodup_ix hN e1 (e▸hi))
     simp[this,e]
    ·exact .inr ⟨k,c,e,z.sameBut hs (cne y c e)⟩
  ·obtain⟨w',z⟩:=I.cell y c e
   exact⟨w',z.sameBut hs (cne y c e)⟩
  ·obtain⟨e,n,ne,nf,d⟩:=I.pin p hp
   exact⟨(hs.2 p.1 ne).trans e,n,ne,nf,d⟩
 ·have hfn:X.fn x=true:=by
   rcases hf with z | z
   ·exact z
   ·rw[z] at hk;cases hk
  obtain⟨c,hc⟩:=I.ok.has x (.inl hk)
  obtain⟨w',z⟩:=I.cell x c hc
  refine wpAny_storeName_cell I.ok.kind hk hc z (λh' hc' hs=>?_)
  obtain⟨oc,hoc,hocd⟩:=id z
  refine h { s with heap:=h' } ⟨I.ok,I.os,I.bare,⟨λb o e n hb hx=>?_,λb o e n hb hx=>?_,I.base.free,λb o e hx=>?_,I.base.tups,I.base.frzs,I.base.tbls⟩,⟨m,hn.sameBut hs (Ne.symm (cne x c hc)),λj y v' e1 e2 e3=>?_⟩,λy c' e=>?_,I.free,I.freeC,λp hp=>?_,tracked ⟨oc,hoc,I.freeC x c hc⟩ hs,by simpa using I.len⟩ ⟨c,hs,.inr hc⟩
  ·exact (hs.2 b (Nat.ne_of_lt (Nat.lt_of_lt_of_le (Heap.lt_size e) (I.ok.cab x c hfn hc)))).trans (I.base.keep b o e n hb hx)
  ·obtain⟨sl,e1⟩:=I.base.slot b o e n hb hx
   exact⟨sl,(hs.2 b (Nat.ne_of_lt (Nat.lt_of_lt_of_le (Heap.lt_size e) (I.ok.cab x c hfn hc)))).trans e1⟩
  ·obtain⟨o',e1⟩:=I.base.there b o e hx
   exact⟨o',(hs.2 b (Nat.ne_of_lt (Nat.lt_of_lt_of_le (Heap.lt_size e) (I.ok.cab x c hfn hc)))).trans e1⟩
  ·by_cases hj:j=i
   ·subst hj
    rw[hi] at e1;cases e1
    rw[List.getElem?_set_self hiσ] at e2
    cases e2
    exact⟨u,r,.inr ⟨.inl hk,c,hc,hc'⟩⟩
   ·rw[List.getElem?_set_ne (Ne.symm hj)] at e2
    obtain⟨u',r',q⟩:=hl j y v' e1 e2 e3
    refine⟨u',r',?_⟩
    rcases q with q | ⟨k,c',e,z'⟩
    ·exact .inl q
    ·refine .inr ⟨k,c',e,z'.sameBut hs ?_⟩
     rintro rfl
     exact hj (nodup_ix hN e1 (I.ok.inj _ _ _ e hc▸hi))
  ·by_cases hcc:c'=c
   ·subst hcc;exact⟨_,hc'⟩
   ·obtain⟨w2,z2⟩:=I.cell y c' e
    exact⟨w2,z2.sameBut hs hcc⟩
  ·obtain⟨e,n,ne,nf,d⟩:=I.pin p hp
   refine⟨(hs.2 p.1 ?_).trans e,n,ne,nf,d⟩
   intro q
   rw[q,hoc] at e
   have q':oc=p.2:=Option.some.inj e
   exact d w' (by rw[←q'];exact hocd)
theorem store_ok {M:Model} {A:Around} {E:Value→Shared→Prop} {i:Nat} {x:Str} {v:V} {u:Value} {Q:Unit→Shared→Prop} (I:Inv X pins σ H s) (hN:X.N.Nodup) (hi:X.N[i]?=some x) (hx:Loc X.env.scope x) (r:RelV v u)
 (h:∀s',Inv X pins (σ.set i (some v)) H s'→Q () s') (hf:X.fn x=true∨X.env.scope.names.lookup x=some .local:=by first | exact .inl rfl | exact .inr rfl | assumption):wpAny M A (storeName X.env x u) Q E s :=
 store_ok2 I hN hi hx r (λs' I' _=>h s' I') hf
theorem Inv.call' {s':Shared} {ch:List Addr} (I:Inv X pins σ H s) (ho:s'.os=s.os) (u:Un (frs X.stack) ch H H' s.heap s'.heap) (hok:HOk X.prog X.w H' s'.heap) (hg:AllBare s'.gens)
 (hch:∀b∈ch,(b∈X.ex∨X.s₀.heap.objs.size≤b)∧b≠X.env.locals∧(∀x c,X.env.cells.lookup x=some c→c≠b)∧∀p∈X.pn++pins,p.1≠b):Inv X pins σ H' s':=by
 obtain⟨h',g',d',t',o'⟩:=s'
 have e:o'=s.os:=ho
 subst e
 exact I.call (g':=g') (t':=t') (d':=d') u hok hg hch
end
noncomputable abbrev XK:=Value→Option Addr→Hp→Prop
noncomputable abbrev St:=List (Option V)
noncomputable abbrev VK:=V→Hp→Prop
noncomputable abbrev TE:=St→Hp→VK→Prop
noncomputable abbrev TT:=St→Hp→(Bool→Hp→Prop)→Prop
noncomputable abbrev TA:=St→Hp→(List V→Hp→Prop)→Prop
set_option genInjectivity false in
structure Ends where
 nx:St→Hp→Prop
 rt:VK
 bk:St→Hp→Prop:=λ_ _=>False
 ct:St→Hp→Prop:=λ_ _=>False
noncomputable abbrev TS:=Ends→St→Hp→Prop
noncomputable def EP (X:Cx) (pins:List (Addr×Obj)) (σ:St) (Q:VK) (u:Value) (s':Shared):Prop:=∃v H',Inv X pins σ H' s'∧RelV v u∧Q v H'
noncomputable def TP (X:Cx) (pins:List (Addr×Obj)) (σ:St) (Q:Bool→Hp→Prop) (b:Bool) (s':Shared):Prop:=∃H',Inv X pins σ H' s'∧Q b H'
noncomputable def AP (X:Cx) (pins:List (Addr×Obj)) (σ:St) (Q:List V→Hp→Prop) (us:List Value) (s':Shared):Prop:=∃vs H',Inv X pins σ H' s'∧Vals vs us∧Q vs H'
noncomputable def SP (X:Cx) (pins:List (Addr×Obj)) (D:Ends) (f:Flow) (s':Shared):Prop :=
 match f with
 | .next=>∃σ' H',Inv X pins σ' H' s'∧D.nx σ' H'
 | .brk=>∃σ' H',Inv X pins σ' H' s'∧D.bk σ' H'
 | .cont=>∃σ' H',Inv X pins σ' H' s'∧D.ct σ' H'
 | .ret u=>∃v σ' H',Inv X pins σ' H' s'∧RelV v u∧D.rt v H'
noncomputable def PE (X:Cx) (e:Expr) (t:TE):Prop :=
 ∀(pins:List (Addr×Obj)) (s:Shared) (σ:St) (H:Hp) (Q:VK),Inv X pins σ H s→t σ H Q→wpAny (model X.prog X.w) X.A (eval e X.env) (EP X pins σ Q) X.xe s
noncomputable def PT (X:Cx) (e:Expr) (t:TT):Prop :=
 ∀(pins:List (Addr×Obj)) (s:Shared) (σ:St) (H:Hp) (Q:Bool→Hp→Prop),Inv X pins σ H s→t σ H Q→wpAny (model X.prog X.w) X.A (isTrue e X.env (eval e X.env)) (TP X pins σ Q) X.xe s
noncomputable def PW (X:Cx) (e:Expr) (t:TT):Prop :=
 ∀(whole:Sem Value) (pins:List (Addr×Obj)) (s:Shared) (σ:St) (H:Hp) (Q:Bool→Hp→Prop),Inv X pins σ H s→t σ H Q→wpAny (model X.prog X.w) X.A (isTrue e X.env whole) (TP X pins σ Q) X.xe s
theorem PW.pt {X:Cx} {e:Expr} {t:TT} (h:PW X e t):PT X e t:=h _
noncomputable def PA (X:Cx) (es:List Expr) (t:TA):Prop :=
 ∀(pos:Pos) (pins:List (Addr×Obj)) (s:Shared) (σ:St) (H:Hp) (Q:List V→Hp→Prop),Inv X pins σ H s→t σ H Q→wpAny (model X.prog X.w) X.A (spliced (backTo pos (starEach es X.env))) (AP X pins σ Q) X.xe s
noncomputable def PS (X:Cx) (st:Stmt) (t:TS):Prop :=
 ∀(pins:List (Addr×Obj)) (s:Shared) (σ:St) (H:Hp) (D:Ends),Inv X pins σ H s→t D σ H→wpAny (model X.prog X.w) X.A (exec st X.env) (SP X pins D) X.xe s
noncomputable def PSs (X:Cx) (st:List Stmt) (t:TS):Prop :=
 ∀(pins:List (Addr×Obj)) (s:Shared) (σ:St) (H:Hp) (D:Ends),Inv X pins σ H s→t D σ H→wpAny (model X.prog X.w) X.A (execs st X.env) (SP X pins D) X.xe s
theorem thn {α:Type} {t:Sem α} {Q Q':α→Shared→Prop} {M:Model} {A:Around} {E:Value→Shared→Prop} {s:Shared} (h:wpAny M A t Q E s) (hQ:∀a s,Q a s→Q' a s):wpAny M A t Q' E s:=wpAny_mono h hQ λ_ _ x=>x
section
variable {X:Cx}
theorem bin {a b:Expr} {ta tb:TE} (ha:PE X a ta) (hb:PE X b tb) {pins:List (Addr×Obj)} {s:Shared} {σ:St} {H:Hp} {R:V→V→Hp→Prop} (I:Inv X pins σ H s) (h:ta σ H λx H1=>tb σ H1 λy H2=>R x y H2)
 {α:Type} {Q:α→Shared→Prop} {f:Value→Value→Sem α}
 (hf:∀v u s2 x y H2,Inv X pins σ H2 s2→RelV x v→RelV y u→R x y H2→wpAny (model X.prog X.w) X.A (f v u) Q X.xe s2) :
 wpAny (model X.prog X.w) X.A (eval a X.env) (λv s₁=>wpAny (model X.prog X.w) X.A (eval b X.env) (λu s₂=>wpAny (model X.prog X.w) X.A (f v u) Q X.xe s₂) X.xe s₁) X.xe s:=by
 refine thn (ha pins s σ H _ I h) λv s1 ⟨x,H1,I1,r1,q1⟩=>?_
 refine thn (hb pins s1 σ H1 _ I1 q1) λu s2 ⟨y,H2,I2,r2,q2⟩=>?_
 exact hf v u s2 x y H2 I2 r1 r2 q2
noncomputable def tVar (i:Nat):TE:=λσ H Q=>∃v,σ[i]?=some (some v)∧Q v H
noncomputable def tC (v:V):TE:=λ_ H Q=>Q v H
theorem pe_var {i:Nat} {x:Str} {pos:Pos} (hN:X.N[i]?=some x) (hv:Vis X.env.scope x) (hd:(x==("__debug__" : Str))=false:=by decide) (hcd:(x==("__classdict__" : Str))=false:=by decide):PE X (.Name x pos) (tVar i):=by
 intro pins s σ H Q I h
 obtain⟨v,e,h⟩:=h
 obtain⟨m,hn,hl⟩:=I.loc
 obtain⟨u,r,l⟩:=hl i x v hN e hv
 have fin:EP X pins σ Q u s:=⟨v,H,I,r,h⟩
 rcases l with ⟨hk,hm⟩ | ⟨hk,c,hc,hcell⟩
 ·exact wpAny_Name (wpAny_loadName_local I.ok.kind hk hn hm fin) hd
 ·rcases hk with hk | hk
  ·exact wpAny_Name (wpAny_loadName_cell I.ok.kind hk hc hcell fin) hd
  ·exact wpAny_Name (wpAny_loadName_free I.ok.kind hk hc hcell fin hcd) hd
theorem pe_int {i j pos}:PE X (.Constant (.int i) j pos) (tC (.int i)):=λ_ _ _ H _ I h=>wpAny_Constant_int ⟨.int i,H,I.tok _,⟨_,rfl⟩,h⟩
theorem pe_bl {b j pos}:PE X (.Constant (.bool b) j pos) (tC (.bl b)):=λ_ _ _ H _ I h=>Constant_bool ⟨.bl b,H,I,rfl,h⟩
theorem pe_non {j pos}:PE X (.Constant .none j pos) (tC .non):=λ_ _ _ H _ I h=>Constant_none ⟨.non,H,I,rfl,h⟩
theorem pe_str {x j pos}:PE X (.Constant (.str x) j pos) (tC (.str x)):=λ_ _ _ H _ I h=>Calls.Constant_str ⟨.str x,H,I.tok _,⟨_,rfl⟩,h⟩
noncomputable def Gl (X:Cx) (x:Str):Prop:=X.env.kindOf x=some .globalImplicit
theorem ld_glob {E:Value→Shared→Prop} {pins:List (Addr×Obj)} {s:Shared} {σ:St} {H:Hp} {x:Str} {u:Value} {pos:Pos} {Q:Value→Shared→Prop} (I:Inv X pins σ H s) (hg:Gl X x) (hm:X.mg x=some u) (h:Q u s)
 (hd:(x==("__debug__" : Str))=false:=by decide):wpAny (model X.prog X.w) X.A (eval (.Name x pos) X.env) Q E s :=
 Calls.Name_function_global I.ok.kind hg (Calls.loadGlobal_global (by rw[I.ok.glob];exact I.mod.glob.keeps I.bk) hm h) hd
theorem ld_blt {E:Value→Shared→Prop} {pins:List (Addr×Obj)} {s:Shared} {σ:St} {H:Hp} {x:Str} {u:Value} {pos:Pos} {Q:Value→Shared→Prop} (I:Inv X pins σ H s) (hg:Gl X x) (hm:X.mg x=none) (hv:bootBuiltins x=some u) (h:Q u s)
 (hn:x ≠ "__name__" := by decide) (hd:(x==("__debug__" : Str))=false:=by decide):wpAny (model X.prog X.w) X.A (eval (.Name x pos) X.env) Q E s:=by
 obtain⟨mb,h1,h2⟩:=I.mod.blt
 exact Calls.Name_function_global I.ok.kind hg (Calls.loadGlobal_builtin (by rw[I.ok.glob];exact I.mod.glob.keeps I.bk) hm (by rw[I.ok.blt];exact h1.keeps I.bk) ((h2 x hn).trans hv) h) hd
theorem pe_glob {x:Str} {v:V} {u:Value} {pos:Pos} (hg:Gl X x) (hm:X.mg x=some u) (r:RelV v u) (hd:(x==("__debug__" : Str))=false:=by decide):PE X (.Name x pos) (tC v) :=
 λ_ _ _ H _ I h=>ld_glob I hg hm ⟨v,H,I,r,h⟩ hd
theorem pe_bltn {x:Str} {v:V} {u:Value} {pos:Pos} (hg:Gl X x) (hm:X.mg x=none) (hv:bootBuiltins x=some u) (r:RelV v u) (hn:x ≠ "__name__" := by decide) (hd:(x==("__debug__" : Str))=false:=by decide):PE X (.Name x pos) (tC v) :=
 λ_ _ _ H _ I h=>ld_blt I hg hm hv ⟨v,H,I,r,h⟩ hn hd
variable {a b:Expr} {ta tb:TE} {pos:Pos}
variable {tA tB':TT} {rest:List Expr}
noncomputable def tAnd (t u:TT):TT:=λσ H Q=>t σ H λc H1=>if c=true then u σ H1 Q else Q false H1
noncomputable def tOr (t u:TT):TT:=λσ H Q=>t σ H λc H1=>if c=true then Q true H1 else u σ H1 Q
noncomputable def tNot (t:TT):TT:=λσ H Q=>t σ H λc H1=>Q (!c) H1
theorem pw_and1 (ha:PT X a tA):PW X (.BoolOp .And [a] pos) tA:=by
 intro wh pins s σ H Q I h
 refine isTrue_and (thn (ha pins s σ H Q I h) λc s1 e=>?_)
 cases c with
 | true=>exact isTrue_and_nil e
 | false=>exact e
theorem pw_or1 (ha:PT X a tA):PW X (.BoolOp .Or [a] pos) tA:=by
 intro wh pins s σ H Q I h
 refine isTrue_or (thn (ha pins s σ H Q I h) λc s1 e=>?_)
 cases c with
 | false=>exact isTrue_or_nil e
 | true=>exact e
theorem pw_and (ha:PT X a tA) (hb:PW X (.BoolOp .And (b::rest) pos) tB'):PW X (.BoolOp .And (a::b::rest) pos) (tAnd tA tB'):=by
 intro wh pins s σ H Q I h
 refine isTrue_and (thn (ha pins s σ H _ I h) λc s1 ⟨H1,I1,q1⟩=>?_)
 cases c with
 | true=>exact hb wh pins s1 σ H1 Q I1 q1
 | false=>exact⟨H1,I1,q1⟩
theorem pw_or (ha:PT X a tA) (hb:PW X (.BoolOp .Or (b::rest) pos) tB'):PW X (.BoolOp .Or (a::b::rest) pos) (tOr tA tB'):=by
 intro wh pins s σ H Q I h
 refine isTrue_or (thn (ha pins s σ H _ I h) λc s1 ⟨H1,I1,q1⟩=>?_)
 cases c with
 | true=>exact⟨H1,I1,q1⟩
 | false=>exact hb wh pins s1 σ H1 Q I1 q1
theorem pt_not (ha:PT X a tA):PT X (.UnaryOp .Not a pos) (tNot tA):=by
 intro pins s σ H Q I h
 exact isTrue_not (ha pins s σ H (λc H1=>Q (!c) H1) I h)
theorem pe_one {op} {t:TE} (h:PE X a t):PE X (.BoolOp op [a] pos) t:=λpins s σ H Q I hw=>BoolOp_one (h pins s σ H Q I hw)
noncomputable def tIf (t:TT) (ta tb:TE):TE:=λσ H Q=>t σ H λc H1=>if c=true then ta σ H1 Q else tb σ H1 Q
theorem pe_ifExp {c:Expr} (hc:PT X c tA) (ha:PE X a ta) (hb:PE X b tb):PE X (.IfExp c a b pos) (tIf tA ta tb):=by
 intro pins s σ H Q I h
 refine wpAny_IfExp (thn (hc pins s σ H _ I h) λd s1 ⟨H1,I1,q1⟩=>?_)
 cases d with
 | true=>exact ha pins s1 σ H1 Q I1 q1
 | false=>exact hb pins s1 σ H1 Q I1 q1
end
noncomputable def SqL (K:PySem.W.Frag) (H:Hp) (a:Addr) (xs:List V):Prop :=
 Rd H a (.lst xs) ∨
  ∃(o:Obj) (its:Array Value) (n:Nat),K.lookup a=some o∧o.cls=.type "list" ∧ o.dict=none∧o.data=.seq its n∧its.size≤sizeLine∧Vals xs its.toList
noncomputable def SqT (K:PySem.W.Frag) (H:Hp) (a:Addr) (xs:List V):Prop :=
 Rd H a (.tup xs) ∨
  ∃(o:Obj) (its:Array Value) (n:Nat),K.lookup a=some o∧o.cls=.type "tuple" ∧ o.data=.seq its n∧its.size≤sizeLine∧Vals xs its.toList
noncomputable def absV:Value→Option V
 | .none=>some .non
 | .bool b=>some (.bl b)
 | .int i _=>some (.int i)
 | .str x _=>some (.str x)
 | .bytes b _=>some (.byt b)
 | .float b _=>some (.flt b)
 | .ref a=>some (.ref a)
 | .type n=>some (.ty n)
 | _=>none
theorem RelV.abs {x:V} {u:Value} (r:RelV x u):absV u=some x:=by
 cases x with
 | non=>cases r;rfl
 | bl _=>cases r;rfl
 | int _=>obtain⟨t,rfl⟩:=r;rfl
 | str _=>obtain⟨t,rfl⟩:=r;rfl
 | byt _=>obtain⟨t,rfl⟩:=r;rfl
 | flt _=>obtain⟨t,rfl⟩:=r;rfl
 | ref _=>cases r;rfl
 | ty _=>cases r;rfl
theorem RelV.inj {x y:V} {u:Value} (r:RelV x u) (q:RelV y u):x=y:=Option.some.inj (r.abs.symm.trans q.abs)
theorem Vals.inj:∀ {xs ys:List V} {us:List Value},Vals xs us→Vals ys us→xs=ys
 | _,_,_,.nil,.nil=>rfl
 | _,_,_,.cons r t,.cons r' t'=>by rw[r.inj r',Vals.inj t t']
section
variable {X:Cx} {pins:List (Addr×Obj)} {σ:St} {H:Hp} {s:Shared} {a:Addr} {xs ys:List V}
theorem SqL.of {K:PySem.W.Frag} (h:H a=some (.lst xs)):SqL K H a xs:=.inl (.inl h)
theorem Inv.list (I:Inv X pins σ H s) (h:SqL X.K H a xs):∃its:List Value,Vals xs its∧PlainL s.heap a its.toArray∧xs.length≤sizeLine:=by
 rcases h with h | ⟨o,its,n,hk,hc,hd,hs,hz,r⟩
 ·obtain⟨z,its,n,r,e⟩:=h.ok I.hok
  exact⟨its,r,⟨_,n,e,rfl,rfl,rfl⟩,z⟩
 ·refine⟨its.toList,r,⟨o,n,I.kIn a o hk,hc,hd,by simpa using hs⟩,?_⟩
  have e:=r.length
  simp only[Array.length_toList] at e
  lia
theorem Inv.tuple (I:Inv X pins σ H s) (h:SqT X.K H a xs):∃its:List Value,Vals xs its∧IsTup s.heap a its.toArray∧xs.length≤sizeLine:=by
 rcases h with h | ⟨o,its,n,hk,hc,hs,hz,r⟩
 ·obtain⟨z,its,r,p⟩:=h.ok I.hok
  exact⟨its,r,p,z⟩
 ·refine⟨its.toList,r,⟨o,I.kIn a o hk,hc,n,by simpa using hs⟩,?_⟩
  have e:=r.length
  simp only[Array.length_toList] at e
  lia
theorem Inv.list_inj (I:Inv X pins σ H s) (h:SqL X.K H a xs) (h':SqL X.K H a ys):xs=ys:=by
 obtain⟨its,r,⟨o,n,e,_,_,d⟩,_⟩:=I.list h
 obtain⟨its',r',⟨o',n',e',_,_,d'⟩,_⟩:=I.list h'
 rw[e] at e';cases e'
 rw[d] at d'
 injection d' with d1 _
 have:its=its':=by simpa using congrArg Array.toList d1
 subst this
 exact r.inj r'
theorem Inv.tuple_inj (I:Inv X pins σ H s) (h:SqT X.K H a xs) (h':SqT X.K H a ys):xs=ys:=by
 obtain⟨its,r,⟨o,e,_,n,d⟩,_⟩:=I.tuple h
 obtain⟨its',r',⟨o',e',_,n',d'⟩,_⟩:=I.tuple h'
 rw[e] at e';cases e'
 rw[d] at d'
 injection d' with d1 _
 have:its=its':=by simpa using congrArg Array.toList d1
 subst this
 exact r.inj r'
end
noncomputable abbrev Cx.wish (X:Cx) (E:Value→Shared→Prop):Cx:={ X with xe:=E }
noncomputable abbrev Cx.nox (X:Cx):Cx:=X.wish λ_ _=>False
theorem Cx.Ok.wish {X:Cx} (ok:X.Ok) (E:Value→Shared→Prop):(X.wish E).Ok :=
 ⟨ok.mod,ok.kind,ok.glob,ok.blt,ok.above,ok.inj,ok.has,ok.cab,ok.hd,ok.frames,ok.stk,ok.exf,ok.bs,ok.bsz,ok.noex,ok.exfs,ok.funs,ok.frf⟩
theorem Cx.Ok.unwish {X:Cx} {E:Value→Shared→Prop} (ok:(X.wish E).Ok):X.Ok :=
 ⟨ok.mod,ok.kind,ok.glob,ok.blt,ok.above,ok.inj,ok.has,ok.cab,ok.hd,ok.frames,ok.stk,ok.exf,ok.bs,ok.bsz,ok.noex,ok.exfs,ok.funs,ok.frf⟩
section
variable {X:Cx} {pins:List (Addr×Obj)} {σ:St} {H:Hp} {s:Shared} {E:Value→Shared→Prop}
theorem Inv.wish (I:Inv X pins σ H s) (E:Value→Shared→Prop):Inv (X.wish E) pins σ H s:=⟨I.ok.wish E,I.os,I.bare,I.base,I.loc,I.cell,I.free,I.freeC,I.pin,I.hok,I.len⟩
theorem Inv.unwish (I:Inv (X.wish E) pins σ H s):Inv X pins σ H s:=⟨I.ok.unwish,I.os,I.bare,I.base,I.loc,I.cell,I.free,I.freeC,I.pin,I.hok,I.len⟩
theorem SP.unwish {D:Ends} {f:Flow} {s':Shared} (h:SP (X.wish E) pins D f s'):SP X pins D f s':=by
 cases f with
 | next=>obtain⟨σ',H',I,q⟩:=h;exact⟨σ',H',I.unwish,q⟩
 | brk=>obtain⟨σ',H',I,q⟩:=h;exact⟨σ',H',I.unwish,q⟩
 | cont=>obtain⟨σ',H',I,q⟩:=h;exact⟨σ',H',I.unwish,q⟩
 | ret u=>obtain⟨v,σ',H',I,r,q⟩:=h;exact⟨v,σ',H',I.unwish,r,q⟩
theorem PSs.nox {st:List Stmt} {t:TS} (h:PSs X.nox st t):PSs X st t:=λpins s σ H D I hw =>
 wpAny_mono (h pins s σ H D (I.wish _) hw) (λ_ _ q=>q.unwish) λ_ _ z=>False.elim z
end
section
variable {X:Cx} {st:Stmt} {rest:List Stmt} {t u:TS} {e:Expr} {te:TE} {pos:Pos}
noncomputable def tNext:TS:=λD σ H=>D.nx σ H
noncomputable def tSeq (t u:TS):TS:=λD σ H=>t { D with nx:=u D } σ H
theorem pss_nil:PSs X [] tNext:=λ_ _ σ H _ I h=>wpAny_execs_nil ⟨σ,H,I,h⟩
theorem pss_cons (h1:PS X st t) (h2:PSs X rest u):PSs X (st::rest) (tSeq t u):=by
 intro pins s σ H D I h
 refine wpAny_execs_cons (thn (h1 pins s σ H { D with nx:=u D } I h) λf s1 q=>?_)
 cases f with
 | next =>
  obtain⟨σ',H',I',q⟩:=q
  exact h2 pins s1 σ' H' D I' q
 | ret v=>exact q
 | brk=>exact q
 | cont=>exact q
theorem Inv.quiet {pins:List (Addr×Obj)} {σ:St} {H:Hp} {s:Shared} (I:Inv X pins σ H s):interactive X.env=false:=by simp[interactive,I.ok.kind]
noncomputable def tDrop (te:TE):TS:=λD σ H=>te σ H λ_ H1=>D.nx σ H1
theorem ps_expr (he:PE X e te) (hs:swapsWith e none pos.line X.env=pure false:=by rfl):PS X (.Expr e pos) (tDrop te):=by
 intro pins s σ H D I h
 exact wpAny_Expr_any (thn (he pins s σ H _ I h) λv s1 ⟨x,H1,I1,r1,q1⟩=>⟨σ,H1,I1,q1⟩) I.quiet hs
noncomputable def tRet (te:TE):TS:=λD σ H=>te σ H D.rt
theorem ps_ret (he:PE X e te):PS X (.Return (some e) pos) (tRet te):=by
 intro pins s σ H D I h
 exact wpAny_Return_some (thn (he pins s σ H _ I h) λv s1 ⟨x,H1,I1,r1,q1⟩=>⟨x,σ,H1,I1,r1,q1⟩)
noncomputable def tIfS (c:TT) (t u:TS):TS:=λD σ H=>c σ H λb H1=>if b=true then t D σ H1 else u D σ H1
theorem ps_if {c:Expr} {a b:List Stmt} {tc:TT} (hc:PT X c tc) (ha:PSs X a t) (hb:PSs X b u):PS X (.If c a b pos) (tIfS tc t u):=by
 intro pins s σ H D I h
 refine wpAny_If (thn (hc pins s σ H _ I h) λd s1 ⟨H1,I1,q1⟩=>?_)
 cases d with
 | true=>exact ha pins s1 σ H1 D I1 q1
 | false=>exact hb pins s1 σ H1 D I1 q1
end
noncomputable abbrev TG:=V→St→Hp→(St→Hp→Prop)→Prop
noncomputable abbrev TGs:=List V→St→Hp→(St→Hp→Prop)→Prop
noncomputable def PG (X:Cx) (target:Expr) (t:TG):Prop :=
 ∀(pins:List (Addr×Obj)) (s:Shared) (σ:St) (H:Hp) (v:V) (u:Value) (Q:St→Hp→Prop),Inv X pins σ H s→RelV v u→t v σ H Q →
  wpAny (model X.prog X.w) X.A (assign target X.env u) (λ_ s'=>∃σ' H',Inv X pins σ' H' s'∧Q σ' H') X.xe s
noncomputable def PGs (X:Cx) (ts:List Expr) (t:TGs):Prop :=
 ∀(pins:List (Addr×Obj)) (s:Shared) (σ:St) (H:Hp) (vs:List V) (us:List Value) (Q:St→Hp→Prop),Inv X pins σ H s→Vals vs us→t vs σ H Q →
  wpAny (model X.prog X.w) X.A (assignInOrder ((assignEach ts X.env).map (·.2)) us) (λ_ s'=>∃σ' H',Inv X pins σ' H' s'∧Q σ' H') X.xe s
noncomputable abbrev TSet:=V→V→V→Hp→(Hp→Prop)→Prop
noncomputable def PSet (X:Cx) (t:TSet):Prop :=
 ∀(pins:List (Addr×Obj)) (s:Shared) (σ:St) (H:Hp) (o i v:V) (ov iv u:Value) (Q:Hp→Prop),Inv X pins σ H s→RelV o ov→RelV i iv→RelV v u→t o i v H Q →
  wpAny (model X.prog X.w) X.A (setItem ov iv u) (λ_ s'=>∃H',Inv X pins σ H' s'∧Q H') X.xe s
section
variable {X:Cx} {pos:Pos}
noncomputable def gName (i:Nat):TG:=λv σ H Q=>Q (σ.set i (some v)) H
theorem pg_name {i:Nat} {x:Str} (hN:X.N.Nodup) (hi:X.N[i]?=some x) (hx:Loc X.env.scope x) (hf:X.fn x=true∨X.env.scope.names.lookup x=some .local:=by first | exact .inl rfl | exact .inr rfl | assumption):PG X (.Name x pos) (gName i):=by
 intro pins s σ H v u Q I r h
 exact wpAny_assign_Name (store_ok I hN hi hx r (λs' I'=>⟨_,H,I',h⟩) hf)
noncomputable def gNil:TGs:=λvs σ H Q=>vs=[]∧Q σ H
noncomputable def gCons (t:TG) (u:TGs):TGs:=λvs σ H Q=>∃v r,vs=v::r∧t v σ H λσ' H'=>u r σ' H' Q
theorem pgs_nil:PGs X [] gNil:=by
 intro pins s σ H vs us Q I r h
 obtain⟨e,h⟩:=h
 subst e
 cases r
 exact assignInOrder_nil ⟨σ,H,I,h⟩
theorem pgs_cons {e:Expr} {es:List Expr} {t:TG} {u:TGs} (h1:PG X e t) (h2:PGs X es u)
 (hs:(assignEach (e::es) X.env).map (·.2)=assign e X.env::(assignEach es X.env).map (·.2):=by rfl):PGs X (e::es) (gCons t u):=by
 intro pins s σ H vs us Q I r h
 obtain⟨v,vr,e1,h⟩:=h
 subst e1
 cases r with
 | cons r rr =>
  rw[hs]
  refine assignInOrder_cons (thn (h1 pins s σ H _ _ _ I r h) λ_ s1 ⟨σ1,H1,I1,q1⟩=>?_)
  exact h2 pins s1 σ1 H1 _ _ Q I1 rr q1
noncomputable def gTup (K:PySem.W.Frag) (n:Nat) (t:TGs):TG:=λv σ H Q=>∃a xs,v=.ref a∧SqT K H a xs∧xs.length=n∧t xs σ H Q
theorem pg_tup {es:List Expr} {k:Nat} {t:TGs} {n:Nat} (hc:X.calm=true) (h:PGs X es t)
 (hn:(assignEach es X.env).length=n:=by rfl) (hst:(assignEach es X.env).findIdx? (·.1)=none:=by rfl):PG X (.Tuple es k pos) (gTup X.K n t):=by
 intro pins s σ H v u Q I r hw
 obtain⟨a,xs,e1,hq,hl,hw⟩:=hw
 subst e1
 cases r
 obtain⟨its,rv,ht,hz⟩:=I.tuple hq
 refine assign_Tuple_tuple (I.ok.hd hc) ht (by simp[hn,←hl,rv.length]) hst λh' hx=>?_
 have I1:Inv X pins σ H { s with heap:=h' }:=I.kept (t':=s.toks) λb o e=>hx b o (Nat.ne_of_lt (Heap.lt_size e)) e
 exact h pins _ σ H xs _ Q I1 (by simpa using rv) hw
noncomputable def tAsg (te:TE) (g:TG):TS:=λD σ H=>te σ H λx H1=>g x σ H1 D.nx
theorem ps_asg {tg e:Expr} {te:TE} {g:TG} (he:PE X e te) (hg:PG X tg g) (hs:swapsWithSole [tg] e pos.line X.env=pure false:=by rfl) (hw:swappedStores [tg] e X.env=pure none:=by rfl)
 (h1:(assignEach [tg] X.env).map (·.2)=[assign tg X.env]:=by rfl):PS X (.Assign [tg] e pos) (tAsg te g):=by
 intro pins s σ H D I h
 refine wpAny_Assign_stores (thn (he pins s σ H _ I h) λv s1 ⟨x,H1,I1,r1,q1⟩=>?_) hs hw
 rw[h1]
 exact thn (hg pins s1 σ H1 x v _ I1 r1 q1) λ_ s2 q=>q
theorem ps_set {i:Nat} {x:Str} {e:Expr} {te:TE} {pos':Pos} (hN:X.N.Nodup) (hi:X.N[i]?=some x) (hx:Loc X.env.scope x) (he:PE X e te) (hs:swapsWith e (some (.Name x pos')) pos.line X.env=pure false:=by rfl) (hf:X.fn x=true∨X.env.scope.names.lookup x=some .local:=by first | exact .inl rfl | exact .inr rfl | assumption) :
 PS X (.Assign [.Name x pos'] e pos) (tAsg te (gName i)):=by
 intro pins s σ H D I h
 refine wpAny_Assign_Name (thn (he pins s σ H _ I h) λv s1 ⟨y,H1,I1,r1,q1⟩=>?_) hs
 exact store_ok I1 hN hi hx r1 (λs2 I2=>⟨_,H1,I2,q1⟩) hf
end
section
variable {X:Cx} {pos:Pos}
end
set_option genInjectivity false in
structure It where
 go:Nat→Hp→Prop
 yld:Nat→Hp→V→Hp→Prop
 stop:Nat→Hp→Prop
noncomputable def FpOk (X:Cx) (pins:List (Addr×Obj)) (H:Hp) (b:Addr):Prop :=
 H b=none∧b≠X.env.locals∧b∉X.fs∧(b∈X.ex∨X.s₀.heap.objs.size≤b)∧(∀x c,X.env.cells.lookup x=some c→c≠b)∧∀p∈X.pn++pins,p.1≠b
theorem Inv.fpOk {X:Cx} {pins:List (Addr×Obj)} {σ:St} {H H':Hp} {s:Shared} {b:Addr} (I:Inv X pins σ H s) (hb:s.heap.objs.size≤b) (hn:H' b=none):FpOk X pins H' b:=by
 refine⟨hn,Nat.ne_of_gt (Nat.lt_of_lt_of_le I.lt hb),I.nofs hb,.inr (Nat.le_trans I.sz hb),λx c e z=>?_,λp hp z=>?_⟩
 ·obtain⟨v,q⟩:=I.cell x c e
  exact absurd (Nat.lt_of_lt_of_le q.lt (by rw[z];exact hb)) (Nat.lt_irrefl _)
 ·exact absurd (Nat.lt_of_lt_of_le (Heap.lt_size (I.pin p hp).1) (by rw[z];exact hb)) (Nat.lt_irrefl _)
set_option genInjectivity false in
structure Turn (P:Program) (w:World) (K:PySem.W.Frag) (tg:Expr) (J:It) (fp:List Addr) (it:Addr) (tn:Nat→Heap→Prop):Prop where
 mem:it∈fp
 obj:∀i h,tn i h→∀b∈fp,∃o,h.get? b=some o∧∀v,o.data≠.cell v
 keep:∀i h h',tn i h→(∀b∈fp,∀o,h.get? b=some o→h'.get? b=some o)→tn i h'
 item:∀(X:Cx),X.prog=P→X.w=w→X.K=K→X.calm=true→∀(i:Nat) (pins:List (Addr×Obj)) (s:Shared) (σ:St) (H:Hp) (E:Value→Shared→Prop),Inv X pins σ H s→(∀b∈fp,FpOk X pins H b)→tn i s.heap→J.go i H →
  wpAny (model P w) X.A (pyNext (.ref it)) (λr s1=>∃u,r=some u ∧
   wpAny (model P w) X.A (letOwnedTupleGo tg (.ref it) u) (λ_ s2=>∃x H',Inv X pins σ H' s2∧RelV x u∧J.yld i H x H'∧tn (i+1) s2.heap∧∀b∈fp,H' b=none) E s1) E s
 done:∀(X:Cx),X.prog=P→X.w=w→X.K=K→X.calm=true→∀(i:Nat) (pins:List (Addr×Obj)) (s:Shared) (σ:St) (H:Hp) (E:Value→Shared→Prop),Inv X pins σ H s→(∀b∈fp,FpOk X pins H b)→tn i s.heap→J.stop i H →
  wpAny (model P w) X.A (pyNext (.ref it)) (λr s1=>r=none∧Inv X pins σ H s1) E s
 self:∀(A:Around) (i:Nat) (s:Shared) (Q:Value→Shared→Prop) (E:Value→Shared→Prop),tn i s.heap→Q (.ref it) s→wpAny (model P w) A (pyIter (.ref it)) Q E s
noncomputable abbrev TI:=St→Hp→(It→Hp→Prop)→Prop
noncomputable def PIE (X:Cx) (pins:List (Addr×Obj)) (σ:St) (tg:Expr) (R:It→Hp→Prop) (itv:Value) (s2:Shared):Prop :=
 ∃(it:Addr) (fp:List Addr) (tn:Nat→Heap→Prop) (J:It) (H':Hp),itv=.ref it∧Inv X pins σ H' s2∧Turn X.prog X.w X.K tg J fp it tn∧tn 0 s2.heap∧(∀b∈fp,FpOk X pins H' b)∧R J H'
noncomputable def PI (X:Cx) (tg iter:Expr) (wi:TI):Prop :=
 ∀(pins:List (Addr×Obj)) (s:Shared) (σ:St) (H:Hp) (R:It→Hp→Prop),Inv X pins σ H s→wi σ H R →
  wpAny (model X.prog X.w) X.A (eval iter X.env) (λv s1=>wpAny (model X.prog X.w) X.A (pyIter v) (PIE X pins σ tg R) X.xe s1) X.xe s
theorem go_of {M:Model} {A:Around} {E:Value→Shared→Prop} {s:Shared} {tg:Expr} {it:Addr} {u:Value} {o:Obj} {n:String} {vs:Array Value} {Q:Unit→Shared→Prop} (ho:s.heap.get? it=some o) (hc:o.cls=.type n) (hd:o.data=.fields vs)
 (hn:["enumerate", "zip", "dict_itemiterator", "dict_reverseitemiterator", "odict_iterator", "itertools.zip_longest", "itertools.pairwise"].contains n=false) (hQ:Q () s):wpAny M A (letOwnedTupleGo tg (.ref it) u) Q E s:=by
 unfold letOwnedTupleGo
 cases tg<;>first
  | exact wpAny_pure hQ
  | (cases u<;>first
   | exact wpAny_pure hQ
   | (refine wpAny_bind (wpAny_load ho ?_)
      rw[hc,hd]
      show wpAny M A (if (["enumerate", "zip", "dict_itemiterator", "dict_reverseitemiterator", "odict_iterator", "itertools.zip_longest", "itertools.pairwise"].contains n&&vs[0]?==some (rawInt _))=true then _ else _) Q E s
      rw[if_neg (by intro h;rw[hn,Bool.false_and] at h;cases h)]
      exact wpAny_pure hQ))
noncomputable def Itl (K:PySem.W.Frag) (a:Addr):It :=
 ⟨λi H=>∃xs x,SqL K H a xs∧xs[i]?=some x,λi H x H'=>H'=H∧∀xs,SqL K H a xs→xs[i]?=some x,λi H=>∃xs,SqL K H a xs∧xs.length≤i⟩
noncomputable def Itt (K:PySem.W.Frag) (a:Addr):It :=
 ⟨λi H=>∃xs x,SqT K H a xs∧xs[i]?=some x,λi H x H'=>H'=H∧∀xs,SqT K H a xs→xs[i]?=some x,λi H=>∃xs,SqT K H a xs∧xs.length≤i⟩
noncomputable def Itr (lo:Int) (n:Nat):It:=⟨λi _=>i < n,λi H x H'=>H'=H∧x=.int (lo+i),λi _=>n≤i⟩
theorem turn_list {P:Program} {w:World} {K:PySem.W.Frag} {tg:Expr} (a it:Addr):Turn P w K tg (Itl K a) [it] it (λi h=>h.IsListIter it a i) where
 mem:=by simp
 obj:=λi h st b hb=>by
  have e:b=it:=by simpa using hb
  subst e
  obtain⟨o,e,c,d⟩:=st
  exact⟨o,e,λv z=>by rw[d] at z;cases z⟩
 keep:=λi h h' st k=>st.at λo e=>k it (by simp) o e
 item:=by
  intro X hP hw hK hc i pins s σ H E I hf st hg
  subst hP hw hK
  obtain⟨xs,x,hq,hx⟩:=hg
  obtain⟨its,rv,p,hz⟩:=I.list hq
  obtain⟨u,hu,ru⟩:=rv.get hx
  obtain⟨f0,f1,f2,f3,f4,f5⟩:=hf it (by simp)
  refine wpAny_pyNext_list_item st p.isList (x:=u) (by simpa using hu) λh' st' sb=>?_
  have I1:Inv X pins σ H { s with heap:=h' }:=I.turned (t':=s.toks) (λb o hb e=>(sb.2 b hb).trans e) f0 f1 f3 f4 f5
  obtain⟨o,e,c,d⟩:=id st'
  exact⟨u,rfl,go_of (s:={ s with heap:=h' }) e c d (by decide) ⟨x,H,I1,ru,⟨rfl,λys hy=>by rw[I.list_inj hy hq];exact hx⟩,st',λb hb=>(hf b hb).1⟩⟩
 done:=by
  intro X hP hw hK hc i pins s σ H E I hf st hg
  subst hP hw hK
  obtain⟨xs,hq,hx⟩:=hg
  obtain⟨its,rv,p,hz⟩:=I.list hq
  obtain⟨f0,f1,f2,f3,f4,f5⟩:=hf it (by simp)
  have hl:=rv.length
  exact wpAny_pyNext_list_end (I.ok.hd hc) st p.isList (by simp;lia) λh' eb=>⟨rfl,I.turned (t':=s.toks) (λb o hb e=>eb b o hb e) f0 f1 f3 f4 f5⟩
 self:=λ_ _ _ _ _ st h=>wpAny_pyIter_listiter st h
theorem turn_tuple {P:Program} {w:World} {K:PySem.W.Frag} {tg:Expr} (a it:Addr):Turn P w K tg (Itt K a) [it] it (λi h=>h.IsTupleIter it a i) where
 mem:=by simp
 obj:=λi h st b hb=>by
  have e:b=it:=by simpa using hb
  subst e
  obtain⟨o,e,c,d⟩:=st
  exact⟨o,e,λv z=>by rw[d] at z;cases z⟩
 keep:=λi h h' st k=>st.at λo e=>k it (by simp) o e
 item:=by
  intro X hP hw hK hc i pins s σ H E I hf st hg
  subst hP hw hK
  obtain⟨xs,x,hq,hx⟩:=hg
  obtain⟨its,rv,p,hz⟩:=I.tuple hq
  obtain⟨u,hu,ru⟩:=rv.get hx
  obtain⟨f0,f1,f2,f3,f4,f5⟩:=hf it (by simp)
  refine wpAny_pyNext_tuple_item st (show s.heap.IsTuple a its.toArray from p) (x:=u) (by simpa using hu) λh' st' sb=>?_
  have I1:Inv X pins σ H { s with heap:=h' }:=I.turned (t':=s.toks) (λb o hb e=>(sb.2 b hb).trans e) f0 f1 f3 f4 f5
  obtain⟨o,e,c,d⟩:=id st'
  exact⟨u,rfl,go_of (s:={ s with heap:=h' }) e c d (by decide) ⟨x,H,I1,ru,⟨rfl,λys hy=>by rw[I.tuple_inj hy hq];exact hx⟩,st',λb hb=>(hf b hb).1⟩⟩
 done:=by
  intro X hP hw hK hc i pins s σ H E I hf st hg
  subst hP hw hK
  obtain⟨xs,hq,hx⟩:=hg
  obtain⟨its,rv,p,hz⟩:=I.tuple hq
  obtain⟨f0,f1,f2,f3,f4,f5⟩:=hf it (by simp)
  have hl:=rv.length
  exact wpAny_pyNext_tuple_end (I.ok.hd hc) st (show s.heap.IsTuple a its.toArray from p) (by simp;lia) λh' eb=>⟨rfl,I.turned (t':=s.toks) (λb o hb e=>eb b o hb e) f0 f1 f3 f4 f5⟩
 self:=λ_ _ _ _ _ st h=>wpAny_pyIter_tupleiter st h
theorem turn_range {P:Program} {w:World} {K:PySem.W.Frag} {tg:Expr} (it:Addr) (lo:Int) (n:Nat):Turn P w K tg (Itr lo n) [it] it (λi h=>IsRangeIter h it (lo+(i:Nat)*1) ((n:Int) - (i:Nat)) 1) where
 mem:=by simp
 obj:=λi h st b hb=>by
  have e:b=it:=by simpa using hb
  subst e
  exact⟨_,st,λv z=>by
   have z':Data.fields _=Data.cell v:=z
   cases z'⟩
 keep:=λi h h' st k=>k it (by simp) _ st
 item:=by
  intro X hP hw hK hc i pins s σ H E I hf st hg
  subst hP hw hK
  obtain⟨f0,f1,f2,f3,f4,f5⟩:=hf it (by simp)
  have W:=Walks.range (prog:=X.prog) (w:=X.w) (I.ok.hd hc) it lo 1 n
  refine W.item i s _ _ hg st λv h' tk hv st' kk=>?_
  obtain⟨t,rfl⟩:=hv
  have I1:Inv X pins σ H { s with heap:=h',toks:=tk }:=I.turned (λb o hb e=>kk b o (by simpa using hb) e) f0 f1 f3 f4 f5
  refine⟨_,rfl,go_of (s:={ s with heap:=h',toks:=tk }) (n := "range_iterator") st' rfl rfl (by decide) ⟨.int (lo+i),H,I1,⟨t,?_⟩,⟨rfl,rfl⟩,st',λb hb=>(hf b hb).1⟩⟩
  rw[Int.mul_one]
 done:=by
  intro X hP hw hK hc i pins s σ H E I hf st hg
  subst hP hw hK
  obtain⟨f0,f1,f2,f3,f4,f5⟩:=hf it (by simp)
  exact wpAny_pyNext_range_end (I.ok.hd hc) st (by have:n≤i:=hg;lia) λh' eb=>⟨rfl,I.turned (t':=s.toks) (λb o hb e=>eb b o hb e) f0 f1 f3 f4 f5⟩
 self:=λ_ _ _ _ _ st h=>wpAny_pyIter_rangeiter st h
section
variable {X:Cx} {tg:Expr}
theorem range_it {pins:List (Addr×Obj)} {σ:St} {H:Hp} {s:Shared} {R:It→Hp→Prop} {E:Value→Shared→Prop} {lo hi:Int} {t u v:Tok} {tk:Nat} (I:Inv X pins σ H s) (h1:-(2^62)≤lo) (h2:lo < 2^62) (h3:-(2^62)≤hi) (h4:hi < 2^62)
 (q:R (Itr lo (hi - lo).toNat) H):wpAny (model X.prog X.w) X.A (pyIter (.ref s.heap.objs.size)) (PIE X pins σ tg R) E { s with heap:=s.heap.push { cls:=.type "range", data:=.fields #[.int lo t,.int hi u,.int 1 v] },toks:=tk }:=by
 refine wpAny_pyIter_range (IsRange.new ..) (small_one h1 h2 h3 h4) ?_
 have I1:Inv X pins σ H { s with heap:=s.heap.push { cls:=.type "range", data:=.fields #[.int lo t,.int hi u,.int 1 v] },toks:=tk }:=I.kept λb o e=>Heap.get?_push_of_some _ e
 refine⟨(s.heap.push { cls:=.type "range", data:=.fields #[.int lo t,.int hi u,.int 1 v] }).objs.size,[(s.heap.push { cls:=.type "range", data:=.fields #[.int lo t,.int hi u,.int 1 v] }).objs.size],_,_,H,rfl,
  I1.kept (t':=tk) λb o e=>Heap.get?_push_of_some _ e,turn_range _ lo (hi - lo).toNat,?_,λb hb=>?_,q⟩
 ·have e1:lo+((0:Nat):Int)*1=lo:=by simp
  have e2:(((hi - lo).toNat:Nat):Int) - ((0:Nat):Int)=Builtin.Range.rangeSize lo hi 1:=by rw[rangeSize_one];split<;>lia
  show IsRangeIter _ _ (lo+((0:Nat):Int)*1) ((((hi - lo).toNat:Nat):Int) - ((0:Nat):Int)) 1
  rw[e1,e2]
  exact Heap.get?_push_size _ rfl
 ·have e:b=(s.heap.push { cls:=.type "range", data:=.fields #[.int lo t,.int hi u,.int 1 v] }).objs.size:=by simpa using hb
  subst e
  exact I1.fpOk (Nat.le_refl _) (I1.hok.fresh (Nat.le_refl _))
noncomputable def iRng1 (ta:TA):TI:=λσ H R=>ta σ H λvs H1=>∃j:Int,vs=[.int j] ∧ -(2^62)≤j∧j < 2^62∧R (Itr 0 j.toNat) H1
noncomputable def iRng2 (ta:TA):TI:=λσ H R=>ta σ H λvs H1=>∃i j:Int,vs=[.int i,.int j]∧(-(2^62)≤i∧i < 2^62 ∧ -(2^62)≤j∧j < 2^62)∧R (Itr i (j - i).toNat) H1
theorem pi_range1 {a:Expr} {ta:TA} {p pos:Pos} (hg:Gl X "range") (hm:X.mg "range" = none) (ha:PA X [a] ta) (hs:starEach [a] X.env=[(false,eval a X.env)]:=by rfl):PI X tg (.Call (.Name "range" p) [a] [] pos) (iRng1 ta):=by
 intro pins s σ H R I h
 refine Call_ (ld_blt I hg hm boot_range (PyProof.Rows.callWith_type1 (thn (ha pos pins s σ H _ I h) λus s1 ⟨vs,H1,I1,r1,q1⟩=>?_) hs rfl))
 obtain⟨j,e,q1,q2,q⟩:=q1
 subst e
 cases r1 with
 | cons r rr =>
  cases rr
  obtain⟨t,rfl⟩:=r
  exact call_range_1 (range_it I1 (by lia) (by lia) q1 q2 (by simpa using q))
theorem pi_range2 {a b:Expr} {ta:TA} {p pos:Pos} (hg:Gl X "range") (hm:X.mg "range" = none) (ha:PA X [a,b] ta) (hs:starEach [a,b] X.env=[(false,eval a X.env),(false,eval b X.env)]:=by rfl) (hs2:starEach [b] X.env=[(false,eval b X.env)]:=by rfl) :
 PI X tg (.Call (.Name "range" p) [a,b] [] pos) (iRng2 ta):=by
 intro pins s σ H R I h
 refine Call_ (ld_blt I hg hm boot_range (PyProof.Rows.callWith_type1 (thn (ha pos pins s σ H _ I h) λus s1 ⟨vs,H1,I1,r1,q1⟩=>?_) (by rw[hs,hs2]) (by rw[hs2];rfl)))
 obtain⟨i,j,e,⟨q1,q2,q3,q4⟩,q⟩:=q1
 subst e
 cases r1 with
 | cons r rr =>
  cases rr with
  | cons r' rr =>
   cases rr
   obtain⟨t,rfl⟩:=r
   obtain⟨t',rfl⟩:=r'
   exact call_range_2 (range_it I1 q1 q2 q3 q4 q)
noncomputable def tFor (wi:TI) (g:TG) (tb:TS):TS:=λD σ H=>wi σ H λJ H1=>∃W:Nat→Nat→St→Hp→Prop,(∃m,W 0 m σ H1)∧∀i m σ H,W i m σ H →
 (J.stop i H∧D.nx σ H)∨(J.go i H∧∃N:St→Hp→Prop,(∀σ' H',N σ' H'→∃m',m' < m∧W (i+1) m' σ' H')∧∀x H',J.yld i H x H'→g x σ H' λσ2 H2=>tb { D with nx:=N,ct:=N,bk:=D.nx } σ2 H2)
noncomputable def pinsAt (fp:List Addr) (h:Heap):List (Addr×Obj):=fp.filterMap λb=>(h.get? b).map λo=>(b,o)
theorem mem_pinsAt {fp:List Addr} {h:Heap} {b:Addr} {o:Obj} (hb:b∈fp) (e:h.get? b=some o):(b,o)∈pinsAt fp h:=List.mem_filterMap.mpr ⟨b,hb,by rw[e];rfl⟩
theorem of_pinsAt {fp:List Addr} {h:Heap} {p:Addr×Obj} (hp:p∈pinsAt fp h):p.1∈fp∧h.get? p.1=some p.2:=by
 obtain⟨b,hb,e⟩:=List.mem_filterMap.mp hp
 cases q:h.get? b with
 | none=>rw[q] at e;cases e
 | some o =>
  rw[q] at e
  have e':(b,o)=p:=Option.some.inj e
  subst e'
  exact⟨hb,q⟩
theorem Inv.pinned {pins:List (Addr×Obj)} {σ:St} {H:Hp} {s:Shared} {fp:List Addr} (I:Inv X pins σ H s) (hf:∀b∈fp,FpOk X pins H b) (ho:∀b∈fp,∃o,s.heap.get? b=some o∧∀v,o.data≠.cell v):Inv X (pins++pinsAt fp s.heap) σ H s :=
 I.pins_of λp hp=>(List.mem_append.mp hp).elim (λz=>I.pin p (List.mem_append_right _ z)) λz=>by
  obtain⟨hb,e⟩:=of_pinsAt z
  obtain⟨f0,f1,f2,_⟩:=hf p.1 hb
  obtain⟨o,e',d⟩:=ho p.1 hb
  rw[e] at e';cases e'
  exact⟨e,f0,f1,f2,d⟩
theorem Inv.unpinned {pins pl:List (Addr×Obj)} {σ:St} {H:Hp} {s:Shared} (I:Inv X (pins++pl) σ H s):Inv X pins σ H s:=I.pins_of λp hp=>I.pin p (List.mem_append_right _ (List.mem_append_left _ hp))
theorem ps_for {iter:Expr} {body:List Stmt} {wi:TI} {g:TG} {tb:TS} {pos:Pos} (hp:PassesOwn (model X.prog X.w) X.A X.env X.xe) (hc:X.calm=true) (hi:PI X tg iter wi) (hg:PG X tg g) (hb:PSs X body tb)
 (hs:∀x,foldedSetIterable iter X.env x=pure x:=by intro _;rfl):PS X (.For tg iter body [] pos) (tFor wi g tb):=by
 intro pins s σ H D I h
 refine wpAny_For (thn (hi pins s σ H _ I h) λv s1 h1=>thn h1 λitv s2 h2=>?_) hs
 obtain⟨it,fp,tn,J,H2,e,I2,T,st2,f2,W,⟨m0,w0⟩,turn⟩:=h2
 subst e
 have stat:∀ {H':Hp},(∀b∈fp,H' b=none)→∀b∈fp,FpOk X pins H' b:=λhn b hb=>⟨hn b hb,(f2 b hb).2⟩
 refine codeAny_forLoop_any (λn s'=>∃i σ' H',Inv X pins σ' H' s'∧tn i s'.heap∧(∀b∈fp,H' b=none)∧W i n σ' H') ?_ m0 ⟨0,σ,H2,I2,st2,λb hb=>(f2 b hb).1,w0⟩
 rintro n s3 ⟨i,σ3,H3,I3,st3,fr3,w3⟩
 rcases turn i n σ3 H3 w3 with ⟨stop,qn⟩ | ⟨go,N,hN,step⟩
 ·refine wpAny_passesOwn hp (thn (T.done X rfl rfl rfl hc i pins s3 σ3 H3 X.xe I3 (stat fr3) st3 stop) λr s4 ⟨hr,I4⟩=>?_)
  subst hr
  exact wpAny_execs_nil ⟨σ3,H3,I4,qn⟩
 ·refine wpAny_passesOwn hp (thn (T.item X rfl rfl rfl hc i pins s3 σ3 H3 X.xe I3 (stat fr3) st3 go) λr s4 ⟨u,hr,h4⟩=>?_)
  subst hr
  refine wpAny_passesOwn hp (thn h4 λ_ s5 ⟨x,H5,I5,r5,y5,st5,fr5⟩=>?_)
  have I5':=I5.pinned (stat fr5) (T.obj _ _ st5)
  refine wpAny_passesOwn hp (thn (hg _ s5 σ3 H5 x u _ I5' r5 (step x H5 y5)) λ_ s6 ⟨σ6,H6,I6,q6⟩=>?_)
  refine wpAny_passesOwn hp (thn (hb _ s6 σ6 H6 _ I6 q6) λf s7 q7=>?_)
  have again:∀ {σ7:St} {H7:Hp},Inv X (pins++pinsAt fp s5.heap) σ7 H7 s7→N σ7 H7→∃m,m < n∧∃i σ' H',Inv X pins σ' H' s7∧tn i s7.heap∧(∀b∈fp,H' b=none)∧W i m σ' H':=λ{σ7 H7} I7 n7=>by
   obtain⟨m',hm,w7⟩:=hN σ7 H7 n7
   refine⟨m',hm,i+1,σ7,H7,I7.unpinned,T.keep _ _ _ st5 λb hb o e=>(I7.pin (b,o) (List.mem_append_right _ (List.mem_append_right _ (mem_pinsAt hb e)))).1,λb hb=>?_,w7⟩
   obtain⟨o,e,d⟩:=T.obj _ _ st5 b hb
   exact (I7.pin (b,o) (List.mem_append_right _ (List.mem_append_right _ (mem_pinsAt hb e)))).2.1
  cases f with
  | next=>obtain⟨σ7,H7,I7,n7⟩:=q7;exact again I7 n7
  | cont=>obtain⟨σ7,H7,I7,n7⟩:=q7;exact again I7 n7
  | brk=>obtain⟨σ7,H7,I7,q7⟩:=q7;exact⟨σ7,H7,I7.unpinned,q7⟩
  | ret v=>obtain⟨x7,σ7,H7,I7,r7,q7⟩:=q7;exact⟨x7,σ7,H7,I7.unpinned,r7,q7⟩
end
noncomputable abbrev R2:=V→V→Hp→VK→Prop
noncomputable def OpR (X:Cx) (f:Value→Value→Sem Value) (r:R2):Prop :=
 ∀(pins:List (Addr×Obj)) (s:Shared) (σ:St) (H:Hp) (x y:V) (v u:Value) (Q:VK),Inv X pins σ H s→RelV x v→RelV y u→r x y H Q →
  wpAny (model X.prog X.w) X.A (f v u) (EP X pins σ Q) X.xe s
noncomputable def UnR (X:Cx) (f:Value→Sem Value) (r:V→Hp→VK→Prop):Prop :=
 ∀(pins:List (Addr×Obj)) (s:Shared) (σ:St) (H:Hp) (x:V) (v:Value) (Q:VK),Inv X pins σ H s→RelV x v→r x H Q →
  wpAny (model X.prog X.w) X.A (f v) (EP X pins σ Q) X.xe s
noncomputable def CallR (X:Cx) (f:Value) (r:List V→Hp→VK→Prop):Prop :=
 ∀(pins:List (Addr×Obj)) (s:Shared) (σ:St) (H:Hp) (xs:List V) (us:List Value) (Q:VK),Inv X pins σ H s→Vals xs us→r xs H Q →
  wpAny (model X.prog X.w) X.A (call f us) (EP X pins σ Q) X.xe s
noncomputable def TruR (X:Cx) (r:V→Hp→(Bool→Hp→Prop)→Prop):Prop :=
 ∀(pins:List (Addr×Obj)) (s:Shared) (σ:St) (H:Hp) (x:V) (v:Value) (Q:Bool→Hp→Prop),Inv X pins σ H s→RelV x v→r x H Q →
  wpAny (model X.prog X.w) X.A (truthy v) (TP X pins σ Q) X.xe s
noncomputable def tOp (r:R2) (ta tb:TE):TE:=λσ H Q=>ta σ H λx H1=>tb σ H1 λy H2=>r x y H2 Q
noncomputable def tUn (r:V→Hp→VK→Prop) (ta:TE):TE:=λσ H Q=>ta σ H λx H1=>r x H1 Q
noncomputable def rI (C:Int→Int→Prop) (g:Int→Int→V):R2:=λx y H Q=>∃i j,x=.int i∧y=.int j∧C i j∧Q (g i j) H
noncomputable def rI0 (g:Int→Int→V):R2:=λx y H Q=>∃i j,x=.int i∧y=.int j∧Q (g i j) H
noncomputable def rU (g:Int→V):V→Hp→VK→Prop:=λx H Q=>∃i,x=.int i∧Q (g i) H
section
variable {X:Cx} {a b c:Expr} {ta tb tc:TE} {pos:Pos}
theorem binT (ha:PE X a ta) (hb:PE X b tb) {pins:List (Addr×Obj)} {s:Shared} {σ:St} {H:Hp} {R:V→V→Hp→Prop} (I:Inv X pins σ H s)
 (h:ta σ H λx H1=>tb σ H1 λy H2=>R x y H2) {Q:Value→Shared→Prop} {f:Value→Value→Sem Value}
 (hf:∀v u s2 x y H2,Inv X pins σ H2 s2→RelV x v→RelV y u→R x y H2→wpAny (model X.prog X.w) X.A (f v u) Q X.xe s2) :
 wpAny (model X.prog X.w) X.A (eval a X.env) (λv s₁=>wpAny (model X.prog X.w) X.A (eval b X.env) (λu s₂=>wpAny (model X.prog X.w) X.A (f v u) Q X.xe s₂) X.xe s₁) X.xe s:=by
 refine thn (ha pins s σ H _ I h) λv s1 ⟨x,H1,I1,r1,q1⟩=>?_
 refine thn (hb pins s1 σ H1 _ I1 q1) λu s2 ⟨y,H2,I2,r2,q2⟩=>?_
 exact hf v u s2 x y H2 I2 r1 r2 q2
theorem pe_op {op:Operator} {r:R2} (ho:OpR X (binaryOp op) r) (ha:PE X a ta) (hb:PE X b tb):PE X (.BinOp a op b pos) (tOp r ta tb):=by
 intro pins s σ H Q I h
 exact wpAny_BinOp (binT ha hb I h λv u s2 x y H2 I2 rx ry q=>ho pins s2 σ H2 x y v u Q I2 rx ry q)
theorem pe_un {op:UnaryOp} {r:V→Hp→VK→Prop} (ho:UnR X (unaryOp op) r) (ha:PE X a ta):PE X (.UnaryOp op a pos) (tUn r ta):=by
 intro pins s σ H Q I h
 exact UnaryOp_ (thn (ha pins s σ H _ I h) λv s1 ⟨x,H1,I1,r1,q1⟩=>ho pins s1 σ H1 x v Q I1 r1 q1)
theorem opI {f:Value→Value→Sem Value} {C:Int→Int→Prop} {g:Int→Int→Int}
 (rule:∀(i j:Int) (t u:Tok) (s:Shared) (Q:Value→Shared→Prop) (E:Value→Shared→Prop),C i j→Q (.int (g i j) s.toks) { s with toks:=s.toks+1 }→wpAny (model X.prog X.w) X.A (f (.int i t) (.int j u)) Q E s) :
 OpR X f (rI C λi j=>.int (g i j)):=by
 intro pins s σ H x y v u Q I rx ry h
 obtain⟨i,j,rfl,rfl,hc,q⟩:=h
 obtain⟨t,rfl⟩:=rx
 obtain⟨t',rfl⟩:=ry
 exact rule i j t t' s _ _ hc ⟨.int (g i j),H,I.tok _,⟨_,rfl⟩,q⟩
theorem opI0 {f:Value→Value→Sem Value} {g:Int→Int→Int}
 (rule:∀(i j:Int) (t u:Tok) (s:Shared) (Q:Value→Shared→Prop) (E:Value→Shared→Prop),Q (.int (g i j) s.toks) { s with toks:=s.toks+1 }→wpAny (model X.prog X.w) X.A (f (.int i t) (.int j u)) Q E s) :
 OpR X f (rI0 λi j=>.int (g i j)):=by
 intro pins s σ H x y v u Q I rx ry h
 obtain⟨i,j,rfl,rfl,q⟩:=h
 obtain⟨t,rfl⟩:=rx
 obtain⟨t',rfl⟩:=ry
 exact rule i j t t' s _ _ ⟨.int (g i j),H,I.tok _,⟨_,rfl⟩,q⟩
theorem opB0 {f:Value→Value→Sem Value} {g:Int→Int→Bool}
 (rule:∀(i j:Int) (t u:Tok) (s:Shared) (Q:Value→Shared→Prop) (E:Value→Shared→Prop),Q (.bool (g i j)) s→wpAny (model X.prog X.w) X.A (f (.int i t) (.int j u)) Q E s) :
 OpR X f (rI0 λi j=>.bl (g i j)):=by
 intro pins s σ H x y v u Q I rx ry h
 obtain⟨i,j,rfl,rfl,q⟩:=h
 obtain⟨t,rfl⟩:=rx
 obtain⟨t',rfl⟩:=ry
 exact rule i j t t' s _ _ ⟨.bl (g i j),H,I,rfl,q⟩
noncomputable def CDiv (i j:Int):Prop:=0 < j∧j < 1073741824
noncomputable def CPow (i j:Int):Prop:=0≤j∧j≤1000000∧i.natAbs < 2^64
noncomputable def CMul (i j:Int):Prop:=(-(2^64) < i∧i < 2^64)∨(-(2^64) < j∧j < 2^64)
theorem CMul.ok {i j:Int} (h:CMul i j):IntMulOk i j:=by
 rcases h with ⟨h1,h2⟩ | ⟨h1,h2⟩
 ·exact .of_left (intBits_le_64 h1 h2)
 ·exact .of_right (intBits_le_64 h1 h2)
theorem op_add:OpR X (binaryOp .Add) (rI0 λi j=>.int (i+j)):=opI0 λ_ _ _ _ _ _ _ q=>add_int q
theorem op_sub:OpR X (binaryOp .Sub) (rI0 λi j=>.int (i - j)):=opI0 λ_ _ _ _ _ _ _ q=>sub_int q
theorem op_mul:OpR X (binaryOp .Mult) (rI CMul λi j=>.int (i*j)):=opI λ_ _ _ _ _ _ _ hc q=>mul_int q hc.ok
theorem op_fdiv:OpR X (binaryOp .FloorDiv) (rI CDiv λi j=>.int (i / j)):=opI λi j _ _ _ _ _ hc q=>by
 have h1:(0:Int) < j:=hc.1
 have h2:j < 1073741824:=hc.2
 exact floordiv_int (by lia) (by rw[Int.fdiv_eq_ediv_of_nonneg i (by lia)];exact q) (.inl (PyProof.noPylong_small (by lia)))
theorem op_mod:OpR X (binaryOp .Mod) (rI (λ_ j=>0 < j) λi j=>.int (i % j)):=opI λi j _ _ _ _ _ hc q=>by
 have h1:(0:Int) < j:=hc
 exact mod_int' (by lia) (by rw[Int.fmod_eq_emod_of_nonneg i (by lia)];exact q)
theorem op_pow:OpR X (binaryOp .Pow) (rI CPow λi j=>.int (i^j.toNat)):=opI λ_ _ _ _ _ _ _ hc q=>pow_int_small hc.1 hc.2.1 hc.2.2 q
theorem unI {f:Value→Sem Value} {g:Int→Int}
 (rule:∀(i:Int) (t:Tok) (s:Shared) (Q:Value→Shared→Prop) (E:Value→Shared→Prop),Q (.int (g i) s.toks) { s with toks:=s.toks+1 }→wpAny (model X.prog X.w) X.A (f (.int i t)) Q E s) :
 UnR X f (rU λi=>.int (g i)):=by
 intro pins s σ H x v Q I rx h
 obtain⟨i,rfl,q⟩:=h
 obtain⟨t,rfl⟩:=rx
 exact rule i t s _ _ ⟨.int (g i),H,I.tok _,⟨_,rfl⟩,q⟩
theorem un_neg:UnR X (unaryOp .USub) (rU λi=>.int (-i)):=unI λ_ _ _ _ _ q=>neg_int q
end
section
variable {X:Cx} {a b c:Expr} {ta tb tc:TE} {pos:Pos}
theorem fin_bl {pins:List (Addr×Obj)} {σ:St} {H:Hp} {s:Shared} {Q:VK} {k k':Bool} (I:Inv X pins σ H s) (q:Q (.bl k) H) (e:k=k'):EP X pins σ Q (.bool k') s:=by
 subst e
 exact⟨.bl k,H,I,rfl,q⟩
theorem op_lt:OpR X (compareOp .Lt) (rI0 λi j=>.bl (decide (i < j))):=opB0 λ_ _ _ _ _ _ _ q=>lt_int q
theorem op_le:OpR X (compareOp .LtE) (rI0 λi j=>.bl (decide (i≤j))):=opB0 λ_ _ _ _ _ _ _ q=>le_int q
theorem op_gt:OpR X (compareOp .Gt) (rI0 λi j=>.bl (decide (j < i))):=opB0 λ_ _ _ _ _ _ _ q=>gt_int q
theorem op_ge:OpR X (compareOp .GtE) (rI0 λi j=>.bl (decide (j≤i))):=opB0 λ_ _ _ _ _ _ _ q=>ge_int q
theorem op_in_str:OpR X (compareOp .In) (λx y H Q=>∃i j,x=.str i∧y=.str j∧Q (.bl (!(Builtin.Str.occurrences j i 0 j.length 1).isEmpty)) H):=by
 intro pins s σ H x y v u Q I rx ry h
 obtain⟨i,j,rfl,rfl,q⟩:=h
 obtain⟨t,rfl⟩:=rx
 obtain⟨t',rfl⟩:=ry
 exact in_str (fin_bl I q rfl)
theorem op_isN:OpR X (compareOp .Is) (λx y H Q=>y=.non∧Q (.bl (decide (x=.non))) H):=by
 intro pins s σ H x y v u Q I rx ry h
 obtain⟨rfl,q⟩:=h
 cases ry
 refine is_none_gen (fin_bl I q ?_)
 cases x<;>first
  | (cases rx;rfl)
  | (obtain⟨t,rfl⟩:=rx;rfl)
theorem op_notN:OpR X (compareOp .IsNot) (λx y H Q=>y=.non∧Q (.bl (!decide (x=.non))) H):=by
 intro pins s σ H x y v u Q I rx ry h
 obtain⟨rfl,q⟩:=h
 cases ry
 refine isnot_none_gen (fin_bl I q ?_)
 cases x<;>first
  | (cases rx;rfl)
  | (obtain⟨t,rfl⟩:=rx;rfl)
theorem op_notin_str:OpR X (compareOp .NotIn) (λx y H Q=>∃i j,x=.str i∧y=.str j∧Q (.bl (!(!(Builtin.Str.occurrences j i 0 j.length 1).isEmpty))) H):=by
 intro pins s σ H x y v u Q I rx ry h
 obtain⟨i,j,rfl,rfl,q⟩:=h
 obtain⟨t,rfl⟩:=rx
 obtain⟨t',rfl⟩:=ry
 exact notIn_str (fin_bl I q rfl)
theorem pe_cmpR {op:CmpOp} {r:R2} (ho:OpR X (compareOp op) r) (ha:PE X a ta) (hb:PE X b tb) (hm:behindInMarks op b=false):PE X (.Compare a [op] [b] pos) (tOp r ta tb):=by
 intro pins s σ H Q I h
 exact wpAny_Compare1 (binT ha hb I h λv u s2 x y H2 I2 rx ry q=>ho pins s2 σ H2 x y v u Q I2 rx ry q) hm
noncomputable def tTest (t:TE):TT:=λσ H Q=>t σ H λx H'=>∃k,x=.bl k∧Q k H'
theorem pt_cmpR {op:CmpOp} {r:R2} (ho:OpR X (compareOp op) r) (ha:PE X a ta) (hb:PE X b tb) (hm:behindInMarks op b=false):PT X (.Compare a [op] [b] pos) (tTest (tOp r ta tb)):=by
 intro pins s σ H Q I h
 refine wpAny_isTrue_Compare1 (thn (ha pins s σ H _ I h) λv s1 ⟨x,H1,I1,r1,q1⟩=>thn (hb pins s1 σ H1 _ I1 q1) λu s2 ⟨y,H2,I2,r2,q2⟩ =>
  thn (ho pins s2 σ H2 x y v u _ I2 r1 r2 q2) λc s3 ⟨z,H3,I3,r3,k,e,q3⟩=>?_) hm
 subst e
 cases r3
 exact wpAny_truthy_bool ⟨H3,I3,q3⟩
noncomputable def TruV (K:PySem.W.Frag) (x:V) (H:Hp) (k:Bool):Prop :=
 match x with
 | .non=>k=false
 | .bl b=>k=b
 | .int i=>k=(i != 0)
 | .str y=>y.length≤sizeLine∧k=((y.length:Int) != 0)
 | .byt y=>y.size≤sizeLine∧k=((y.size:Int) != 0)
 | .ref p=>(∃xs,SqL K H p xs∧k=!xs.isEmpty)∨(∃xs,SqT K H p xs∧k=!xs.isEmpty)∨∃kvs,H p=some (.dK kvs)∧k=!kvs.isEmpty
 | _=>False
theorem isEmpty_kv {κ:Type} {kvs:List (κ×V)} {vs:List (κ×Value)} (r:KV kvs vs):(!vs.isEmpty)=!kvs.isEmpty:=by
 cases r<;>rfl
theorem isEmpty_of {xs:List V} {its:List Value} (r:Vals xs its):(!its.toArray.isEmpty)=!xs.isEmpty:=by
 cases r<;>simp
theorem line63:(sizeLine:Nat) < 2^63:=by rw[sizeLine_eq];decide
theorem tru_ok:TruR X (λx H Q=>∃k,TruV X.K x H k∧Q k H):=by
 intro pins s σ H x v Q I rx h
 obtain⟨k,e,q⟩:=h
 have hl:=line63
 have hs:sizeLine=16777216:=sizeLine_eq
 cases x with
 | non =>
  cases rx
  have e':k=false:=e
  subst e'
  exact truthy_none ⟨H,I,q⟩
 | bl b =>
  cases rx
  have e':k=b:=e
  subst e'
  exact wpAny_truthy_bool ⟨H,I,q⟩
 | int i =>
  obtain⟨t,rfl⟩:=rx
  have e':k=(i != 0):=e
  subst e'
  exact PySem.P.truthy_int ⟨H,I,q⟩
 | str y =>
  obtain⟨t,rfl⟩:=rx
  obtain⟨hy,e'⟩:y.length≤sizeLine∧k=((y.length:Int) != 0):=e
  subst e'
  exact PySem.P.truthy_str (by lia) ⟨H,I.tok _,q⟩
 | byt y =>
  obtain⟨t,rfl⟩:=rx
  obtain⟨hy,e'⟩:y.size≤sizeLine∧k=((y.size:Int) != 0):=e
  subst e'
  exact PySem.W.truthy_bytes (by lia) ⟨H,I.tok _,q⟩
 | ref p =>
  cases rx
  have e':(∃xs,SqL X.K H p xs∧k=!xs.isEmpty)∨(∃xs,SqT X.K H p xs∧k=!xs.isEmpty)∨∃kvs,H p=some (.dK kvs)∧k=!kvs.isEmpty:=e
  rcases e' with ⟨xs,hx,e'⟩ | ⟨xs,hx,e'⟩ | ⟨kvs,hx,e'⟩
  ·subst e'
   obtain⟨its,r,pl,hz⟩:=I.list hx
   have hlen:=r.length
   exact wpAny_truthy_list pl.isList (by simp only[List.size_toArray];lia) ⟨H,I.tok _,by rw[isEmpty_of r];exact q⟩
  ·subst e'
   obtain⟨its,r,pl,hz⟩:=I.tuple hx
   have hlen:=r.length
   exact truthy_tuple pl (by simp only[List.size_toArray];lia) ⟨H,I.tok _,by rw[isEmpty_of r];exact q⟩
  ·subst e'
   obtain⟨hz,hS,vs,r,m⟩:kvs.length≤sizeLine∧(p==sysModules)=false∧∃vs,KV kvs vs∧s.heap.DictOf (mixKind X.prog X.w) p vs:=I.hok p _ hx
   have hlen:kvs.length=vs.length:=Paired.length r
   exact wpAny_truthy_dict hS m (by lia) ⟨H,I.tok _,by rw[isEmpty_kv r];exact q⟩
 | _=>exact (show False from e).elim
theorem pt_truth (ha:PE X a ta) (he:∀whole,isTrue a X.env whole=(do let v ←whole;standAt a.pos;holding [v] (truthy v))) :
 PT X a (λσ H Q=>ta σ H λx H'=>∃k,TruV X.K x H' k∧Q k H'):=by
 intro pins s σ H Q I h
 exact isTrue_plain (thn (ha pins s σ H _ I h) λv s1 ⟨x,H1,I1,r1,q1⟩=>tru_ok pins s1 σ H1 x v Q I1 r1 q1) (he _)
theorem op_add_str:OpR X (binaryOp .Add) (λx y H Q=>∃i j,x=.str i∧y=.str j∧i.length+j.length≤sizeLine∧Q (.str (i++j)) H):=by
 intro pins s σ H x y v u Q I rx ry h
 obtain⟨i,j,rfl,rfl,hz,q⟩:=h
 obtain⟨t,rfl⟩:=rx
 obtain⟨t',rfl⟩:=ry
 exact add_str (λt' tk=>⟨.str (i++j),H,I.tok _,⟨_,rfl⟩,q⟩) hz
theorem vals1 {x:V} {us:List Value} (r:Vals [x] us):∃u,us=[u]∧RelV x u:=by
 cases r with
 | cons r1 r2=>cases r2;exact⟨_,rfl,r1⟩
theorem vals2 {x y:V} {us:List Value} (r:Vals [x,y] us):∃u w',us=[u,w']∧RelV x u∧RelV y w':=by
 cases r with
 | cons r1 r2 =>
  cases r2 with
  | cons r3 r4=>cases r4;exact⟨_,_,rfl,r1,r3⟩
theorem call_int1:CallR X (.type "int") (λxs H Q=>(∃i,xs=[.int i]∧Q (.int i) H)∨∃k,xs=[.bl k]∧Q (.int (if k then 1 else 0)) H):=by
 intro pins s σ H xs us Q I r h
 rcases h with ⟨i,rfl,q⟩ | ⟨k,rfl,q⟩
 ·obtain⟨u,rfl,t,rfl⟩:=vals1 r
  exact call_int_int ⟨.int i,H,I,⟨_,rfl⟩,q⟩
 ·obtain⟨u,rfl,r1⟩:=vals1 r
  cases r1
  exact call_int_bool ⟨.int (if k then 1 else 0),H,I.tok _,⟨_,rfl⟩,q⟩
end
theorem RelO.some_of {v:V} {o:Option Value} (r:RelO (some v) o):∃u,o=some u∧RelV v u:=by
 cases o with
 | none=>exact (show False from r).elim
 | some u=>exact⟨u,rfl,r⟩
section
variable {X:Cx} {pins:List (Addr×Obj)} {σ:St} {H:Hp} {s:Shared} {a C dx:Addr} {fs:List (Str×V)} {f:Str} {v:V} {A:Around} {E:Value→Shared→Prop}
end
set_option genInjectivity false in
structure Room (k:Nat) (A:Around):Prop where
 hd:A.handled=none
 dp:A.depth+3*k+5 < recursionLimit
 un:A.units+16*k+200 < cLine
theorem Room.deeper {k:Nat} {A:Around} (r:Room (k+1) A) (env:Env):Room k (A.deeper env) :=
 ⟨r.hd,by have:=r.dp;show A.depth+1+3*k+5 < _;lia,by have:=r.un;show A.units+3+16*k+200 < _;lia⟩
theorem Room.depth {k:Nat} {A:Around} (r:Room k A):A.depth < recursionLimit:=by have:=r.dp;lia
theorem Room.units {k:Nat} {A:Around} (r:Room k A):A.units+64 < cLine:=by have:=r.un;lia
noncomputable def tNil:TA:=λ_ H Q=>Q [] H
noncomputable def tCons (ta:TE) (tr:TA):TA:=λσ H Q=>ta σ H λx H1=>tr σ H1 λxs H2=>Q (x::xs) H2
section
variable {X:Cx} {e:Expr} {es:List Expr} {te:TE} {t:TA} {pos:Pos}
theorem pa_nil:PA X [] tNil:=λ_ _ _ _ H Q I h=>Calls.spliced_nil ⟨[],H,I,.nil,h⟩
theorem pa_cons (ha:PE X e te) (hr:PA X es t) (hs:starEach (e::es) X.env=(false,eval e X.env)::starEach es X.env:=by rfl):PA X (e::es) (tCons te t):=by
 intro pos pins s σ H Q I h
 rw[hs]
 show wpAny _ _ (spliced ((false,eval e X.env)::backTo pos (starEach es X.env))) _ _ s
 refine Calls.spliced_cons (thn (ha pins s σ H _ I h) λu s1 ⟨x,H1,I1,r1,q1⟩=>?_)
 exact thn (hr pos pins s1 σ H1 _ I1 q1) λus s2 ⟨xs,H2,I2,r2,q2⟩=>⟨x::xs,H2,I2,.cons r1 r2,q2⟩
noncomputable def tTup (t:TA):TE:=λσ H Q=>t σ H λxs H1=>xs.length≤sizeLine∧∀p,H1 p=none→Q (.ref p) (upd H1 p (.tup xs))
noncomputable def tLst (t:TA):TE:=λσ H Q=>t σ H λxs H1=>xs.length≤sizeLine∧∀p,H1 p=none→Q (.ref p) (upd H1 p (.lst xs))
theorem pe_tup {x1} (h:PA X es t):PE X (.Tuple es x1 pos) (tTup t):=by
 intro pins s σ H Q I hq
 refine wpAny_Tuple_spliced (thn (h pos pins s σ H _ I hq) λus s1 ⟨xs,H1,I1,r,z,q⟩=>⟨by rw[←r.length];exact z,?_⟩)
 have hf:H1 s1.heap.objs.size=none:=I1.hok.fresh (Nat.le_refl _)
 refine⟨.ref s1.heap.objs.size,upd H1 s1.heap.objs.size (.tup xs),I1.laid (t':=s1.toks) (λb u e=>Heap.get?_push_of_some _ e) (Nat.le_refl _) ?_,rfl,q _ hf⟩
 exact⟨z,us,r,⟨_,Heap.get?_push_size _ rfl,rfl,_,rfl⟩⟩
theorem pe_lst (h:PA X es t):PE X (.List es pos) (tLst t):=by
 intro pins s σ H Q I hq
 refine wpAny_List_spliced (thn (h pos pins s σ H _ I hq) λus s1 ⟨xs,H1,I1,r,z,q⟩=>⟨by rw[←r.length];exact z,?_⟩)
 have hf:H1 s1.heap.objs.size=none:=I1.hok.fresh (Nat.le_refl _)
 refine⟨.ref s1.heap.objs.size,upd H1 s1.heap.objs.size (.lst xs),I1.laid (t':=s1.toks) (λb u e=>Heap.get?_push_of_some _ e) (Nat.le_refl _) ?_,rfl,q _ hf⟩
 exact⟨z,us,0,r,Heap.get?_push_size _ rfl⟩
end
noncomputable abbrev Sp:=List V→Hp→VK→XK→Prop
noncomputable abbrev CXT:=List Env→Hp→Shared→XK→Value→Shared→Prop
set_option genInjectivity false in
structure Env0 (P:Program) (w:World) (K:PySem.W.Frag) (mg:Str→Option Value) (base:Heap) (A:Around) (outer:List Env) (s:Shared) (H:Hp):Prop where
 frames:A.frames=some outer
 mod:Mod K mg base
 bs:∀b o,base.get? b=some o→s.heap.get? b=some o∧H b=none
 bsz:base.objs.size≤s.heap.objs.size
 funs:s.heap.FunFrames base outer
 frf:∀b∈frs outer,H b=none
 hok:HOk P w H s.heap
 bare:AllBare s.gens
noncomputable def CE (outer:List Env) (P:Program) (w:World) (H:Hp) (s:Shared) (Q:VK) (u:Value) (s':Shared):Prop :=
 ∃v H',s'.os=s.os∧AllBare s'.gens∧Un (frs outer) [] H H' s.heap s'.heap∧HOk P w H' s'.heap∧RelV v u∧Q v H'
noncomputable def CR (CX:CXT) (outer:List Env) (P:Program) (w:World) (H:Hp) (s:Shared) (Q:VK) (E:XK) (r:Result) (s':Shared):Prop :=
 match r with
 | .ok (.ret u)=>CE outer P w H s Q u s'
 | .ok _=>False
 | .error e=>CX outer H s E e s'
set_option genInjectivity false in
structure FnOk (P:Program) (w:World) (K:PySem.W.Frag) (mg:Str→Option Value) (base:Heap) (CX:CXT) (k:Nat) (f:Addr) (fd:FuncData) (ps:List Str) (sp:Sp):Prop where
 len:∀vs H Q E,sp vs H Q E→vs.length=ps.length
 run:∀(A:Around) (outer:List Env) (s:Shared) (H:Hp) (args:Args) (us:List Value) (vs:List V) (Q:VK) (E:XK),Room k A→Env0 P w K mg base A outer s H→BindsTo s fd args (ps.zip us)→Vals vs us→sp vs H Q E →
  codeAny (model P w) A (.call (.ref f) args) (CR CX outer P w H s Q E) s
section
variable {X:Cx} {pins:List (Addr×Obj)} {σ:St} {H:Hp} {s s':Shared}
theorem Inv.env0 (I:Inv X pins σ H s):Env0 X.prog X.w X.K X.mg X.base X.A X.stack s H :=
 ⟨I.ok.frames,I.ok.mod,I.bs,Nat.le_trans I.ok.bsz I.sz,I.stack,I.stkFree,I.hok,I.bare⟩
theorem Inv.after {Q:VK} {u:Value} (I:Inv X pins σ H s) (h:CE X.stack X.prog X.w H s Q u s'):EP X pins σ Q u s':=by
 obtain⟨v,H',os,bare,un,hok,r,q⟩:=h
 obtain⟨hh,g,d,t,os'⟩:=s'
 obtain rfl:os'=s.os:=os
 exact⟨v,H',I.call (h':=hh) (g':=g) (d':=d) (t':=t) (ch:=[]) un hok bare (λb z=>absurd z (by simp)),r,q⟩
end
noncomputable def tCall (sp:Sp) (dvs:List V) (E:XK) (t:TA):TE:=λσ H Q=>t σ H λvs H1=>sp (vs++dvs) H1 Q E
noncomputable def Binds (K:PySem.W.Frag) (fd:FuncData) (ps:List Str) (ds:List Value):Prop :=
 ∀(s:Shared) (us:List Value),K.In s.heap→(us++ds).length=ps.length→BindsTo s fd ⟨us,[]⟩ (ps.zip (us++ds))
theorem Binds.all {K:PySem.W.Frag} {fd:FuncData} {ps:List Str} (h:∀us:List Value,us.length=ps.length→bindArgs fd ⟨us,[]⟩=pure (ps.zip us)):Binds K fd ps []:=λs us _ hl=>by
 rw[List.append_nil] at hl ⊢
 exact .of_eq (h us hl)
noncomputable def Passes (CX:CXT) (X:Cx) (E:XK):Prop:=∀(pins:List (Addr×Obj)) (σ:St) (H:Hp) (s:Shared) (e:Value) (s':Shared),Inv X pins σ H s→CX X.stack H s E e s'→X.xe e s'
section
variable {X:Cx} {CX:CXT} {k:Nat} {f C:Addr} {fd:FuncData} {ps:List Str} {sp:Sp} {dvs:List V} {ds:List Value} {E:XK} {x m:Str} {p pos apos:Pos} {e o:Expr} {es:List Expr} {ta:TE} {t:TA}
theorem run_fn {pins:List (Addr×Obj)} {σ:St} {H:Hp} {s:Shared} {Q:VK} {us:List Value} {vs:List V} (F:FnOk X.prog X.w X.K X.mg X.base CX k f fd ps sp) (hr:Room k X.A) (hb:Binds X.K fd ps ds) (hd:Vals dvs ds) (hx:Passes CX X E)
 (I:Inv X pins σ H s) (r:Vals vs us) (h:sp (vs++dvs) H Q E):wpAny (model X.prog X.w) X.A (call (.ref f) us) (EP X pins σ Q) X.xe s:=by
 have r2:Vals (vs++dvs) (us++ds):=r.append hd
 have hl:(us++ds).length=ps.length:=by rw[←r2.length];exact F.len _ _ _ _ h
 refine wpAny_call (codeAny_mono (F.run X.A X.stack s H ⟨us,[]⟩ (us++ds) (vs++dvs) Q E hr I.env0 (hb s us I.kIn hl) r2 h) λr s' hq=>?_)
 cases r with
 | error e=>exact hx pins σ H s e s' I hq
 | ok fl =>
  cases fl with
  | ret u=>exact I.after hq
  | next=>exact False.elim hq
  | brk=>exact False.elim hq
  | cont=>exact False.elim hq
theorem pe_call (F:FnOk X.prog X.w X.K X.mg X.base CX k f fd ps sp) (hr:Room k X.A) (hg:Gl X x) (hm:X.mg x=some (.ref f)) (hk:PySem.W.keepIn X.K (.ref f)=true) (hb:Binds X.K fd ps ds) (hd:Vals dvs ds) (hx:Passes CX X E)
 (ha:PA X (e::es) t) (hdb:(x==("__debug__" : Str))=false:=by decide) (he:starEach (e::es) X.env=(false,eval e X.env)::starEach es X.env:=by rfl) (hpl:(backTo pos (starEach es X.env)).any (·.1)=false:=by rfl) :
 PE X (.Call (.Name x p) (e::es) [] pos) (tCall sp dvs E t):=by
 intro pins s σ H Q I h
 refine wpAny_Call_Name_kw (ld_glob I hg hm ?_ hdb)
 refine PySem.W.callWith_K (h₀:=X.base) I.ok.mod.kin hk (thn (ha pos pins s σ H _ I h) λus s1 ⟨vs,H1,I1,r,q⟩=>⟨I1.kIn,?_⟩) he hpl
 exact run_fn F hr hb hd hx I1 r q
theorem pe_call0 (F:FnOk X.prog X.w X.K X.mg X.base CX k f fd ps sp) (hr:Room k X.A) (hg:Gl X x) (hm:X.mg x=some (.ref f)) (hk:PySem.W.keepIn X.K (.ref f)=true) (hb:Binds X.K fd ps ds) (hd:Vals dvs ds) (hx:Passes CX X E)
 (hdb:(x==("__debug__" : Str))=false:=by decide):PE X (.Call (.Name x p) [] [] pos) (tCall sp dvs E tNil):=by
 intro pins s σ H Q I h
 refine wpAny_Call_Name_kw (ld_glob I hg hm ?_ hdb)
 exact PySem.W.callWith_K0 I.kIn hk (run_fn (us:=[]) F hr hb hd hx I .nil h)
end
section
variable {X:Cx} {CX:CXT} {k:Nat} {f C:Addr} {fd:FuncData} {ps ks:List Str} {sp:Sp} {E:XK} {x m:Str} {p pos apos kpos:Pos} {e o:Expr} {es:List Expr} {kws:List Keyword} {te ta:TE} {t tk:TA} {nm:Option Str}
variable {g:List Value→List Value→List Value} {gV:List V→List V→List V}
end
set_option genInjectivity false in
structure FnScope (N P:List Str) (sc:Scope):Prop where
 kind:sc.kind=.function
 co:sc.isCoroutine=false
 gen:sc.isGenerator=false
 nd:N.Nodup
 pre:N.take P.length=P
 par:∀x∈P,sc.names.lookup x=some .local∨sc.names.lookup x=some .cell
 nofree:∀y∈sc.names,y.2≠.free
theorem bindL_out {kindOf:Str→Option NameKind} {x:Str}:∀ {binds:List (Str×Value)} {m:Str→Option Value},(∀v,(x,v)∉binds)→bindL kindOf binds m x=m x
 | [],_,_=>rfl
 | (n,v)::r,m,h=>by
  unfold bindL
  rw[bindL_out λw hw=>h w (List.mem_cons_of_mem _ hw)]
  split
  ·have:x≠n:=by rintro rfl;exact h v List.mem_cons_self
   simp[this]
  ·rfl
theorem bindC_out {kindOf:Str→Option NameKind} {x:Str}:∀ {binds:List (Str×Value)} {m:Str→Option Value},(∀v,(x,v)∉binds)→bindC kindOf binds m x=m x
 | [],_,_=>rfl
 | (n,v)::r,m,h=>by
  unfold bindC
  rw[bindC_out λw hw=>h w (List.mem_cons_of_mem _ hw)]
  split
  ·rfl
  ·have:x≠n:=by rintro rfl;exact h v List.mem_cons_self
   simp[this]
theorem bindL_get {kindOf:Str→Option NameKind} {x:Str} {v:Value}:∀ {P:List Str} {vs:List Value} {i:Nat} {m:Str→Option Value},P.Nodup→P[i]?=some x→vs[i]?=some v→kindOf x=some .local →
 bindL kindOf (P.zip vs) m x=some v
 | [],_,_,_,_,h,_,_=>by simp at h
 | _::_,[],_,_,_,_,h,_=>by simp at h
 | p::P,w::vs,0,m,nd,h1,h2,hk=>by
  simp at h1 h2;subst h1;subst h2
  show bindL kindOf ((p,w)::P.zip vs) m p=_
  unfold bindL
  rw[bindL_out λv hv=>(List.nodup_cons.mp nd).1 (List.of_mem_zip hv).1,if_pos hk]
  simp
 | p::P,w::vs,i+1,m,nd,h1,h2,hk=>by
  show bindL kindOf ((p,w)::P.zip vs) m x=_
  unfold bindL
  exact bindL_get (i:=i) (List.nodup_cons.mp nd).2 (by simpa using h1) (by simpa using h2) hk
theorem bindC_get {kindOf:Str→Option NameKind} {x:Str} {v:Value}:∀ {P:List Str} {vs:List Value} {i:Nat} {m:Str→Option Value},P.Nodup→P[i]?=some x→vs[i]?=some v→kindOf x≠some .local →
 bindC kindOf (P.zip vs) m x=some v
 | [],_,_,_,_,h,_,_=>by simp at h
 | _::_,[],_,_,_,_,h,_=>by simp at h
 | p::P,w::vs,0,m,nd,h1,h2,hk=>by
  simp at h1 h2;subst h1;subst h2
  show bindC kindOf ((p,w)::P.zip vs) m p=_
  unfold bindC
  rw[bindC_out λv hv=>(List.nodup_cons.mp nd).1 (List.of_mem_zip hv).1,if_neg hk]
  simp
 | p::P,w::vs,i+1,m,nd,h1,h2,hk=>by
  show bindC kindOf ((p,w)::P.zip vs) m x=_
  unfold bindC
  exact bindC_get (i:=i) (List.nodup_cons.mp nd).2 (by simpa using h1) (by simpa using h2) hk
noncomputable def start (N:List Str) (vs:List V):St:=vs.map some++List.replicate (N.length - vs.length) none
noncomputable def cxOf (CX:CXT) (P:Program) (w:World) (K:PySem.W.Frag) (mg:Str→Option Value) (base:Heap) (N:List Str) (qual:Str) (scope:Scope) (f:Addr) (cd:Value) (A:Around) (outer:List Env) (s:Shared) (H:Hp) (E:XK):Cx where
 prog:=P
 w:=w
 K:=K
 mg:=mg
 base:=base
 A:=A.deeper (envOfC qual scope s.heap.objs.size f cd)
 N:=N
 s₀:=s
 H₀:=H
 env:=envOfC qual scope s.heap.objs.size f cd
 outer:=outer
 stack:=envOfC qual scope s.heap.objs.size f cd::outer
 ex:=[]
 calm:=true
 fn:=λ_=>true
 pn:=[]
 xe:=λe s'=>wpAny (model P w) (A.deeper (envOfC qual scope s.heap.objs.size f cd)) (leaving (envOfC qual scope s.heap.objs.size f cd) e) (λ_ s''=>CX outer H s E e s'') (λe' s''=>CX outer H s E e' s'') s'
theorem cell_has {sc:Scope} {n:Nat} {x:Str} (h:sc.names.lookup x=some .cell):∃c,(cellsFrom n sc.names []).lookup x=some c:=by
 have q:=PySem.W.cellsFrom_some sc.names n [] (.inl h)
 exact Option.isSome_iff_exists.mp q
theorem inv_start {CX:CXT} {P:Program} {w:World} {K:PySem.W.Frag} {mg:Str→Option Value} {base:Heap} {N ps:List Str} {qual:Str} {scope:Scope} {f:Addr} {cd:Value} {A:Around} {outer:List Env} {s s1:Shared} {H:Hp} {E:XK} {us:List Value} {vs:List V}
 (S:FnScope N ps scope) (hd:A.handled=none) (e0:Env0 P w K mg base A outer s H) (hl:vs.length=ps.length) (r:Vals vs us)
 (x:InCallC s s.heap.objs.size (bindL (envOfC qual scope s.heap.objs.size f cd).kindOf (ps.zip us) λ_=>none) (cellsFrom (s.heap.objs.size+1) scope.names []) (bindC (envOfC qual scope s.heap.objs.size f cd).kindOf (ps.zip us) λ_=>none) s1) :
 Inv (cxOf CX P w K mg base N qual scope f cd A outer s H E) [] (start N vs) H s1:=by
 have hpl:ps.length≤N.length:=by have:=congrArg List.length S.pre;rw[List.length_take] at this;lia
 obtain⟨h1,tk,rfl,hk⟩:=x.done
 have noA:∀b:Addr,b∉(cxOf CX P w K mg base N qual scope f cd A outer s H E).ex:=λb z=>absurd (show b∈([]:List Addr) from z) (by simp)
 refine⟨⟨e0.mod,S.kind,rfl,rfl,Nat.le_refl _,λy z c h1 h2=>?_,λy hy=>?_,λy c _ h=>?_,λ_=>hd,Around.frames_deeper e0.frames,.inr ⟨rfl,rfl⟩,λb z=>absurd z (noA b),e0.bs,e0.bsz,λb _ _=>noA b,λb z=>absurd z (noA b),e0.funs,e0.frf⟩,
  rfl,e0.bare,Un.kept hk,⟨_,x.toInCall.ns,λi y v h1 h2 h3=>?_⟩,λy c h=>⟨_,x.cell y c h⟩,e0.hok.fresh (Nat.le_refl _),λy c h=>?_,λp hp=>absurd (show p∈([]:List (Addr×Obj)) from hp) (by simp),e0.hok.kept hk,?_⟩
 ·exact name_of_addr x.apart (PySem.mem_of_lookup h1) (PySem.mem_of_lookup h2)
 ·have hy:scope.names.lookup y=some .cell∨scope.names.lookup y=some .free:=hy
  rcases hy with hy | hy
  ·exact cell_has hy
  ·exact absurd rfl (S.nofree _ (PySem.mem_of_lookup hy))
 ·exact Nat.le_of_lt (x.above y c (PySem.mem_of_lookup h))
 ·have hi:i < vs.length:=by
   unfold start at h2
   by_cases hi:i < vs.length
   ·exact hi
   ·rw[List.getElem?_append_right (by simpa using hi)] at h2
    rw[List.getElem?_replicate] at h2
    split at h2<;>cases h2
  have ha:vs[i]?=some v:=by
   unfold start at h2
   rw[List.getElem?_append_left (by simpa using hi),List.getElem?_map] at h2
   cases e:vs[i]? with
   | none=>rw[e] at h2;cases h2
   | some a=>rw[e] at h2;cases h2;rfl
  obtain⟨u,hu,rv⟩:=r.get ha
  have hp:ps[i]?=some y:=by
   rw[←S.pre,List.getElem?_take_of_lt (by lia)];exact h1
  have ndP:ps.Nodup:=by rw[←S.pre];exact S.nd.sublist (List.take_sublist _ _)
  refine⟨u,rv,?_⟩
  rcases S.par y (List.mem_of_getElem? hp) with k | k
  ·exact .inl ⟨k,bindL_get ndP hp hu k⟩
  ·obtain⟨c,e⟩:=cell_has (n:=s.heap.objs.size+1) k
   refine .inr ⟨.inl k,c,e,?_⟩
   have q:=x.cell y c e
   rw[bindC_get ndP hp hu (by show scope.names.lookup y≠_;rw[k];decide)] at q
   exact q
 ·exact e0.hok.fresh (Nat.le_of_lt (x.above y c (PySem.mem_of_lookup h)))
 ·unfold start
  show _=N.length
  rw[List.length_append,List.length_map,List.length_replicate]
  lia
theorem fn_of {CX:CXT} {P:Program} {w:World} {K:PySem.W.Frag} {mg:Str→Option Value} {base:Heap} {k:Nat} {f:Addr} {name qual:Str} {params:Arguments} {body:List Stmt} {scope:Scope} {dV kV doc pm cdv ct oc:Value} {an od:Option Addr}
 {osl:Array (Option Value)} {N ps:List Str} {sp:Sp} (lk:K.lookup f=some ⟨oc,od,.func (PySem.W.fnOf name qual params body scope dV kV doc pm an cdv ct),osl⟩) (hcd:PySem.W.codeIn K cdv qual=true) (S:FnScope N ps scope)
 (len:∀vs H Q E,sp vs H Q E→vs.length=ps.length)
 (hbody:∀(A:Around) (outer:List Env) (s:Shared) (H:Hp) (vs:List V) (Q:VK) (E:XK),Room k (A.deeper (envOfC qual scope s.heap.objs.size f cdv))→sp vs H Q E →
  ∃t,PSs (cxOf CX P w K mg base N qual scope f cdv A outer s H E) body t∧t { nx:=λ_ H'=>Q .non H',rt:=Q } (start N vs) H) :
 FnOk P w K mg base CX (k+1) f (PySem.W.fnOf name qual params body scope dV kV doc pm an cdv ct) ps sp:=by
 refine⟨len,λA outer s H args us vs Q E hr e0 hb r hsp=>?_⟩
 have hl:=len _ _ _ _ hsp
 have KX:K.In s.heap:=e0.mod.kin.keeps λb o e=>(e0.bs b o e).1
 have lim:s.heap.NoLimit:=e0.mod.nolimit.keeps λb o e=>(e0.bs b o e).1
 have hkind:∀y∈ps.zip us,scope.names.lookup y.1=some .local∨(scope.names.lookup y.1=some .cell∧((cellsFrom (s.heap.objs.size+1) scope.names []).lookup y.1).isSome=true):=λ⟨n,v⟩ hy=>by
  rcases S.par n (List.of_mem_zip hy).1 with q | q
  ·exact .inl q
  ·exact .inr ⟨q,PySem.W.cellsFrom_some _ _ _ (.inl q)⟩
 refine codeAny_call_function hr.depth (KX _ _ lk) rfl S.co S.gen rfl (PySem.W.codeRec_of KX hcd) (hb _ _ _ _ ?_)
 refine wpAny_newFunctionEnv_cells S.kind hkind λenv he s1 x=>?_
 subst he
 refine⟨lim.keeps x.toInCall.keep,codeAny_func ?_⟩
 obtain⟨t,ht,hq⟩:=hbody A outer s H vs Q E (hr.deeper _) hsp
 have I:Inv (cxOf CX P w K mg base N qual scope f cdv A outer s H E) [] (start N vs) H s1:=inv_start S hr.hd e0 hl r x
 refine wpAny_mono (ht [] s1 (start N vs) H _ I hq) (λfl s' hs=>?_) λe s' hs=>hs
 have fin:∀ {σ':St} {H':Hp} {v:V} {u:Value},Inv (cxOf CX P w K mg base N qual scope f cdv A outer s H E) [] σ' H' s'→RelV v u→Q v H'→CE outer P w H s Q u s' :=
  λ{σ' H' v u} J rv q=>⟨v,H',J.os,J.bare,J.base,J.hok,rv,q⟩
 cases fl with
 | ret u =>
  obtain⟨v,σ',H',J,rv,q⟩:=hs
  exact fin J rv q
 | next =>
  obtain⟨σ',H',J,q⟩:=hs
  exact fin (v:=V.non) (u:=Value.none) J rfl q
 | brk =>
  obtain⟨_,_,_,q⟩:=hs
  exact False.elim q
 | cont =>
  obtain⟨_,_,_,q⟩:=hs
  exact False.elim q
section
variable {X:Cx} {x:Str} {p pos:Pos} {e:Expr} {es:List Expr} {t:TA} {id T:String} {r:List V→Hp→VK→Prop}
noncomputable def tCB (r:List V→Hp→VK→Prop) (t:TA):TE:=λσ H Q=>t σ H λvs H1=>r vs H1 Q
theorem pe_callB (hc:CallR X (.builtin id) r) (hg:Gl X x) (hm:X.mg x=none) (hv:bootBuiltins x=some (.builtin id)) (ha:PA X (e::es) t) (hn:x ≠ "__name__" := by decide) (hdb:(x==("__debug__" : Str))=false:=by decide)
 (he:starEach (e::es) X.env=(false,eval e X.env)::starEach es X.env:=by rfl) (hpl:(backTo pos (starEach es X.env)).any (·.1)=false:=by rfl):PE X (.Call (.Name x p) (e::es) [] pos) (tCB r t):=by
 intro pins s σ H Q I h
 refine wpAny_Call_Name_kw (ld_blt I hg hm hv ?_ hn hdb)
 exact PyProof.Rows.callWith_builtin1 (thn (ha pos pins s σ H _ I h) λus s1 ⟨vs,H1,I1,r1,q1⟩=>hc pins s1 σ H1 vs us Q I1 r1 q1) he hpl
theorem pe_callTy (hc:CallR X (.type T) r) (hg:Gl X x) (hm:X.mg x=none) (hv:bootBuiltins x=some (.type T)) (ha:PA X (e::es) t) (hn:x ≠ "__name__" := by decide) (hdb:(x==("__debug__" : Str))=false:=by decide)
 (he:starEach (e::es) X.env=(false,eval e X.env)::starEach es X.env:=by rfl) (hpl:(backTo pos (starEach es X.env)).any (·.1)=false:=by rfl):PE X (.Call (.Name x p) (e::es) [] pos) (tCB r t):=by
 intro pins s σ H Q I h
 refine wpAny_Call_Name_kw (ld_blt I hg hm hv ?_ hn hdb)
 exact PyProof.Rows.callWith_type1 (thn (ha pos pins s σ H _ I h) λus s1 ⟨vs,H1,I1,r1,q1⟩=>hc pins s1 σ H1 vs us Q I1 r1 q1) he hpl
end
end L2
namespace HT
open PySem PyProof.Rows
section
open PySem.SeqAt
open PySem.AutoSeq1 (wpAny_loadPart')
open PySem.MeetsSeq PySem.MeetsSeq2 PySem.MeetsSeq3
end
section
variable {prog:Program} {w:World} {A:Around} {E:Value→Shared→Prop} {s:Shared}
theorem cat_tup {t b:Addr} {vs ws:List Value} {Q:Value→Shared→Prop} (ht:IsTup s.heap t vs.toArray) (hb:IsTup s.heap b ws.toArray) (hv:vs≠[])
 (h1:ws=[]→Q (.ref t) s) (h2:ws≠[]→Q (.ref s.heap.objs.size) { s with heap:=s.heap.push { cls:=.type "tuple", data:=.seq (vs++ws).toArray } })
 (hsz:vs.length+ws.length≤sizeLine):wpAny (model prog w) A (binaryOp .Add (.ref t) (.ref b)) Q E s:=by
 obtain⟨⟨cls,dd,data,sl⟩,ho,hc,n,hd⟩:=id ht
 obtain⟨⟨cls2,dd2,data2,sl2⟩,ho2,hc2,n2,hd2⟩:=id hb
 simp only at hc hd hc2 hd2
 subst hc hd hc2 hd2
 have e:vs.toArray++ws.toArray=(vs++ws).toArray:=by simp
 by_cases hw:ws=[]
 ·exact concat_meets ⟨_,ho,rfl⟩ ⟨_,ho2,rfl⟩ noFill_tuple_add seq_tuple_add PySem.F.slot_tuple_add PySem.F.entry_tuple_add (PySem.F.args_tuple_add_2 _ _)
   (tuple_addW1 t b vs.toArray ws.toArray n n2 dd dd2 sl sl2 (by simpa using hv) (by simp[hw])) ⟨ho,ho2,h1 hw⟩
 ·refine concat_meets ⟨_,ho,rfl⟩ ⟨_,ho2,rfl⟩ noFill_tuple_add seq_tuple_add PySem.F.slot_tuple_add PySem.F.entry_tuple_add (PySem.F.args_tuple_add_2 _ _)
   (tuple_addW2 t b vs.toArray ws.toArray n n2 dd dd2 sl sl2 (by simpa using hv) (by simpa using hw) (by rw[List.size_toArray,List.size_toArray];exact hsz)) ⟨ho,ho2,?_⟩
  rw[e]
  exact h2 hw
noncomputable def sIx (n d:Nat):Option Int→Nat
 | none=>d
 | some v=>if v < 0 then (v+(n:Int)).toNat else min v.toNat n
theorem sIx_le (n d:Nat) (hd:d≤n) (o:Option Int):sIx n d o≤n:=by
 cases o with
 | none=>exact hd
 | some v =>
  show (if v < 0 then (v+(n:Int)).toNat else min v.toNat n)≤n
  by_cases hv:v < 0
  ·rw[if_pos hv];lia
  ·rw[if_neg hv];exact Nat.min_le_right _ _
theorem clip_eq (v:Int) (n d:Nat):(if v < 0 then max (v+(n:Int)) 0 else min v (n:Int))=((sIx n d (some v):Nat):Int):=by
 show (if v < 0 then max (v+(n:Int)) 0 else min v (n:Int))=(((if v < 0 then (v+(n:Int)).toNat else min v.toNat n):Nat):Int)
 by_cases hv:v < 0
 ·simp only[if_pos hv];lia
 ·simp only[if_neg hv];lia
theorem adjust_gen (lo hi:Option Int) (n:Nat):Builtin.Slice.sliceAdjust lo hi 1 (n:Int)=(((sIx n 0 lo:Nat):Int),((sIx n n hi:Nat):Int)):=by
 have h1:¬((1:Int) < 0):=by lia
 unfold Builtin.Slice.sliceAdjust
 simp only[h1,if_false]
 refine Prod.ext ?_ ?_
 ·cases lo with
  | none=>rfl
  | some v=>exact clip_eq v n 0
 ·cases hi with
  | none=>rfl
  | some v=>exact clip_eq v n n
theorem places_gen (i j:Nat):Builtin.Slice.slicePlaces (i:Int) (j:Int) 1=j - i:=by
 unfold Builtin.Slice.slicePlaces
 have h1:(1:Int) > 0:=by lia
 simp only[h1,if_true,Int.ediv_one]
 split<;>lia
theorem slicePart_ {v:Value} {o:Option Int} {Q:Option Int→Shared→Prop} (p:IsPart v o) (h:Q o s):wpAny (model prog w) A (Builtin.Slice.slicePartIndex v) Q E s:=by
 cases p with
 | none=>exact slicePart_none h
 | int i t=>exact slicePart_int h
theorem sliceApplied_gen {sl:Addr} {vl vu:Value} {lo hi:Option Int} {n:Nat} {Q:Int×Int×Nat→Shared→Prop} (hs:s.heap.IsSliceOf sl vl vu .none) (pl:IsPart vl lo) (pu:IsPart vu hi)
 (h:Q (((sIx n 0 lo:Nat):Int),1,sIx n n hi - sIx n 0 lo) s):wpAny (model prog w) A (Builtin.Slice.sliceApplied (.ref sl) (pure (n:Int))) Q E s:=by
 obtain⟨os,hos,hcs,hds⟩:=id hs
 unfold Builtin.Slice.sliceApplied Builtin.Slice.sliceFields
 refine wpAny_bind (wpAny_bind (wpAny_field hos hds (x:=vl) rfl (wpAny_bind (wpAny_field hos hds (x:=vu) rfl (wpAny_bind (wpAny_field hos hds (x:=.none) rfl (wpAny_pure ?_)))))))
 refine wpAny_bind (slicePart_none ?_)
 show wpAny _ _ (if ((1:Int)==0)=true then _ else _) _ _ s
 rw[if_neg (by decide)]
 refine wpAny_bind (slicePart_ pl (wpAny_bind (slicePart_ pu (wpAny_bind (wpAny_pure ?_)))))
 show wpAny _ _ (match Builtin.Slice.sliceAdjust lo hi 1 (n:Int) with | (lo,hi)=>pure (lo,(1:Int),Builtin.Slice.slicePlaces lo hi 1)) _ _ s
 rw[adjust_gen lo hi n]
 show wpAny _ _ (pure (((sIx n 0 lo:Nat):Int),(1:Int),Builtin.Slice.slicePlaces ((sIx n 0 lo:Nat):Int) ((sIx n n hi:Nat):Int) 1)) _ _ s
 rw[places_gen]
 exact wpAny_pure h
theorem pick_gen (xs:Array Value) (i k:Nat):((List.range k).filterMap λ(m:Nat)=>xs[((i:Int)+(m:Int)*1).toNat]?).toArray=((xs.toList.drop i).take k).toArray:=by
 have e:(λ(m:Nat)=>xs[((i:Int)+(m:Int)*1).toNat]?)=λm=>xs[i+m]?:=by
  funext m
  have:((i:Int)+(m:Int)*1).toNat=i+m:=by lia
  rw[this]
 rw[e]
 have:=pick_run xs i k
 rw[List.filterMap_map] at this
 have e2:((λx=>xs[x]?)∘λx=>i+x)=λm=>xs[i+m]?:=rfl
 rw[e2] at this
 rw[this]
theorem getItem_tuple_cut {t sl:Addr} {items:Array Value} {vl vu:Value} {lo hi:Option Int} {Q:Value→Shared→Prop} (ht:IsTup s.heap t items) (hs:s.heap.IsSliceOf sl vl vu .none) (pl:IsPart vl lo) (pu:IsPart vu hi)
 (hw:¬(sIx items.size 0 lo=0∧sIx items.size items.size hi=items.size))
 (h:Q (.ref s.heap.objs.size) { s with heap:=s.heap.push { cls:=.type "tuple", data:=.seq ((items.toList.drop (sIx items.size 0 lo)).take (sIx items.size items.size hi - sIx items.size 0 lo)).toArray } })
 (hsz:items.size≤sizeLine):wpAny (model prog w) A (getItem (.ref t) (.ref sl)) Q E s:=by
 have htake:sizeOk (.seq ((items.toList.drop (sIx items.size 0 lo)).take (sIx items.size items.size hi - sIx items.size 0 lo)).toArray):=by
  show ((items.toList.drop (sIx items.size 0 lo)).take (sIx items.size items.size hi - sIx items.size 0 lo)).toArray.size≤sizeLine
  rw[List.size_toArray,List.length_take,List.length_drop,Array.length_toList]
  lia
 have hj:sIx items.size items.size hi≤items.size:=sIx_le _ _ (Nat.le_refl _) hi
 obtain⟨os,hos,hcs,hds⟩:=id hs
 have hTs:s.TypeIs (.ref sl) "slice" := ⟨os,hos,hcs⟩
 unfold getItem
 try with_reducible refine wpAny_holding ?_
 first | refine wpAny_bind (wpAny_pure ?_) | skip
 refine wpAny_bind (wpAny_sequenceKey ht.typeIs (by decide) ?_)
 refine wpAny_bind (wpAny_callSpecial?_slot (name:=Str.ofString "__getitem__") ht.typeIs PyProof.Rows.slot_tuple_getitem
  (wpAny_call_entry PyProof.Rows.slot_tuple_getitem ht.typeIs entry_tuple_getitem ?_ (args_tuple_getitem _ _)))
 show wpAny _ _ (Builtin.Tuple.tupleItemsOf (.ref t)>>=_) _ _ s
 refine wpAny_bind (tupleItemsOf_ ht ?_)
 refine wpAny_bind (wpAny_typeOf hTs ?_)
 rw[if_pos (by decide)]
 refine wpAny_bind (sliceApplied_gen hs pl pu ?_)
 have hno:¬((((sIx items.size 0 lo:Nat):Int)==0&&(1:Int)==1&&(sIx items.size items.size hi - sIx items.size 0 lo)==items.size)=true):=by
  intro q
  rw[Bool.and_eq_true,Bool.and_eq_true] at q
  have q1:((sIx items.size 0 lo:Nat):Int)=0:=eq_of_beq q.1.1
  have q2:sIx items.size items.size hi - sIx items.size 0 lo=items.size:=eq_of_beq q.2
  exact hw ⟨by lia,by lia⟩
 show wpAny _ _ (if (((sIx items.size 0 lo:Nat):Int)==0&&(1:Int)==1&&(sIx items.size items.size hi - sIx items.size 0 lo)==items.size)=true then _ else _) _ _ s
 rw[if_neg hno,pick_gen]
 first
  | exact wpAny_bind (m:=Builtin.Tuple.tupleExact _) (wpAny_newObj_type (wpAny_pure ⟨_,rfl,wpAny_pure h⟩) htake)
  | exact wpAny_bind (m:=Builtin.Tuple.tupleExact _) (wpAny_newObj_type (wpAny_bind (wpAny_pure (wpAny_pure ⟨_,rfl,wpAny_pure h⟩))) htake)
  | exact wpAny_bind (wpAny_bind (m:=Builtin.Tuple.tupleExact _) (wpAny_newObj_type (wpAny_pure (wpAny_pure ⟨_,rfl,wpAny_pure h⟩)) htake))
  | exact wpAny_bind (wpAny_bind (m:=Builtin.Tuple.tupleExact _) (wpAny_newObj_type (wpAny_pure ⟨_,rfl,wpAny_pure h⟩) htake))
end
end HT
namespace L2
open PySem PySem.Spec PyProof.Rows
noncomputable abbrev TO:=St→Hp→(Option Int→Hp→Prop)→Prop
noncomputable def PO (X:Cx) (e:Option Expr) (t:TO):Prop :=
 ∀(pins:List (Addr×Obj)) (s:Shared) (σ:St) (H:Hp) (Q:Option Int→Hp→Prop),Inv X pins σ H s→t σ H Q →
  wpAny (model X.prog X.w) X.A (evalPart e X.env) (λu s'=>∃o H',Inv X pins σ H' s'∧IsPart u o∧Q o H') X.xe s
noncomputable def tNoPart:TO:=λ_ H Q=>Q none H
theorem intsAre_of {ns:List Int}:∀ {us:List Value},Vals (ns.map V.int) us→IntsAre us ns:=by
 induction ns with
 | nil=>intro us r;rw[List.map_nil] at r;cases r;exact .nil
 | cons n ns ih =>
  intro us r
  rw[List.map_cons] at r
  cases r with
  | cons r1 r2 =>
   obtain⟨t,e⟩:=r1
   subst e
   exact .cons n t (ih r2)
section
variable {X:Cx} {e:Expr} {te:TE} {lo hi:Option Expr} {tl th:TO} {pos p2:Pos}
theorem po_none:PO X none tNoPart:=by
 intro pins s σ H Q I h
 rw[evalPart_none]
 exact wpAny_pure ⟨none,H,I,.none,h⟩
noncomputable def SlR (X:Cx) (r:V→Option Int→Option Int→Hp→VK→Prop):Prop :=
 ∀(pins:List (Addr×Obj)) (s:Shared) (σ:St) (H:Hp) (x:V) (v vl vu:Value) (lo hi:Option Int) (sl:Addr) (Q:VK),Inv X pins σ H s→RelV x v→s.heap.IsSliceOf sl vl vu .none→IsPart vl lo→IsPart vu hi→r x lo hi H Q →
  ∃T id,typeLookup (.type T) "__getitem__" = pure (some (.builtin id))∧s.TypeIs v T∧wpAny (model X.prog X.w) X.A (getItem v (.ref sl)) (EP X pins σ Q) X.xe s
noncomputable def tSl (r:V→Option Int→Option Int→Hp→VK→Prop) (te:TE) (tl th:TO):TE:=λσ H Q=>te σ H λx H1=>tl σ H1 λl H2=>th σ H2 λu H3=>r x l u H3 Q
theorem pe_slice {r:V→Option Int→Option Int→Hp→VK→Prop} (hr:SlR X r) (he:PE X e te) (hl:PO X lo tl) (hu:PO X hi th):PE X (.Subscript e (.Slice lo hi none p2) pos) (tSl r te tl th):=by
 intro pins s σ H Q I h
 refine Subscript_ (thn (he pins s σ H _ I h) λv s1 ⟨x,H1,I1,r1,q1⟩=>?_)
 refine wpAny_Slice (thn (hl pins s1 σ H1 _ I1 q1) λvl s2 ⟨l,H2,I2,pl,q2⟩=>thn (hu pins s2 σ H2 _ I2 q2) λvu s3 ⟨u,H3,I3,pu,q3⟩=>?_)
 rw[evalPart_none]
 refine wpAny_pure ?_
 have I4:Inv X pins σ H3 { s3 with heap:=s3.heap.push { cls:=.type "slice", data:=.fields #[vl,vu,.none] } }:=I3.kept (t':=s3.toks) λb ob q=>Heap.get?_push_of_some _ q
 obtain⟨T,id,hT,ht,hg⟩:=hr pins { s3 with heap:=s3.heap.push { cls:=.type "slice", data:=.fields #[vl,vu,.none] } } σ H3 x v vl vu l u s3.heap.objs.size Q I4 r1 (Heap.IsSliceOf.new ..) pl pu q3
 show wpAny (model X.prog X.w) X.A (subscriptTail e (.Slice lo hi none p2) v (.ref s3.heap.objs.size)) (EP X pins σ Q) X.xe { s3 with heap:=s3.heap.push { cls:=.type "slice", data:=.fields #[vl,vu,.none] } }
 exact tail_any (ops:=[.ref s3.heap.objs.size,v]) ht hT hg (by with_unfolding_all rfl)
noncomputable def cutV (xs:List V) (lo hi:Option Int):List V:=(xs.drop (HT.sIx xs.length 0 lo)).take (HT.sIx xs.length xs.length hi - HT.sIx xs.length 0 lo)
theorem cutV_length (xs:List V) (lo hi:Option Int):(cutV xs lo hi).length≤xs.length:=by
 unfold cutV
 rw[List.length_take,List.length_drop]
 lia
noncomputable def rSlT (K:PySem.W.Frag):V→Option Int→Option Int→Hp→VK→Prop:=λx lo hi H Q=>∃a xs,x=.ref a∧SqT K H a xs ∧
 ¬(HT.sIx xs.length 0 lo=0∧HT.sIx xs.length xs.length hi=xs.length)∧∀p,H p=none→Q (.ref p) (upd H p (.tup (cutV xs lo hi)))
theorem sl_tup:SlR X (rSlT X.K):=by
 intro pins s σ H x v vl vu lo hi sl Q I rx hs pl pu h
 obtain⟨a,xs,rfl,hx,hw,q⟩:=h
 cases rx
 obtain⟨its,r,ht,hz⟩:=I.tuple hx
 have hlen:its.toArray.size=xs.length:=by rw[List.size_toArray];exact r.length.symm
 refine⟨"tuple", _,PyProof.Rows.slot_tuple_getitem.lookup,ht.typeIs,?_⟩
 refine HT.getItem_tuple_cut ht hs pl pu (by rw[hlen];exact hw) ?_ (by rw[hlen];exact hz)
 rw[hlen]
 refine⟨.ref s.heap.objs.size,_,I.laid (t':=s.toks) (o:=.tup (cutV xs lo hi)) (λb ob q=>Heap.get?_push_of_some _ q) (Nat.le_refl _) ?_,rfl,q _ (I.hok.fresh (Nat.le_refl _))⟩
 exact⟨Nat.le_trans (cutV_length xs lo hi) hz,_,(r.drop (HT.sIx xs.length 0 lo)).take (HT.sIx xs.length xs.length hi - HT.sIx xs.length 0 lo),IsTup.new _ _⟩
noncomputable def rCatT (K:PySem.W.Frag):R2:=λx y H Q=>∃a b xs ys,x=.ref a∧y=.ref b∧SqT K H a xs∧SqT K H b ys∧xs≠[]∧xs.length+ys.length≤sizeLine ∧
 (ys=[]→Q (.ref a) H)∧(ys≠[]→∀p,H p=none→Q (.ref p) (upd H p (.tup (xs++ys))))
theorem Vals.nil_iff {xs:List V} {us:List Value} (r:Vals xs us):us=[]↔xs=[]:=by
 cases r with
 | nil=>simp
 | cons _ _=>simp
theorem op_catT:OpR X (binaryOp .Add) (rCatT X.K):=by
 intro pins s σ H x y v u Q I rx ry h
 obtain⟨a,b,xs,ys,rfl,rfl,ha,hb,hx,hz,q1,q2⟩:=h
 cases rx
 cases ry
 obtain⟨its,r1,p1,_⟩:=I.tuple ha
 obtain⟨its2,r2,p2,_⟩:=I.tuple hb
 refine HT.cat_tup p1 p2 (λz=>hx (r1.nil_iff.mp z)) (λz=>⟨.ref a,H,I,rfl,q1 (r2.nil_iff.mp z)⟩) (λz=>?_) (by rw[←r1.length,←r2.length];exact hz)
 refine⟨.ref s.heap.objs.size,_,I.laid (t':=s.toks) (o:=.tup (xs++ys)) (λb ob q=>Heap.get?_push_of_some _ q) (Nat.le_refl _) ?_,rfl,q2 (λw=>z (r2.nil_iff.mpr w)) _ (I.hok.fresh (Nat.le_refl _))⟩
 exact⟨by rw[List.length_append];exact hz,_,r1.append r2,IsTup.new _ _⟩
end
noncomputable def ixN (n:Nat) (i:Int):Option Nat:=if 0≤i then (if i < n then some i.toNat else none) else if -(n:Int)≤i then some (i+n).toNat else none
noncomputable def atI {α:Type} (xs:List α) (i:Int):Option α:=(ixN xs.length i).bind λj=>xs[j]?
theorem ixN_seq {n:Nat} {i:Int} {j:Nat} (h:ixN n i=some j):seqIndex? i n=some j∧j < n ∧ -(n:Int)≤i∧i < n:=by
 unfold ixN at h
 by_cases h0:0≤i
 ·rw[if_pos h0] at h
  by_cases h1:i < n
  ·rw[if_pos h1] at h
   have e:i.toNat=j:=Option.some.inj h
   exact⟨by rw[seqIndex_of h0 h1,e],by lia,by lia,h1⟩
  ·rw[if_neg h1] at h;cases h
 ·rw[if_neg h0] at h
  by_cases h1:-(n:Int)≤i
  ·rw[if_pos h1] at h
   have e:(i+n).toNat=j:=Option.some.inj h
   exact⟨by rw[seqIndex_neg (by lia) h1,e],by lia,h1,by lia⟩
  ·rw[if_neg h1] at h;cases h
theorem atI_get {α:Type} {xs:List α} {i:Int} {v:α} (h:atI xs i=some v):∃j,seqIndex? i xs.length=some j∧xs[j]?=some v∧j < xs.length ∧ -(xs.length:Int)≤i∧i < xs.length:=by
 unfold atI at h
 cases e:ixN xs.length i with
 | none=>rw[e] at h;cases h
 | some j =>
  rw[e] at h
  obtain⟨h1,h2,h3,h4⟩:=ixN_seq e
  exact⟨j,h1,h,h2,h3,h4⟩
noncomputable def PlainIx (b:Expr):Prop:=∀o i,subscripted b false o i=operate [o,i] (getItem o i)
noncomputable def IxR (X:Cx) (r:R2):Prop :=
 ∀(value slice:Expr) (pins:List (Addr×Obj)) (s:Shared) (σ:St) (H:Hp) (x y:V) (v u:Value) (Q:VK),Inv X pins σ H s→RelV x v→RelV y u→r x y H Q →
  subscripted slice false v u=operate [v,u] (getItem v u)→wpAny (model X.prog X.w) X.A (subscriptTail value slice v u) (EP X pins σ Q) X.xe s
noncomputable def MtR (X:Cx) (id:String) (r:V→List V→Hp→VK→Prop):Prop :=
 ∀(pins:List (Addr×Obj)) (s:Shared) (σ:St) (H:Hp) (x:V) (xs:List V) (v:Value) (us:List Value) (Q:VK),Inv X pins σ H s→RelV x v→Vals xs us→r x xs H Q →
  wpAny (model X.prog X.w) X.A (call (.builtin id) (v::us)) (EP X pins σ Q) X.xe s
section
variable {X:Cx} {a b:Expr} {ta tb:TE} {pos:Pos}
theorem pe_ix {r:R2} (hr:IxR X r) (ha:PE X a ta) (hb:PE X b tb) (hs:PlainIx b):PE X (.Subscript a b pos) (tOp r ta tb):=by
 intro pins s σ H Q I h
 exact Subscript_ (binT ha hb I h λv u s2 x y H2 I2 rx ry q=>hr a b pins s2 σ H2 x y v u Q I2 rx ry q (hs _ _))
noncomputable def rIxL (K:PySem.W.Frag):R2:=λx y H Q=>∃p xs i v,x=.ref p∧y=.int i∧SqL K H p xs∧atI xs i=some v∧Q v H
noncomputable def rIxT (K:PySem.W.Frag):R2:=λx y H Q=>∃p xs i v,x=.ref p∧y=.int i∧SqT K H p xs∧atI xs i=some v∧Q v H
noncomputable def rIxS:R2:=λx y H Q=>∃z i c,x=.str z∧y=.int i∧z.length≤sizeLine∧atI z.cps.toList i=some c∧Q (.str ⟨#[c]⟩) H
theorem ix_list:IxR X (rIxL X.K):=by
 intro value slice pins s σ H x y v u Q I rx ry h hs
 obtain⟨p,xs,i,z,rfl,rfl,hq,he,q⟩:=h
 cases rx
 obtain⟨t,rfl⟩:=ry
 obtain⟨its,r,pl,hz⟩:=I.list hq
 obtain⟨j,h1,h2,h3,h4,h5⟩:=atI_get he
 obtain⟨w,ew,rw'⟩:=r.get h2
 have hl:=r.length
 have hn:=line63
 have fin:EP X pins σ Q w s:=⟨z,H,I,rw',q⟩
 by_cases h0:0≤i
 ·have hj:i.toNat=j:=by
   rw[seqIndex_of h0 h5] at h1
   exact Option.some.inj h1
  exact item_listR pl.isList h0 (by lia) (by rw[hj];simpa using ew) fin hs
 ·have hj:(i+(its.toArray.size:Int)).toNat=j:=by
   rw[seqIndex_neg (by lia) h4] at h1
   rw[List.size_toArray,←hl]
   exact Option.some.inj h1
  exact subscriptTail_builtinR (x:=w) pl.isList.typeIs slot_list_getitem.lookup
   (wpAny_getItem_list_neg (Q:=λr s'=>r=w∧EP X pins σ Q r s') pl.isList (by lia) (by rw[List.size_toArray]<;>lia) (by lia) (by rw[hj];simpa using ew) ⟨rfl,fin⟩) hs
theorem ix_tup:IxR X (rIxT X.K):=by
 intro value slice pins s σ H x y v u Q I rx ry h hs
 obtain⟨p,xs,i,z,rfl,rfl,hq,he,q⟩:=h
 cases rx
 obtain⟨t,rfl⟩:=ry
 obtain⟨its,r,pl,hz⟩:=I.tuple hq
 obtain⟨j,h1,h2,h3,h4,h5⟩:=atI_get he
 obtain⟨w,ew,rw'⟩:=r.get h2
 have hl:=r.length
 have hn:=line63
 have fin:EP X pins σ Q w s:=⟨z,H,I,rw',q⟩
 exact subscriptTail_builtinR (x:=w) pl.typeIs slot_tuple_getitem.lookup
  (getItem_tuple (j:=j) (Q:=λr s'=>r=w∧EP X pins σ Q r s') pl (by lia) (by lia) (by rw[List.size_toArray,←hl];exact h1) (by simpa using ew) ⟨rfl,fin⟩) hs
theorem ix_str:IxR X rIxS:=by
 intro value slice pins s σ H x y v u Q I rx ry h hs
 obtain⟨z,i,c,rfl,rfl,hz,he,q⟩:=h
 obtain⟨t,rfl⟩:=rx
 obtain⟨t',rfl⟩:=ry
 obtain⟨j,h1,h2,h3,h4,h5⟩:=atI_get he
 have hl:z.cps.toList.length=z.length:=by simp[Str.length]
 rw[hl] at h1 h4 h5
 have hn:=line63
 exact tail_any (typeIs_str s z t) slot_str_getitem.lookup (getItem_str (c:=c) (by
  have e1:decide (i < -(2^63:Int))=false:=decide_eq_false (by lia)
  have e2:decide (i≥2^63)=false:=decide_eq_false (by lia)
  rw[e1,e2,Bool.or_false]) (by rw[h1];simpa using h2) ⟨.str ⟨#[c]⟩,H,I.tok _,⟨_,rfl⟩,q⟩) hs
theorem slice_bounds (lo hi:Option Int) (n:Nat):(sliceBounds lo hi none n).1=((HT.sIx n 0 lo:Nat):Int)∧(sliceBounds lo hi none n).2.1=((HT.sIx n n hi:Nat):Int)∧(sliceBounds lo hi none n).2.2=1:=by
 refine⟨?_,?_,rfl⟩
 ·cases lo with
  | none=>simp[sliceBounds,HT.sIx]
  | some i =>
   simp only[sliceBounds,HT.sIx,Option.getD_none,show (1:Int) > 0 by decide,if_true]
   by_cases h:i < 0
   ·simp only[h,if_true]<;>lia
   ·simp only[h,if_false]<;>lia
 ·cases hi with
  | none=>simp[sliceBounds,HT.sIx]
  | some i =>
   simp only[sliceBounds,HT.sIx,Option.getD_none,show (1:Int) > 0 by decide,if_true]
   by_cases h:i < 0
   ·simp only[h,if_true]<;>lia
   ·simp only[h,if_false]<;>lia
theorem slicePick_cut (its:List Value) (lo hi:Option Int):slicePick its.toArray lo hi none=((its.drop (HT.sIx its.length 0 lo)).take (HT.sIx its.length its.length hi - HT.sIx its.length 0 lo)).toArray:=by
 obtain⟨h1,h2,h3⟩:=slice_bounds lo hi its.toArray.size
 unfold slicePick
 rw[h1,h2,h3]
 simp only[sliceRange_one,pick_run,List.size_toArray]<;>rfl
noncomputable def rSlL (K:PySem.W.Frag):V→Option Int→Option Int→Hp→VK→Prop:=λx lo hi H Q=>∃a xs,x=.ref a∧SqL K H a xs∧∀p,H p=none→Q (.ref p) (upd H p (.lst (cutV xs lo hi)))
theorem sl_list:SlR X (rSlL X.K):=by
 intro pins s σ H x v vl vu lo hi sl Q I rx hs pl pu h
 obtain⟨a,xs,rfl,hx,q⟩:=h
 cases rx
 obtain⟨its,r,ht,hz⟩:=I.list hx
 have hlen:=r.length
 refine⟨"list", _,slot_list_getitem.lookup,ht.isList.typeIs,?_⟩
 refine wpAny_getItem_list_slice ht.isList hs pl pu .none (by simp) ?_ (by rw[List.size_toArray]<;>lia)
 rw[slicePick_cut,←hlen]
 refine⟨.ref s.heap.objs.size,_,I.laid (t':=s.toks) (o:=.lst (cutV xs lo hi)) (λb ob q=>Heap.get?_push_of_some _ q) (Nat.le_refl _) ?_,rfl,q _ (I.hok.fresh (Nat.le_refl _))⟩
 exact⟨Nat.le_trans (cutV_length xs lo hi) hz,_,0,(r.drop (HT.sIx xs.length 0 lo)).take (HT.sIx xs.length xs.length hi - HT.sIx xs.length 0 lo),Heap.get?_push_size _ rfl⟩
theorem call_len_seq:CallR X (.builtin "len") (λxs H Q=>∃p ys,xs=[.ref p]∧(SqL X.K H p ys∨SqT X.K H p ys)∧Q (.int ys.length) H):=by
 intro pins s σ H xs us Q I r h
 obtain⟨p,ys,rfl,hq,q⟩:=h
 obtain⟨u,rfl,rx⟩:=vals1 r
 cases rx
 have hn:=line63
 rcases hq with hq | hq
 ·obtain⟨its,r',pl,hz⟩:=I.list hq
  have hlen:=r'.length
  exact Calls.call_len_list pl.isList (by simp only[List.size_toArray]<;>lia) ⟨.int ys.length,H,I.tok _,⟨s.toks+1,by rw[List.size_toArray,hlen]⟩,q⟩
 ·obtain⟨its,r',pl,hz⟩:=I.tuple hq
  have hlen:=r'.length
  exact len_tuple pl (by simp only[List.size_toArray]<;>lia) ⟨.int ys.length,H,I.tok _,⟨s.toks+1,by rw[List.size_toArray,hlen]⟩,q⟩
theorem call_len_str:CallR X (.builtin "len") (λxs H Q=>∃z,xs=[.str z]∧z.length≤sizeLine∧Q (.int z.length) H):=by
 intro pins s σ H xs us Q I r h
 obtain⟨z,rfl,hz,q⟩:=h
 obtain⟨u,rfl,t,rfl⟩:=vals1 r
 have hn:=line63
 exact len_str (by lia) ⟨.int z.length,H,I.tok _,⟨_,rfl⟩,q⟩
theorem call_tuple_of:CallR X (.type "tuple") (λxs H Q=>∃p ys,xs=[.ref p]∧((SqL X.K H p ys∧∀l,H l=none→Q (.ref l) (upd H l (.tup ys)))∨(SqT X.K H p ys∧Q (.ref p) H))):=by
 intro pins s σ H xs us Q I r h
 obtain⟨p,ys,rfl,h⟩:=h
 obtain⟨u,rfl,rx⟩:=vals1 r
 cases rx
 rcases h with ⟨hq,q⟩ | ⟨hq,q⟩
 ·obtain⟨its,r',pl,hz⟩:=I.list hq
  have hlen:=r'.length
  refine call_tuple_list pl.isList (λh' kp=>?_) (by simp only[List.size_toArray]<;>lia)
  have I1:Inv X pins σ H { s with heap:=h' }:=I.kept (t':=s.toks) kp
  have I2:Inv X pins σ (upd H h'.objs.size (.tup ys)) { s with heap:=h'.push { cls:=.type "tuple", data:=.seq its.toArray } } :=
   I1.laid (t':=s.toks) (λb o e=>Heap.get?_push_of_some _ e) (Nat.le_refl _) (show ObjOk X.prog X.w _ _ _ (.tup ys) from ⟨hz,its,r',IsTup.new _ _⟩)
  exact⟨.ref h'.objs.size,_,I2,rfl,q _ (I1.hok.fresh (Nat.le_refl _))⟩
 ·obtain⟨its,r',pl,hz⟩:=I.tuple hq
  exact call_tuple_same pl ⟨.ref p,H,I,rfl,q⟩
noncomputable def tyV (K:PySem.W.Frag) (T:String) (x:V) (H:Hp):Prop:=match x with
 | .str _=>T = "str"
 | .int _=>T = "int"
 | .ref p=>(T = "list" ∧ ∃xs,SqL K H p xs)∨(T = "tuple" ∧ ∃o,K.lookup p=some o∧o.cls=.type "tuple" ∧ o.dict=none) ∨
  (T = "dict" ∧ ((∃kvs,H p=some (.dK kvs))∨∃kvs,H p=some (.dT kvs)))∨(T = "set" ∧ ∃S n,H p=some (.set S n))
 | _=>False
theorem tyV_is {pins:List (Addr×Obj)} {σ:St} {H:Hp} {s:Shared} {T:String} {x:V} {v:Value} (I:Inv X pins σ H s) (r:RelV x v) (ty:tyV X.K T x H) :
 s.TypeIs v T∧∀a,v=.ref a→∃ob,s.heap.get? a=some ob∧ob.dict=none:=by
 cases x with
 | str z =>
  obtain⟨t,rfl⟩:=r
  cases (show T = "str" from ty)
  exact⟨typeIs_str s z t,λ_ e=>nomatch e⟩
 | int i =>
  obtain⟨t,rfl⟩:=r
  cases (show T = "int" from ty)
  exact⟨typeIs_int s i t,λ_ e=>nomatch e⟩
 | ref p =>
  cases r
  rcases ty with ⟨rfl,xs,hq⟩ | ⟨rfl,o,hk,hc,hd⟩ | ⟨rfl,hk⟩ | ⟨rfl,S,n,hk⟩
  ·obtain⟨its,_,pl,_⟩:=I.list hq
   refine⟨pl.isList.typeIs,λa e=>?_⟩
   cases e
   obtain⟨o,n,e,c,hd,_⟩:=pl
   exact⟨o,e,hd⟩
  ·refine⟨⟨o,I.kIn p o hk,hc⟩,λa e=>?_⟩
   cases e
   exact⟨o,I.kIn _ o hk,hd⟩
  ·have z:∃o,s.heap.get? p=some o∧o.ExactDict:=by
    rcases hk with ⟨kvs,hk⟩ | ⟨kvs,hk⟩
    ·obtain⟨_,_,_,_,o,_,_,e,ex,_⟩:=I.hok p _ hk
     exact⟨o,e,ex⟩
    ·obtain⟨_,_,_,_,o,_,_,e,ex,_⟩:=I.hok p _ hk
     exact⟨o,e,ex⟩
   obtain⟨o,e,ex⟩:=z
   refine⟨⟨o,e,ex.1⟩,λa e2=>?_⟩
   cases e2
   exact⟨o,e,ex.2.1⟩
  ·obtain⟨o,_,_,_,e,ex,_⟩:=I.hok p _ hk
   refine⟨⟨o,e,ex.1⟩,λa e2=>?_⟩
   cases e2
   exact⟨o,e,ex.2.1⟩
 | _=>exact False.elim ty
noncomputable def tBM0 (K:PySem.W.Frag) (T:String) (r:V→List V→Hp→VK→Prop) (to:TE):TE:=λσ H Q=>to σ H λx H1=>tyV K T x H1∧r x [] H1 Q
noncomputable def tBM (K:PySem.W.Frag) (T:String) (r:V→List V→Hp→VK→Prop) (to:TE) (t:TA):TE:=λσ H Q=>to σ H λx H1=>tyV K T x H1∧t σ H1 λxs H2=>r x xs H2 Q
variable {o e:Expr} {es:List Expr} {to:TE} {t:TA} {name:Str} {apos cpos:Pos} {T id:String} {r:V→List V→Hp→VK→Prop}
theorem pe_bm0 (pa:PlainAttrs T) (slot:Slot T name id) (hty:typeOf (.builtin id)=pure (.type "method_descriptor")) (hm:MtR X id r) (ho:PE X o to)
 (hbase:attributeBase o name X.env (eval o X.env)=eval o X.env:=by rfl) (hline:(apos.endLine==cpos.line)=true:=by rfl):PE X (.Call (.Attribute o name apos) [] [] cpos) (tBM0 X.K T r to):=by
 intro pins s σ H Q I h
 refine wpAny_Call_method0_late hbase hline (thn (ho pins s σ H _ I h) λv s1 ⟨x,H1,I1,r1,ty,q1⟩=>?_)
 obtain⟨h1,h2⟩:=tyV_is I1 r1 ty
 exact⟨T,id,pa,slot,hty,h1,h2,Calls.callWith_builtin rfl (PySem.evalArgs_none (hm pins s1 σ H1 x [] v [] Q I1 r1 .nil q1))⟩
theorem pe_bm (pa:PlainAttrs T) (slot:Slot T name id) (hty:typeOf (.builtin id)=pure (.type "method_descriptor")) (hm:MtR X id r) (ho:PE X o to) (ha:PA X (e::es) t)
 (hbase:attributeBase o name X.env (eval o X.env)=eval o X.env:=by rfl)
 (hfew:((backTo cpos (starEach (e::es) X.env)).all (λx=>!x.1)&&(backToKw cpos (keywordEach [] X.env)).all (λx=>x.1.isSome)
  && decide ((e::es).length+([]:List Keyword).length+(if ([]:List Keyword).isEmpty then 0 else 1) < 30))=true:=by rfl)
 (hline:(apos.endLine==cpos.line)=true:=by rfl) (hs:starEach (e::es) X.env=(false,eval e X.env)::starEach es X.env:=by rfl) (hplain:(backTo cpos (starEach es X.env)).any (·.1)=false:=by rfl) :
 PE X (.Call (.Attribute o name apos) (e::es) [] cpos) (tBM X.K T r to t):=by
 intro pins s σ H Q I h
 refine wpAny_Call_method_late hbase hfew hline rfl (thn (ho pins s σ H _ I h) λv s1 ⟨x,H1,I1,r1,ty,q1⟩=>?_)
 obtain⟨h1,h2⟩:=tyV_is I1 r1 ty
 refine⟨T,id,pa,slot,hty,h1,h2,?_⟩
 have hA:=ha cpos pins s1 σ H1 _ I1 q1
 rw[hs] at hA ⊢
 refine Calls.callWith_builtin (by show (false||(backTo cpos (starEach es X.env)).any (·.1))=false;rw[hplain]<;>rfl) (Calls.evalArgs_plain ?_)
 exact thn hA λus s2 ⟨vs,H2,I2,r2,q2⟩=>hm pins s2 σ H2 x vs v us Q I2 r1 r2 q2
end
noncomputable def MtM (X:Cx) (id:String) (r:V→List V→Hp→VK→Prop):Prop :=
 ∀(pins:List (Addr×Obj)) (s:Shared) (σ:St) (H:Hp) (x:V) (xs:List V) (v:Value) (us:List Value) (Q:VK),Inv X pins σ H s→RelV x v→Vals xs us→r x xs H Q →
  wpAny (model X.prog X.w) X.A (call (.builtin id) (v::us)) (EP X pins σ Q) X.xe s
theorem Vals.one:∀ {x:V} {us:List Value},Vals [x] us→∃u,us=[u]∧RelV x u
 | _,_,.cons r .nil=>⟨_,rfl,r⟩
theorem Vals.zero:∀ {us:List Value},Vals [] us→us=[]
 | _,.nil=>rfl
theorem Vals.reverse {xs:List V} {us:List Value} (h:Vals xs us):Vals xs.reverse us.reverse:=by
 induction h with
 | nil=>exact .nil
 | cons r t ih=>rw[List.reverse_cons,List.reverse_cons];exact Vals.append ih (.cons r .nil)
theorem Vals.rep {xs:List V} {us:List Value} (h:Vals xs us):∀k:Nat,Vals (List.replicate k xs).flatten (List.replicate k us).flatten
 | 0=>.nil
 | k+1=>by
  rw[List.replicate_succ,List.replicate_succ,List.flatten_cons,List.flatten_cons]
  exact Vals.append h (Vals.rep h k)
theorem foldl_rep (its:List Value):∀(k:Nat) (acc:List Value),
 List.foldl (λx1 x2=>x1++x2) acc.toArray (List.replicate k its.toArray)=(acc++(List.replicate k its).flatten).toArray
 | 0,acc=>by simp
 | k+1,acc=>by
  have e:acc.toArray++its.toArray=(acc++its).toArray:=by simp
  have e2:(acc++its)++(List.replicate k its).flatten=acc++(List.replicate (k+1) its).flatten:=by
   rw[List.replicate_succ,List.flatten_cons,List.append_assoc]
  rw[←e2,←foldl_rep its k (acc++its),←e,List.replicate_succ,List.foldl_cons]
section
variable {X:Cx} {pins:List (Addr×Obj)} {σ:St} {H:Hp} {s:Shared} {l b:Addr} {xs ys zs:List V}
theorem Inv.lset {its its':List Value} {n:Nat} {f:Array Value→Array Value} {t':Nat} (I:Inv X pins σ H s) (hH:H l=some (.lst xs))
 (e:s.heap.get? l=some { cls:=.type "list", data:=.seq its.toArray n }) (hf:f its.toArray=its'.toArray) (hv:Vals ys its') (hz:ys.length≤sizeLine) :
 Inv X pins σ (upd H l (.lst ys)) { s with heap:=s.heap.update l (Obj.mapSeq f),toks:=t' }:=by
 have q:=PySem.IsL.update e f
 rw[hf] at q
 refine I.write (x:=l) (e:=l) (by rw[hH];exact trivial) (.inl rfl) (λb' u hb hu=>(Heap.get?_update_other s.heap (Obj.mapSeq f) (Ne.symm hb)).trans hu) ⟨_,q⟩ ?_
 exact⟨hz,its',_,hv,q⟩
theorem Inv.lnew {its:List Value} {t':Nat} (I:Inv X pins σ H s) (hv:Vals ys its) (hz:ys.length≤sizeLine) :
 Inv X pins σ (upd H s.heap.objs.size (.lst ys)) { s with heap:=s.heap.push { cls:=.type "list", data:=.seq its.toArray },toks:=t' } :=
 I.laid (λ_ _ q=>Heap.get?_push_of_some _ q) (Nat.le_refl _) ⟨hz,its,0,hv,Heap.get?_push_size _ rfl⟩
theorem Inv.fresh (I:Inv X pins σ H s):H s.heap.objs.size=none:=I.hok.fresh (Nat.le_refl _)
theorem Inv.lstM (I:Inv X pins σ H s) (hH:H l=some (.lst xs)):xs.length≤sizeLine∧∃(its:List Value) (n:Nat),Vals xs its∧xs.length=its.length∧s.heap.get? l=some { cls:=.type "list", data:=.seq its.toArray n }:=by
 obtain⟨z,its,n,r,e⟩:=I.hok l _ hH
 exact⟨z,its,n,r,r.length,e⟩
theorem notLongL {n:Nat} (h:n≤sizeLine):Builtin.List.listTooLong n=false:=by
 unfold Builtin.List.listTooLong
 exact decide_eq_false (by lia)
end
section
variable {X:Cx}
noncomputable def rAppend:V→List V→Hp→VK→Prop:=λx vs H Q=>∃l xs y,x=.ref l∧vs=[y]∧H l=some (.lst xs)∧xs.length < sizeLine∧Q .non (upd H l (.lst (xs++[y])))
theorem mt_append:MtM X "list.append" rAppend:=by
 intro pins s σ H x vs v us Q I rx rv h
 obtain⟨l,xs,y,rfl,rfl,hH,hz,q⟩:=h
 cases rx
 obtain⟨u,rfl,ru⟩:=rv.one
 obtain⟨z,its,n,r,hl,e⟩:=I.lstM hH
 refine call_meets F.slot_list_append ⟨_,e,rfl⟩ F.entry_list_append (F.args_list_append_2 _ _) (PySem.list_append l its.toArray n u (by rw[List.size_toArray];lia)) ⟨e,?_⟩
 refine⟨.non,_,I.lset (its':=its++[u]) hH e (by simp) (r.append (.cons ru .nil)) ?_,rfl,q⟩
 rw[List.length_append,List.length_singleton]
 lia
noncomputable def rExtend:V→List V→Hp→VK→Prop:=λx vs H Q=>∃l b xs zs,x=.ref l∧vs=[.ref b]∧H l=some (.lst xs)∧H b=some (.lst zs)∧xs.length+zs.length≤sizeLine∧Q .non (upd H l (.lst (xs++zs)))
theorem mt_extend:MtM X "list.extend" rExtend:=by
 intro pins s σ H x vs v us Q I rx rv h
 obtain⟨l,b,xs,zs,rfl,rfl,hH,hB,hz,q⟩:=h
 cases rx
 obtain⟨u,rfl,ru⟩:=rv.one
 cases ru
 obtain⟨z,its,n,r,hl,e⟩:=I.lstM hH
 obtain⟨z2,its2,n2,r2,hl2,e2⟩:=I.lstM hB
 have hsz:its.toArray.size+its2.toArray.size≤sizeLine:=by rw[List.size_toArray,List.size_toArray];lia
 have hlong:¬(!its.toArray.isEmpty&&Builtin.List.listTooLong (its.toArray.size+its2.toArray.size))=true:=by
  rw[notLongL hsz,Bool.and_false]
  exact Bool.false_ne_true
 refine call_meets F.slot_list_extend ⟨_,e,rfl⟩ F.entry_list_extend (F.args_list_extend_2 _ _)
  (AutoSeq1.list_extend_list_list_0 l its.toArray n b its2.toArray n2 hlong (by rw[List.size_toArray];lia) (by lia)) ⟨e,e2,?_⟩
 refine⟨.non,_,I.lset (its':=its++its2) hH e (by simp) (r.append r2) ?_,rfl,q⟩
 rw[List.length_append]
 lia
noncomputable def rReverse:V→List V→Hp→VK→Prop:=λx vs H Q=>∃l xs,x=.ref l∧vs=[]∧H l=some (.lst xs)∧Q .non (upd H l (.lst xs.reverse))
theorem mt_reverse:MtM X "list.reverse" rReverse:=by
 intro pins s σ H x vs v us Q I rx rv h
 obtain⟨l,xs,rfl,rfl,hH,q⟩:=h
 cases rx
 have hus:=rv.zero
 subst hus
 obtain⟨z,its,n,r,hl,e⟩:=I.lstM hH
 refine call_meets F.slot_list_reverse ⟨_,e,rfl⟩ F.entry_list_reverse (F.args_list_reverse_1 _) (AutoSeq1.list_reverse_list_0 l its.toArray n (by rw[List.size_toArray];lia)) ⟨e,?_⟩
 refine⟨.non,_,I.lset (its':=its.reverse) hH e (by simp) r.reverse ?_,rfl,q⟩
 rw[List.length_reverse]
 lia
theorem len_rep {α:Type} (xs:List α) (k:Nat):(List.replicate k xs).flatten.length=k*xs.length:=by
 induction k with
 | zero=>simp
 | succ k ih=>rw[List.replicate_succ,List.flatten_cons,List.length_append,ih,Nat.succ_mul,Nat.add_comm]
end
end L2
namespace Att
open PySem PySem.W PySem.Calls PyProof.Rows
theorem ints_of_wellAll {P:Params} {h:Heap}:∀(ns:List Int) (vs:List Value),WellAll P h vs (ns.map WData.int)→IntsAre vs ns:=by
 intro ns
 induction ns with
 | nil =>
  intro vs w
  rw[List.map_nil] at w
  cases w
  exact .nil
 | cons n ns ih =>
  intro vs w
  rw[List.map_cons] at w
  cases w with
  | cons a b =>
   cases a
   exact .cons _ _ (ih _ b)
theorem script_of {l:OpenLaw} {n:Nat} (hn:l.most=some n) {P:Params} {h:Heap} {args:List WData} {vals:List Value}
 (hpre:l.row.toRowW.claim.pre args=true) (hwl:WellAll P h vals args) :
 ∃a vs ns,vals=[Value.ref a]∧args=[WData.list (ns.map WData.int)]∧h.get? a=some { cls:=.type "list", data:=.seq vs.toArray }∧IntsAre vs ns∧ns.length≤n:=by
 have hsh:WShape.hasAll [] args [.list .int]=true:=(pre_splitW hpre).1
 have hc:l.pre.holds [] { args:=args }=true:=(pre_splitW hpre).2
 obtain⟨d,r,rfl,h1,h2⟩:=hasAllW_cons hsh
 obtain rfl:=hasAllW_nil h2
 obtain⟨xs,rfl,h3⟩:=hasW_list h1
 obtain⟨ns,rfl⟩:=items_int h3
 have hlen:ns.length≤n:=by
  unfold OpenLaw.pre at hc
  have h4:(WTm.not (.lt (.lit (.int (n:Int))) (.len (.arg 0)))).holds [] { args:=[.list (ns.map .int)] }=true:=by
   have h4:=(holds_andW hc).1
   rw[hn] at h4
   exact h4
  have h5:=condW_of h4 (w_not (w_lt w_lit (w_len_list (w_arg rfl))))
  rw[List.length_map] at h5
  refine Nat.le_of_not_lt λq=>?_
  have q':(n:Int) < ((ns.length:Nat):Int):=by lia
  first
   | (rw[decide_eq_true q'] at h5;exact absurd h5 (by decide))
   | (simp at h5;lia)
 cases hwl with
 | cons w1 w2 =>
  cases w2
  cases w1 with
  | list ho hall=>exact⟨_,_,ns,rfl,rfl,ho,ints_of_wellAll ns _ hall,hlen⟩
theorem post_true (l:OpenLaw) (args:List WData):l.row.toRowW.claim.post args (.bool true) args=true :=
 postW_of (r:=l.row.toRowW) (X:=(true==true))
  (show WShape.has [] (.bool true) .bool=true by first | rfl | decide | simp[WShape.has,WShape.arms,WShape.armsAll])
  (show (WTm.eq .res (.lit (.bool true))).value [] { args:=args,res:=some (.bool true),after:=args }=some (.bool (true==true)) from w_eq_bool (w_res rfl) w_lit) rfl
theorem attach_call {l:OpenLaw} {n:Nat} {q:Program} {loose:List Str} {XP:(Str→Option Value)→Heap→Prop} {YP:World→Heap→Prop} {d:DefRec}
 (hn:l.most=some n) (hdf:d.params.defaults=[])
 (call:∀(w:World) (s₀ s₁:Shared) (mg mb:Str→Option Value) (fa:Addr) (o:Obj) (pm cd doc:Value) (a:Addr) (vs:List Value) (ns:List Int),
  Ground q loose [] XP w s₀ mg mb s₁.heap→YP w s₁.heap →
  s₁.heap.get? fa=some o→o.data=.func (docDef d.name d.params d.body d.scope pm cd doc)→s₁.heap.CodeRec cd d.name→mg d.name=some (.ref fa) →
  s₁.heap.get? a=some { cls:=.type "list", data:=.seq vs.toArray }→IntsAre vs ns→ns.length≤n→s₁.gens=#[] →
  codeAny (model l.prog w) callerA (.call (.ref fa) ⟨[.ref a],[]⟩) (λr s'=>r=.ok (.ret (.bool true))∧OldK s₁.heap s'.heap∧s'.os=s₁.os∧AllBare s'.gens) s₁) :
 WalkO q loose XP YP l.row.toRowW d [] (λf vs=>PySem.call f vs):=by
 intro w s₀ s₁ mg mb G Y fa o pm cd doc dV kV ho hd hcd hD hmg hg args vals as hpre hlay hrd hwl hlo
 obtain rfl:dV=.none:=Dflts.none hD hdf
 obtain rfl:kV=.none:=Dflts.noKw hD
 obtain⟨a,vs,ns,rfl,rfl,hobj,hints,hlen⟩:=script_of hn hpre hwl
 refine enter_call (codeAny_mono (call w s₀ s₁ mg mb fa o pm cd doc a vs ns G Y ho (fd_plain hd) hcd hmg hobj hints hlen hg) λr s' hq=>?_)
 obtain⟨rfl,h2,h3,h4⟩:=hq
 exact⟨.inl ⟨.bool true,.bool true,[],rfl,λ_=>rfl,.bool true,post_true l _,λ_=>⟨List.Pairwise.nil,λ_ hm=>(nomatch hm)⟩⟩,h2,h3,h4⟩
end Att
namespace L2
open PySem PySem.Spec PyProof.Rows
theorem vals_ints:∀ {vs:List Value} {ns:List Int},IntsAre vs ns→Vals (ns.map V.int) vs
 | _,_,.nil=>.nil
 | _,_,.cons n t h=>.cons ⟨t,rfl⟩ (vals_ints h)
noncomputable def Only (H:Hp):Prop:=∀b,H b=none∨∃o xs,H b=some (.frz o (.lst xs))
theorem law_call {P:Program} {w:World} {K:PySem.W.Frag} {mg mb:Str→Option Value} {CX:CXT} {k:Nat} {fa a:Addr} {fd:FuncData} {x:Str} {sp:Sp} {s₁:Shared} {vs:List Value} {ns:List Int}
 (KX:K.In s₁.heap) (hns:s₁.heap.Ns mainGlobals mg) (hb:s₁.heap.Ns builtinsNs mb) (hbb:∀x:Str,x ≠ "__name__" → mb x=bootBuiltins x) (hlim:s₁.heap.NoLimit) (hg:s₁.gens=#[])
 (ha:s₁.heap.get? a=some { cls:=.type "list", data:=.seq vs.toArray }) (hi:IntsAre vs ns) (hl:ns.length≤sizeLine) (hr:Room k callerA)
 (F:∀base:Heap,K.In base→base.Ns mainGlobals mg→FnOk P w K mg base CX k fa fd [x] sp) (hbind:∀(s:Shared) (u:Value),BindsTo s fd ⟨[u],[]⟩ [(x,u)])
 (hsp:∀H:Hp,Only H→SqL K H a (ns.map V.int)→sp [.ref a] H (λv _=>v=.bl true) λ_ _ _=>False)
 (hCX:∀H e s',CX [] H s₁ (λ_ _ _=>False) e s'→False) :
 codeAny (model P w) callerA (.call (.ref fa) ⟨[.ref a],[]⟩) (λr s'=>r=.ok (.ret (.bool true))∧OldK s₁.heap s'.heap∧s'.os=s₁.os∧AllBare s'.gens) s₁:=by
 have rv:=vals_ints hi
 have lenV:=hi.length
 have core:∀H:Hp,Only H→SqL K H a (ns.map V.int)→HOk P w H s₁.heap→(∀b,H b≠none→b=a)→(H a≠none→K.lookup a=none) →
  codeAny (model P w) callerA (.call (.ref fa) ⟨[.ref a],[]⟩) (λr s'=>r=.ok (.ret (.bool true))∧OldK s₁.heap s'.heap∧s'.os=s₁.os∧AllBare s'.gens) s₁:=by
  intro H hO hS hok hA hK
  have base_of:∀ {b:Addr} {o:Obj},s₁.heap.get? b=some o→H b=none→(hidT s₁.heap H).get? b=some o:=λe n=>hidT_get e n
  have noA:∀ {b:Addr} {o:Obj} {es:Array DictEntry} {ep:Nat},s₁.heap.get? b=some o→o.data=.dict es ep→H b=none:=λ{b o es ep} e d=>by
   cases q:H b with
   | none=>rfl
   | some u =>
    have e':b=a:=hA b (by rw[q];simp)
    subst e'
    rw[ha] at e;cases e
    have d':Data.seq vs.toArray _=Data.dict es ep:=d
    cases d'
  have nsK:∀ {b:Addr} {m:Str→Option Value},s₁.heap.Ns b m→(hidT s₁.heap H).Ns b m:=λ{b m} ⟨o,es,ep,e,d,r⟩=>⟨o,es,ep,base_of e (noA e d),d,r⟩
  have hKb:K.In (hidT s₁.heap H):=λb o e=>base_of (KX b o e) (by
   cases q:H b with
   | none=>rfl
   | some u =>
    have e':b=a:=hA b (by rw[q];simp)
    subst e'
    rw[hK (by rw[q];simp)] at e;cases e)
  have hM:Mod K mg (hidT s₁.heap H):=⟨hKb,nsK hns,⟨mb,nsK hb,hbb⟩,let ⟨mc,h1,h2⟩:=hlim;⟨mc,nsK h1,h2⟩⟩
  have e0:Env0 P w K mg (hidT s₁.heap H) callerA [] s₁ H:=⟨rfl,hM,λb o e=>of_hidT e,Nat.le_of_eq (hidT_size _ _),trivial,λb hb=>absurd (show b∈([]:List Addr) from hb) (by simp),hok,.of_eq hg⟩
  refine codeAny_mono ((F _ hKb (nsK hns)).run callerA [] s₁ H ⟨[.ref a],[]⟩ [.ref a] [.ref a] _ _ hr e0 (hbind s₁ (.ref a)) (.cons rfl .nil) (hsp H hO hS)) λr s' h=>?_
  cases r with
  | error e=>exact (hCX H e s' h).elim
  | ok fl =>
   cases fl with
   | next=>exact False.elim h
   | brk=>exact False.elim h
   | cont=>exact False.elim h
   | ret u =>
    obtain⟨v,H',os,bare,un,hok',r',q⟩:=h
    have q':v=.bl true:=q
    subst q'
    obtain rfl:u=Value.bool true:=r'
    refine⟨rfl,OldK.of_keep λb o e=>?_,os,bare⟩
    cases q:H b with
    | none=>exact un.keep b o e q (by intro z;exact absurd (show b∈([]:List Addr) from z) (by simp)) (by simp)
    | some u =>
     rcases hO b with z | ⟨ob,xs,z⟩
     ·rw[q] at z;cases z
     ·have z2:=un.frzs b ob _ z
      obtain⟨e1,_⟩:=hok b _ z
      obtain⟨e2,_⟩:=hok' b _ z2
      rw[e] at e1;cases e1
      exact e2
 cases hk:K.lookup a with
 | some o =>
  have e:=KX a o hk
  rw[ha] at e
  cases e
  refine core (λ_=>none) (λ_=>.inl rfl) (.inr ⟨_,vs.toArray,_,hk,rfl,rfl,rfl,by rw[List.size_toArray,lenV];exact hl,by simpa using rv⟩) (λb u z=>by have z':(none:Option HO)=some u:=z;cases z') (λb z=>absurd rfl z) λz=>absurd rfl z
 | none =>
  refine core (λb=>if b=a then some (.frz { cls:=.type "list", data:=.seq vs.toArray } (.lst (ns.map V.int))) else none) (λb=>?_) (.inl (.inr ⟨{ cls:=.type "list", data:=.seq vs.toArray },if_pos rfl⟩)) (λb u z=>?_) (λb z=>?_) λ_=>hk
  ·by_cases hb:b=a
   ·exact .inr ⟨_,_,if_pos hb⟩
   ·exact .inl (if_neg hb)
  ·by_cases hb:b=a
   ·have z':=(if_pos hb).symm.trans z
    cases z'
    subst hb
    exact⟨ha,by rw[List.length_map];exact hl,vs,_,rv,ha⟩
   ·have z':=(if_neg hb).symm.trans z
    cases z'
  ·by_cases hb:b=a
   ·exact hb
   ·exact absurd (if_neg hb) z
theorem walk_of {l:PySem.W.OpenLaw} {n k:Nat} {q:Program} {loose:List Str} {XP:(Str→Option Value)→Heap→Prop} {YP:World→Heap→Prop} {d:DefRec} {K:Params→PySem.W.Frag} {CX:World→CXT} {sp:World→Sp} {x:Str}
 (hn:l.most=some n) (hn2:n≤sizeLine) (hdf:d.params.defaults=[]) (hr:Room k callerA)
 (hY:∀(w:World) (h:Heap),YP w h→(K w.params).In h)
 (F:∀(w:World) (mg:Str→Option Value) (fa:Addr) (h:Heap),(K w.params).In h→h.Ns mainGlobals mg→mg d.name=some (.ref fa) →
  ∃fd:FuncData,(∀(s:Shared) (u:Value),BindsTo s fd ⟨[u],[]⟩ [(x,u)]) ∧
   ∀base:Heap,(K w.params).In base→base.Ns mainGlobals mg→FnOk l.prog w (K w.params) mg base (CX w) k fa fd [x] (sp w))
 (hsp:∀(w:World) (H:Hp) (a:Addr) (ns:List Int),ns.length≤n→Only H→SqL (K w.params) H a (ns.map V.int)→sp w [.ref a] H (λv _=>v=.bl true) λ_ _ _=>False)
 (hCX:∀(w:World) (H:Hp) (s:Shared) (e:Value) (s':Shared),CX w [] H s (λ_ _ _=>False) e s'→False) :
 PySem.W.WalkO q loose XP YP l.row.toRowW d [] (λf vs=>PySem.call f vs):=by
 refine Att.attach_call hn hdf λw s₀ s₁ mg mb fa o pm cd doc a vs ns G Y ho hd hcd hmg hobj hints hlen hg=>?_
 have KX:=hY w _ Y
 obtain⟨fd,hb,hF⟩:=F w mg fa _ KX G.T.g hmg
 exact law_call KX G.T.g G.T.b G.T.builtins G.T.nolimit hg hobj hints (Nat.le_trans hlen hn2) hr hF hb (λH hO hS=>hsp w H a ns hlen hO hS) λH e s'=>hCX w H s₁ e s'
noncomputable def defArgs (s:Stmt):Arguments:=match s with
 | .FunctionDef _ a _ _ _ _ _ _ _ _=>a
 | _=>{ posonlyargs:=[],args:=[],vararg:=none,kwonlyargs:=[],kw_defaults:=[],kwarg:=none,defaults:=[] }
noncomputable def defBody (s:Stmt):List Stmt:=match s with
 | .FunctionDef _ _ b _ _ _ _ _ _ _=>b
 | _=>[]
noncomputable def defScope (s:Stmt):Scope:=match s with
 | .FunctionDef _ _ _ _ _ _ sc _ _ _=>sc
 | _=>{ kind:=.function,names:=[],isGenerator:=false,isCoroutine:=false }
noncomputable abbrev E0:XK:=λ_ _ _=>False
set_option genInjectivity false in
structure Fun (K:PySem.W.Frag) (x qual:Str) (st:Stmt) (f:Addr) (fd:FuncData):Prop where
 ex:∃(oc:Value) (od:Option Addr) (kV doc pm:Value) (an:Option Addr) (cdv ct:Value) (osl:Array (Option Value)),
  fd=PySem.W.fnOf x qual (defArgs st) (defBody st) (defScope st) .none kV doc pm an cdv ct∧K.lookup f=some ⟨oc,od,.func fd,osl⟩∧PySem.W.codeIn K cdv qual=true
 kp:PySem.W.keepIn K (.ref f)=true
section
variable {P:Program} {w:World} {K:PySem.W.Frag} {mg:Str→Option Value} {base:Heap}
theorem Fun.binds {x qual:Str} {st:Stmt} {f:Addr} {fd:FuncData} {ps:List Str} (F:Fun K x qual st f fd)
 (h:∀(kV doc pm:Value) (an:Option Addr) (cdv ct:Value) (us:List Value),us.length=ps.length→bindArgs (PySem.W.fnOf x qual (defArgs st) (defBody st) (defScope st) .none kV doc pm an cdv ct) ⟨us,[]⟩=pure (ps.zip us)):Binds K fd ps []:=by
 obtain⟨oc,od,kV,doc,pm,an,cdv,ct,osl,rfl,lk,hcd⟩:=F.ex
 exact .all (h kV doc pm an cdv ct)
theorem fun_mk {x qual:Str} {st:Stmt} {f:Addr} {oc:Value} {od an:Option Addr} {osl:Array (Option Value)} {kV doc pm cdv ct:Value} (l:K.lookup f=some ⟨oc,od,.func (PySem.W.fnOf x qual (defArgs st) (defBody st) (defScope st) .none kV doc pm an cdv ct),osl⟩)
 (c:PySem.W.codeIn K cdv qual=true) (k:PySem.W.keepIn K (.ref f)=true):Fun K x qual st f (PySem.W.fnOf x qual (defArgs st) (defBody st) (defScope st) .none kV doc pm an cdv ct):=⟨⟨oc,od,kV,doc,pm,an,cdv,ct,osl,rfl,l,c⟩,k⟩
end
theorem small1000 {n:Nat} (h:n≤1000):n < sizeLine:=Nat.lt_of_le_of_lt h (by decide)
noncomputable def Same (H H':Hp):Prop:=∀b o,H b=some o→H' b=some o
theorem Same.refl (H:Hp):Same H H:=λ_ _ h=>h
theorem Same.trans {H H1 H2:Hp} (a:Same H H1) (b:Same H1 H2):Same H H2:=λc o h=>b c o (a c o h)
theorem Same.free {H H':Hp} (e:Same H H') {l:Addr} (h:H' l=Option.none):H l=Option.none:=by
 cases q:H l with
 | none=>rfl
 | some o =>
  rw[e l o q] at h
  cases h
end L2
set_option maxRecDepth 100000
namespace L2
open PySem PySem.Spec PyProof.Rows
section
variable {κ:Type} [DecidableEq κ]
noncomputable def valV (kvs:List (κ×V)) (k:κ):Option V:=(kvs.find? λkv=>decide (kv.1=k)).map (·.2)
noncomputable def putK (kvs:List (κ×V)) (k:κ) (v:V):List (κ×V) :=
 if (kvs.any λkv=>decide (kv.1=k))=true then kvs.map (λkv=>if kv.1=k then (kv.1,v) else kv) else kvs++[(k,v)]
theorem valV_pos {p:κ×V} {r:List (κ×V)} {k:κ} (e:p.1=k):valV (p::r) k=some p.2:=by simp[valV,List.find?_cons,e]
theorem valV_neg {p:κ×V} {r:List (κ×V)} {k:κ} (e:¬p.1=k):valV (p::r) k=valV r k:=by simp[valV,List.find?_cons,e]
theorem valV_any (k:κ):∀kvs:List (κ×V),(kvs.any λkv=>decide (kv.1=k))=(valV kvs k).isSome
 | []=>rfl
 | p::r=>by
  rw[List.any_cons]
  by_cases e:p.1=k
  ·simp only[valV_pos e,decide_eq_true e,Bool.true_or,Option.isSome_some]
  ·rw[valV_neg e,decide_eq_false e,Bool.false_or];exact valV_any k r
theorem length_putK (kvs:List (κ×V)) (k:κ) (v:V):(putK kvs k v).length≤kvs.length+1:=by
 unfold putK
 split
 ·rw[List.length_map];lia
 ·rw[List.length_append,List.length_cons,List.length_nil];lia
theorem RelO.isSome_eq {o:Option V} {u:Option Value} (r:RelO o u):o.isSome=u.isSome:=by
 cases o with
 | none=>cases u with
  | none=>rfl
  | some _=>exact (show False from r).elim
 | some _=>cases u with
  | none=>exact (show False from r).elim
  | some _=>rfl
theorem RelO.getD {o:Option V} {u:Option Value} {d:V} {d':Value} (r:RelO o u) (rd:RelV d d'):RelV (o.getD d) (u.getD d'):=by
 cases o with
 | none=>cases u with
  | none=>exact rd
  | some _=>exact (show False from r).elim
 | some _=>cases u with
  | none=>exact (show False from r).elim
  | some _=>exact r
theorem KV.val {kvs:List (κ×V)} {vs:List (κ×Value)} (r:KV kvs vs) (k:κ):RelO (valV kvs k) (valueAt vs k):=by
 unfold KV at r
 induction r with
 | nil=>exact True.intro
 | @cons p q ps qs h t ih =>
  obtain⟨h1,h2⟩:=h
  by_cases e:p.1=k
  ·have e':q.1=k:=h1.symm.trans e
   have b:valueAt (q::qs) k=some q.2:=by simp[valueAt,List.find?_cons,e']
   rw[valV_pos e,b];exact h2
  ·have e':¬q.1=k:=λz=>e (h1.trans z)
   have b:valueAt (q::qs) k=valueAt qs k:=by simp[valueAt,List.find?_cons,e']
   rw[valV_neg e,b];exact ih
theorem KV.any {kvs:List (κ×V)} {vs:List (κ×Value)} (r:KV kvs vs) (k:κ):(kvs.any λkv=>decide (kv.1=k))=vs.any λkv=>decide (kv.1=k):=by
 unfold KV at r
 induction r with
 | nil=>rfl
 | cons h t ih=>rw[List.any_cons,List.any_cons,ih,h.1]
theorem KV.repl {kvs:List (κ×V)} {vs:List (κ×Value)} (r:KV kvs vs) (k:κ) {y:V} {u:Value} (ry:RelV y u) :
 KV (kvs.map λkv=>if kv.1=k then (kv.1,y) else kv) (vs.map λkv=>if kv.1=k then (kv.1,u) else kv):=by
 unfold KV at r ⊢
 induction r with
 | nil=>exact .nil
 | @cons p q ps qs h t ih =>
  rw[List.map_cons,List.map_cons]
  refine .cons ?_ ih
  obtain⟨h1,h2⟩:=h
  by_cases e:p.1=k
  ·rw[if_pos e,if_pos (h1.symm.trans e)];exact⟨h1,ry⟩
  ·rw[if_neg e,if_neg (λz=>e (h1.trans z))];exact⟨h1,h2⟩
theorem KV.put {kvs:List (κ×V)} {vs:List (κ×Value)} (r:KV kvs vs) (k:κ) {y:V} {u:Value} (ry:RelV y u):KV (putK kvs k y) (stored vs k u):=by
 unfold putK stored
 rw[r.any k]
 by_cases e:(vs.any λkv=>decide (kv.1=k))=true
 ·rw[if_pos e,if_pos e];exact r.repl k ry
 ·rw[if_neg e,if_neg e];exact Paired.snoc r ⟨rfl,ry⟩
theorem KV.keys {kvs:List (κ×V)} {vs:List (κ×Value)} (r:KV kvs vs):kvs.map (·.1)=vs.map (·.1):=by
 unfold KV at r
 induction r with
 | nil=>rfl
 | cons h t ih=>rw[List.map_cons,List.map_cons,ih,h.1]
theorem KV.length {kvs:List (κ×V)} {vs:List (κ×Value)} (r:KV kvs vs):kvs.length=vs.length:=Paired.length r
end
theorem kV_is {P:Program} {w:World} {k:Key} {u:Value} (r:RelV (kV k) u):(mixKind P w).is k u=true:=by
 cases k with
 | inl i=>obtain⟨t,e⟩:=(show ∃t,u=Value.int i t from r);subst e;exact mixKind_int P w i t
 | inr x=>obtain⟨t,e⟩:=(show ∃t,u=Value.str x t from r);subst e;exact mixKind_str P w x t
theorem items_are {P:Program} {w:World}:∀ {ks:List Key} {us:List Value},Vals (ks.map kV) us→ItemsAre (mixKind P w) ks us
 | [],_,r=>by rw[List.map_nil] at r;cases r;exact .nil
 | k::ks,_,r=>by
  rw[List.map_cons] at r
  cases r with
  | cons h t=>exact .cons (kV_is h) (items_are t)
noncomputable abbrev KT (H:Hp):List (List Key×V)→List (List Key×Addr×Value)→Prop:=Paired λp q=>p.1=q.1∧H q.2.1=some (.tup (p.1.map kV))∧RelV p.2 q.2.2
theorem KT.val {H:Hp} {kvs:List (List Key×V)} {xs:List (List Key×Addr×Value)} (r:KT H kvs xs) (k:List Key):RelO (valV kvs k) ((atKey xs k).map (·.2)):=by
 induction r with
 | nil=>exact True.intro
 | @cons p q ps qs h t ih =>
  obtain⟨h1,_,h2⟩:=h
  by_cases e:p.1=k
  ·have e':q.1=k:=h1.symm.trans e
   have b:atKey (q::qs) k=some q.2:=by simp[atKey,List.find?_cons,e']
   rw[valV_pos e,b];exact h2
  ·have e':¬q.1=k:=λz=>e (h1.trans z)
   have b:atKey (q::qs) k=atKey qs k:=by simp[atKey,List.find?_cons,e']
   rw[valV_neg e,b];exact ih
theorem KT.repl {H:Hp} {kvs:List (List Key×V)} {xs:List (List Key×Addr×Value)} (r:KT H kvs xs) (k:List Key) {y:V} {u:Value} (ry:RelV y u) :
 KT H (kvs.map λkv=>if kv.1=k then (kv.1,y) else kv) (xs.map (putAt k u)):=by
 induction r with
 | nil=>exact .nil
 | @cons p q ps qs h t ih =>
  rw[List.map_cons,List.map_cons]
  refine .cons ?_ ih
  obtain⟨h1,h2,h3⟩:=h
  unfold putAt
  by_cases e:p.1=k
  ·rw[if_pos e,if_pos (h1.symm.trans e)];exact⟨h1,h2,ry⟩
  ·rw[if_neg e,if_neg (λz=>e (h1.trans z))];exact⟨h1,h2,h3⟩
theorem KT.put {H:Hp} {kvs:List (List Key×V)} {xs:List (List Key×Addr×Value)} (r:KT H kvs xs) (k:List Key) {b:Addr} {y:V} {u:Value} (hb:H b=some (.tup (k.map kV))) (ry:RelV y u) :
 KT H (putK kvs k y) (storedH xs k b u):=by
 have e:(kvs.any λkv=>decide (kv.1=k))=(atKey xs k).isSome:=by
  rw[valV_any,(r.val k).isSome_eq,Option.isSome_map]
 unfold putK storedH
 rw[e]
 by_cases q:(atKey xs k).isSome=true
 ·rw[if_pos q,if_pos q];exact r.repl k ry
 ·rw[if_neg q,if_neg q];exact Paired.snoc r ⟨rfl,hb,ry⟩
theorem KT.keeps {H H':Hp} {kvs:List (List Key×V)} {xs:List (List Key×Addr×Value)} (r:KT H kvs xs) (ht:∀b ys,H b=some (.tup ys)→H' b=some (.tup ys)):KT H' kvs xs :=
 Paired.mapP r λ_ _ z=>⟨z.1,ht _ _ z.2.1,z.2.2⟩
section
variable {P:Program} {w:World} {H:Hp} {h:Heap} {a:Addr}
theorem rd_of {u:HO} (ok:HOk P w H h) (e:Rd H a u):ObjOk P w H h a u:=e.ok ok
theorem dk_rd {kvs:List (Key×V)} (ok:HOk P w H h) (e:Rd H a (.dK kvs)):kvs.length≤sizeLine∧(a==sysModules)=false∧∃vs,KV kvs vs∧h.DictOf (mixKind P w) a vs :=
 show ObjOk P w H h a (.dK kvs) from rd_of ok e
theorem dk_of {kvs:List (Key×V)} (ok:HOk P w H h) (e:H a=some (.dK kvs)):kvs.length≤sizeLine∧(a==sysModules)=false∧∃vs,KV kvs vs∧h.DictOf (mixKind P w) a vs:=dk_rd ok (.inl e)
theorem key_of {ks:List Key} (ok:HOk P w H h) (e:H a=some (.tup (ks.map kV))):(tupleKind (mixKind P w)).is h ks a:=by
 obtain⟨_,its,r,o,h1,h2,n,h3⟩:=(show ObjOk P w H h a (.tup (ks.map kV)) from ok a _ e)
 exact⟨o,its.toArray,n,h1,h2,h3,by simpa using items_are r⟩
theorem dt_rd {kvs:List (List Key×V)} (ok:HOk P w H h) (e:Rd H a (.dT kvs)):kvs.length≤sizeLine∧(a==sysModules)=false ∧
 ∃xs,KT H kvs xs∧h.DictOfH (tupleKind (mixKind P w)) a xs:=by
 obtain⟨z,y,xs,r,o,es,ep,h1,h2,h3,h4,h5⟩:=(show ObjOk P w H h a (.dT kvs) from rd_of ok e)
 refine⟨z,y,xs,r,o,es,ep,h1,h2,h3,h4,λx hx=>?_,h5⟩
 have all:∀ {l:List (List Key×V)} {m:List (List Key×Addr×Value)},KT H l m→∀x∈m,(tupleKind (mixKind P w)).is h x.1 x.2.1:=by
  intro l m q
  induction q with
  | nil=>intro x hx;exact nomatch hx
  | @cons p q ps qs hq t ih =>
   intro x hx
   rcases List.mem_cons.mp hx with e | hx
   ·subst e
    exact key_of ok (by rw[←hq.1];exact hq.2.1)
   ·exact ih x hx
 exact all r x hx
theorem dt_of {kvs:List (List Key×V)} (ok:HOk P w H h) (e:H a=some (.dT kvs)):kvs.length≤sizeLine∧(a==sysModules)=false ∧
 ∃xs,KT H kvs xs∧h.DictOfH (tupleKind (mixKind P w)) a xs:=dt_rd ok (.inl e)
end
noncomputable def DGet (H:Hp) (a:Addr) (y:V) (r:Option V):Prop :=
 (∃kvs k,Rd H a (.dK kvs)∧y=kV k∧r=valV kvs k)∨∃kvs k b,Rd H a (.dT kvs)∧y=.ref b∧H b=some (.tup (k.map kV))∧r=valV kvs k
noncomputable def DPut (H:Hp) (a:Addr) (y v:V) (H':Hp):Prop :=
 (∃kvs k,H a=some (.dK kvs)∧y=kV k∧kvs.length < sizeLine∧H'=upd H a (.dK (putK kvs k v))) ∨
 ∃kvs k b,H a=some (.dT kvs)∧y=.ref b∧H b=some (.tup (k.map kV))∧kvs.length < sizeLine∧H'=upd H a (.dT (putK kvs k v))
theorem DPut.k {H:Hp} {a:Addr} {kvs:List (Key×V)} {k:Key} {v:V} (e:H a=some (.dK kvs)) (hl:kvs.length < sizeLine):DPut H a (kV k) v (upd H a (.dK (putK kvs k v))):=.inl ⟨kvs,k,e,rfl,hl,rfl⟩
theorem DPut.t {H:Hp} {a b:Addr} {kvs:List (List Key×V)} {k:List Key} {v:V} (e:H a=some (.dT kvs)) (eb:H b=some (.tup (k.map kV))) (hl:kvs.length < sizeLine) :
 DPut H a (.ref b) v (upd H a (.dT (putK kvs k v))):=.inr ⟨kvs,k,b,e,rfl,eb,hl,rfl⟩
section
variable {X:Cx} {pins:List (Addr×Obj)} {σ:St} {H:Hp} {s:Shared} {a:Addr} {y v:V} {u r:Value} {o:Option V} {A:Around} {E:Value→Shared→Prop}
theorem Inv.big (I:Inv X pins σ H s):sysModules < s.heap.objs.size:=by
 have h:mainGlobals < s.heap.objs.size:=(I.mod.glob.keeps I.bk).lt
 exact Nat.lt_trans (by decide) h
theorem d_getItem {Q:Value→Shared→Prop} (hu:A.units+1 < cLine) (I:Inv X pins σ H s) (g:DGet H a y (some v)) (ry:RelV y u) (h:∀w' s',Inv X pins σ H s'→RelV v w'→Q w' s') :
 wpAny (model X.prog X.w) A (getItem (.ref a) u) Q E s:=by
 rcases g with ⟨kvs,k,e,ey,l⟩ | ⟨kvs,k,b,e,ey,eb,l⟩
 ·subst ey
  obtain⟨z,hd,vs,rel,dd⟩:=dk_rd I.hok e
  obtain⟨w',hw,rw'⟩:=RelO.some_of (v:=v) (o:=valueAt vs k) (by rw[l];exact rel.val k)
  exact wpAny_getItem_of (kV_is ry) dd.mapOf hw (h w' _ (I.tok _) rw')
 ·subst ey
  cases (show u=Value.ref b from ry)
  obtain⟨z,hd,xs,rel,dd⟩:=dt_rd I.hok e
  obtain⟨w',hw,rw'⟩:=RelO.some_of (v:=v) (o:=(atKey xs k).map (·.2)) (by rw[l];exact rel.val k)
  obtain⟨p,hp,hp2⟩:=Option.map_eq_some_iff.mp hw
  refine wpAny_getItem_heap (tupleKind_room_in1 hu) (key_of I.hok eb) dd hp ?_
  rw[hp2]
  exact h w' _ (I.tok _) rw'
theorem d_in {Q:Value→Shared→Prop} (hu:A.units+1 < cLine) (I:Inv X pins σ H s) (g:DGet H a y o) (ry:RelV y u) (h:∀s',Inv X pins σ H s'→Q (.bool o.isSome) s') :
 wpAny (model X.prog X.w) A (compareOp .In u (.ref a)) Q E s:=by
 rcases g with ⟨kvs,k,e,ey,l⟩ | ⟨kvs,k,b,e,ey,eb,l⟩
 ·subst ey
  obtain⟨z,hd,vs,rel,dd⟩:=dk_rd I.hok e
  refine wpAny_in_of (kV_is ry) hd dd.mapOf ?_
  rw[←(rel.val k).isSome_eq,←l]
  exact h _ (I.tok _)
 ·subst ey
  cases (show u=Value.ref b from ry)
  obtain⟨z,hd,xs,rel,dd⟩:=dt_rd I.hok e
  refine wpAny_in_heap (tupleKind_room_in1 hu) (key_of I.hok eb) hd dd ?_
  have q:=(rel.val k).isSome_eq
  rw[Option.isSome_map] at q
  rw[←q,←l]
  exact h _ (I.tok _)
theorem d_notIn {Q:Value→Shared→Prop} (hu:A.units+1 < cLine) (I:Inv X pins σ H s) (g:DGet H a y o) (ry:RelV y u) (h:∀s',Inv X pins σ H s'→Q (.bool (!o.isSome)) s') :
 wpAny (model X.prog X.w) A (compareOp .NotIn u (.ref a)) Q E s:=by
 rcases g with ⟨kvs,k,e,ey,l⟩ | ⟨kvs,k,b,e,ey,eb,l⟩
 ·subst ey
  obtain⟨z,hd,vs,rel,dd⟩:=dk_rd I.hok e
  refine wpAny_notIn_of (kV_is ry) hd dd.mapOf ?_
  rw[←(rel.val k).isSome_eq,←l]
  exact h _ (I.tok _)
 ·subst ey
  cases (show u=Value.ref b from ry)
  obtain⟨z,hd,xs,rel,dd⟩:=dt_rd I.hok e
  refine wpAny_notIn_heap (tupleKind_room_in1 hu) (key_of I.hok eb) hd dd ?_
  have q:=(rel.val k).isSome_eq
  rw[Option.isSome_map] at q
  rw[←q,←l]
  exact h _ (I.tok _)
theorem d_write {h':Heap} {t':Nat} {ob:HO} (I:Inv X pins σ H s) (mu:Mut (H a)) (hs:Heap.SameBut a s.heap h') (he:∃q,h'.get? a=some q) (new:ObjOk X.prog X.w (upd H a ob) h' a ob) :
 Inv X pins σ (upd H a ob) { s with heap:=h',toks:=t' } :=
 I.write (x:=a) (e:=a) mu (.inl rfl) (λb q hb z=>(hs.2 b hb).trans z) he new
theorem dk_new {P:Program} {w:World} {H':Hp} {h':Heap} {kvs:List (Key×V)} {vs:List (Key×Value)} (z:kvs.length≤sizeLine) (hd:(a==sysModules)=false) (rel:KV kvs vs) (dd:h'.DictOf (mixKind P w) a vs) :
 ObjOk P w H' h' a (.dK kvs):=⟨z,hd,vs,rel,dd⟩
theorem d_setItem {H':Hp} {Q:Unit→Shared→Prop} (hu:A.units+1 < cLine) (I:Inv X pins σ H s) (g:DPut H a y v H') (ry:RelV y u) (rv:RelV v r) (h:∀s',Inv X pins σ H' s'→Q () s') :
 wpAny (model X.prog X.w) A (setItem (.ref a) u r) Q E s:=by
 rcases g with ⟨kvs,k,e,ey,l,eH⟩ | ⟨kvs,k,b,e,ey,eb,l,eH⟩
 ·subst ey eH
  obtain⟨z,hd,vs,rel,dd⟩:=dk_of I.hok e
  have hz:vs.length≤sizeLine:=by rw[←rel.length];exact z
  have hl:(putK kvs k v).length≤sizeLine:=by have:=length_putK kvs k v;lia
  refine wpAny_setItem_pairs (hsz:=hz) (kV_is ry) dd λh' dd' hs=>h _ ?_
  have he:∃q,h'.get? a=some q:=let ⟨q,_,_,hq,_⟩:=dd';⟨q,hq⟩
  exact d_write I (by rw[e];exact True.intro) hs he (dk_new hl hd (rel.put k rv) dd')
 ·subst ey eH
  cases (show u=Value.ref b from ry)
  obtain⟨z,hd,xs,rel,dd⟩:=dt_of I.hok e
  have hz:xs.length≤sizeLine:=by rw[←Paired.length rel];exact z
  have hl:(putK kvs k v).length≤sizeLine:=by have:=length_putK kvs k v;lia
  refine wpAny_setItem_heap (hsz:=hz) (tupleKind_room_in1 hu) (key_of I.hok eb) dd λh' dd' hs=>h _ ?_
  obtain⟨q,es,ep,hq,h2,h3,h4,_,h5⟩:=dd'
  refine d_write I (by rw[e];exact True.intro) hs ⟨q,hq⟩ ⟨hl,hd,_,(rel.put k eb rv).keeps λc ys ec=>?_,q,es,ep,hq,h2,h3,h4,h5⟩
  rw[upd_ne (ne_of ec e (λz=>nomatch z))]
  exact ec
end
section
variable {X:Cx} {pins:List (Addr×Obj)} {σ:St} {H:Hp} {s:Shared} {a:Addr} {kvs:List (Key×V)} {k:Key} {u:Value} {A:Around} {E:Value→Shared→Prop}
theorem d_len {Q:Value→Shared→Prop} (I:Inv X pins σ H s) (e:Rd H a (.dK kvs)) (h:∀t s',Inv X pins σ H s'→Q (.int kvs.length t) s'):wpAny (model X.prog X.w) A (call (.builtin "len") [.ref a]) Q E s:=by
 obtain⟨z,hd,vs,rel,dd⟩:=dk_rd I.hok e
 refine call_len_dict hd dd (by rw[←rel.length];rw[sizeLine_eq] at z;lia) ?_
 rw[←rel.length]
 exact h _ _ (I.tok _)
end
theorem dict_typeIs {X:Cx} {pins:List (Addr×Obj)} {σ:St} {H:Hp} {s:Shared} {a:Addr} {y:V} {o:Option V} (I:Inv X pins σ H s) (g:DGet H a y o):s.TypeIs (.ref a) "dict" := by
 rcases g with ⟨kvs,k,e,_,_⟩ | ⟨kvs,k,b,e,_,_,_⟩
 ·obtain⟨_,_,vs,_,dd⟩:=dk_rd I.hok e
  exact dd.typeIs
 ·obtain⟨_,_,xs,_,dd⟩:=dt_rd I.hok e
  exact dd.typeIs
noncomputable def sDPut (td ty tv:TE):TS:=λD σ H=>tv σ H λv H1=>td σ H1 λx H2=>ty σ H2 λy H3=>∃a H4,x=.ref a∧DPut H3 a y v H4∧D.nx σ H4
section
variable {X:Cx} {o i e value:Expr} {pos pos' tpos:Pos} {td ty tv:TE}
theorem ps_dput (hu:X.A.units+1 < cLine) (ho:PE X o td) (hi:PE X i ty) (hv:PE X value tv) (hs:swapsWith value (some (.Subscript o i pos')) pos.line X.env=pure false) :
 PS X (.Assign [.Subscript o i pos'] value pos) (sDPut td ty tv):=by
 intro pins s σ H D I h
 refine wpAny_Assign_Subscript (thn (hv pins s σ H _ I h) λr s1 ⟨v,H1,I1,rv,q1⟩=>thn (ho pins s1 σ H1 _ I1 q1) λu s2 ⟨x,H2,I2,rx,q2⟩=>thn (hi pins s2 σ H2 _ I2 q2) λiv s3 ⟨y,H3,I3,ry,a,H4,ex,g,q3⟩=>?_) hs
 subst ex
 obtain rfl:u=Value.ref a:=rx
 exact d_setItem hu I3 g ry rv λs4 I4=>⟨σ,H4,I4,q3⟩
end
theorem dk_empty {P:Program} {w:World} {H:Hp} (h:Heap) (hb:sysModules < h.objs.size):ObjOk P w H (h.push { cls:=.type "dict", data:=.dict #[] }) h.objs.size (.dK []) :=
 ⟨Nat.zero_le _,beq_eq_false_iff_ne.mpr (Ne.symm (Nat.ne_of_lt hb)),[],.nil,Heap.DictOf.new h⟩
theorem dt_empty {P:Program} {w:World} {H:Hp} (h:Heap) (hb:sysModules < h.objs.size):ObjOk P w H (h.push { cls:=.type "dict", data:=.dict #[] }) h.objs.size (.dT []) :=
 ⟨Nat.zero_le _,beq_eq_false_iff_ne.mpr (Ne.symm (Nat.ne_of_lt hb)),[],.nil,_,#[],0,Heap.get?_push_size _ rfl,⟨rfl,rfl,rfl⟩,rfl,rfl,List.nodup_nil⟩
noncomputable def tDNewK:TE:=λ_ H Q=>∀p,H p=none→Q (.ref p) (upd H p (.dK []))
noncomputable def tDNewT:TE:=λ_ H Q=>∀p,H p=none→Q (.ref p) (upd H p (.dT []))
section
variable {X:Cx} {pos:Pos}
theorem pe_dnewK:PE X (.Dict [] [] pos) tDNewK:=λpins s σ H Q I h =>
 wpAny_Dict_empty ⟨.ref s.heap.objs.size,_,I.laid (a:=s.heap.objs.size) (o:=.dK []) (t':=s.toks) (λ_ _ q=>Heap.get?_push_of_some _ q) (Nat.le_refl _) (dk_empty s.heap I.big),rfl,h _ (I.hok.fresh (Nat.le_refl _))⟩
theorem pe_dnewT:PE X (.Dict [] [] pos) tDNewT:=λpins s σ H Q I h =>
 wpAny_Dict_empty ⟨.ref s.heap.objs.size,_,I.laid (a:=s.heap.objs.size) (o:=.dT []) (t':=s.toks) (λ_ _ q=>Heap.get?_push_of_some _ q) (Nat.le_refl _) (dt_empty s.heap I.big),rfl,h _ (I.hok.fresh (Nat.le_refl _))⟩
end
noncomputable def tPairs:List (TE×TE)→St→Hp→(List (V×V)→Hp→Prop)→Prop
 | [],_,H,Q=>Q [] H
 | (tk,tv)::r,σ,H,Q=>tk σ H λx H1=>tv σ H1 λy H2=>tPairs r σ H2 λps H3=>Q ((x,y)::ps) H3
noncomputable abbrev VV:List (V×V)→List (Value×Value)→Prop:=Paired λp q=>RelV p.1 q.1∧RelV p.2 q.2
noncomputable def PPs (X:Cx) (pos:Pos) (keys:List (Option Expr)) (values:List Expr) (trs:List (TE×TE)):Prop :=
 ∀(pins:List (Addr×Obj)) (s:Shared) (σ:St) (H:Hp) (Q:List (V×V)→Hp→Prop),Inv X pins σ H s→tPairs trs σ H Q →
  wpAny (model X.prog X.w) X.A (evalPairs (pairTrees keys values X.env pos)) (λvs s'=>∃ps H',Inv X pins σ H' s'∧VV ps vs∧Q ps H') X.xe s
theorem pps_nil {X:Cx} {pos:Pos}:PPs X pos [] [] []:=λpins s σ H Q I h=>pairTrees_nil_walk ⟨[],H,I,.nil,h⟩
theorem pps_cons {X:Cx} {pos:Pos} {k v:Expr} {ks:List (Option Expr)} {vs:List Expr} {tk tv:TE} {trs:List (TE×TE)} (hk:PE X k tk) (hv:PE X v tv) (hr:PPs X pos ks vs trs) :
 PPs X pos (some k::ks) (v::vs) ((tk,tv)::trs):=λpins s σ H Q I h =>
 pairTrees_cons_walk (thn (hk pins s σ H _ I h) λu s1 ⟨x,H1,I1,rx,q1⟩=>thn (hv pins s1 σ H1 _ I1 q1) λw2 s2 ⟨y,H2,I2,ry,q2⟩ =>
  thn (hr pins s2 σ H2 _ I2 q2) λws s3 ⟨ps,H3,I3,rel,q3⟩=>⟨(x,y)::ps,H3,I3,.cons ⟨rx,ry⟩ rel,q3⟩)
structure M1 (X:Cx) (o:Expr) (m:Str) (apos:Pos) (e:Expr) (cpos:Pos):Prop where
 base:attributeBase o m X.env (eval o X.env)=eval o X.env
 few:((backTo cpos (starEach [e] X.env)).all (λx=>!x.1)&&(backToKw cpos (keywordEach [] X.env)).all (λx=>x.1.isSome)
  && decide (([e]:List Expr).length+([]:List Keyword).length+(if ([]:List Keyword).isEmpty then 0 else 1) < 30))=true
 line:(apos.endLine==cpos.line)=true
 trees:backTo cpos (starEach [e] X.env)=[(false,eval e X.env)]
noncomputable def IsD (H:Hp) (a:Addr):Prop:=(∃kvs,Rd H a (.dK kvs))∨∃kvs,Rd H a (.dT kvs)
theorem isD_at {X:Cx} {pins:List (Addr×Obj)} {σ:St} {H:Hp} {s:Shared} {a:Addr} (I:Inv X pins σ H s) (d:IsD H a) :
 s.TypeIs (.ref a) "dict" ∧ (∀b,Value.ref a=.ref b→∃ob,s.heap.get? b=some ob∧ob.dict=none)∧(a==sysModules)=false:=by
 rcases d with ⟨kvs,e⟩ | ⟨kvs,e⟩
 ·obtain⟨_,hd,vs,_,dd⟩:=dk_rd I.hok e
  refine⟨dd.typeIs,λb q=>?_,hd⟩
  cases q
  obtain⟨ob,_,_,h1,h2,_⟩:=dd
  exact⟨ob,h1,h2.2.1⟩
 ·obtain⟨_,hd,xs,_,dd⟩:=dt_rd I.hok e
  refine⟨dd.typeIs,λb q=>?_,hd⟩
  cases q
  obtain⟨ob,_,_,h1,h2,_⟩:=dd
  exact⟨ob,h1,h2.2.1⟩
section
variable {X:Cx} {pins:List (Addr×Obj)} {σ:St} {H:Hp} {s:Shared} {a:Addr} {y d:V} {u r:Value} {o:Option V} {A:Around} {E:Value→Shared→Prop}
theorem d_get1 {Q:Value→Shared→Prop} (hu:A.units+1 < cLine) (I:Inv X pins σ H s) (g:DGet H a y o) (ry:RelV y u) (h:∀w' s',Inv X pins σ H s'→RelV (o.getD .non) w'→Q w' s') :
 wpAny (model X.prog X.w) A (call (.builtin "dict.get") [.ref a,u]) Q E s:=by
 rcases g with ⟨kvs,k,e,ey,l⟩ | ⟨kvs,k,b,e,ey,eb,l⟩
 ·subst ey
  obtain⟨z,hd,vs,rel,dd⟩:=dk_rd I.hok e
  refine call_meetsIn PySem.F.slot_dict_get dd.typeIs PySem.F.entry_dict_get (PySem.F.args_dict_get_2 _ _) (meets_dict_get (mixKind X.prog X.w) a (kV_is ry) hd) ⟨_,dd.mapOf,h _ _ (I.tok _) ?_⟩
  rw[l]
  exact (rel.val k).getD rfl
 ·subst ey
  cases (show u=Value.ref b from ry)
  obtain⟨z,hd,xs,rel,dd⟩:=dt_rd I.hok e
  refine call_meetsIn PySem.F.slot_dict_get dd.typeIs PySem.F.entry_dict_get (PySem.F.args_dict_get_2 _ _) (meetsH_dict_get (tupleKind (mixKind X.prog X.w)) a b hd) ⟨tupleKind_room_in1 hu,k,xs,key_of I.hok eb,dd,h _ _ (I.tok _) ?_⟩
  rw[l]
  exact (rel.val k).getD rfl
end
noncomputable def tDGet1 (td ty:TE):TE:=λσ H Q=>td σ H λx H1=>∃a,x=.ref a∧IsD H1 a∧ty σ H1 λy H2=>∃o,DGet H2 a y o∧Q (o.getD .non) H2
section
variable {X:Cx} {o e f:Expr} {apos cpos:Pos} {td ty tx:TE}
theorem pe_dget1 (hu:X.A.units+1 < cLine) (ho:PE X o td) (he:PE X e ty) (m:M1 X o "get" apos e cpos):PE X (.Call (.Attribute o "get" apos) [e] [] cpos) (tDGet1 td ty):=by
 intro pins s σ H Q I h
 refine wpAny_Call_method m.base m.few m.line PySem.F.plainAttrs_dict PySem.F.slot_dict_get PySem.F.type_dict_get (thn (ho pins s σ H _ I h) λu s1 ⟨x,H1,I1,rx,a,ex,d,q1⟩=>?_)
 subst ex
 obtain rfl:u=Value.ref a:=rx
 obtain⟨t1,t2,_⟩:=isD_at I1 d
 refine⟨t1,t2,?_⟩
 rw[m.trees]
 refine Calls.callWith_builtin rfl (Calls.evalArgs_plain (Calls.spliced_cons (thn (he pins s1 σ H1 _ I1 q1) λiv s2 ⟨y,H2,I2,ry,ov,g,q2⟩=>Calls.spliced_nil ?_)))
 exact d_get1 hu I2 g ry λw' s3 I3 rw'=>⟨_,H2,I3,rw',q2⟩
end
end L2
namespace Tr
open PySem
set_option genSizeOf true in
set_option genSizeOfSpec true in
inductive D where
 | non | bl (b:Bool) | int (i:Int) | str (x:Str) | tup (ds:List D) | lst (ds:List D) | dct (kvs:List (Sum Int Str×D)) | tdc (kvs:List (List (Sum Int Str)×D))
 deriving Inhabited
inductive Res (α:Type) where
 | ok (a:α) | err (c:Str) (d:D) | no
 deriving Inhabited
namespace Res
@[reducible] noncomputable def bind {α β:Type} (x:Res α) (f:α→Res β):Res β:=match x with | .ok a=>f a | .err c d=>.err c d | .no=>.no
noncomputable instance:Monad Res where
 pure:=.ok
 bind:=bind
@[simp] theorem ok_bind {α β:Type} (a:α) (f:α→Res β):(Res.ok a>>=f)=f a:=id rfl
theorem bind_ok {α β:Type} {x:Res α} {f:α→Res β} {b:β} (h:(x>>=f)=.ok b):∃a,x=.ok a∧f a=.ok b:=by
 cases x with
 | ok a=>exact⟨a,rfl,h⟩
 | err c d=>cases h
 | no=>cases h
end Res
noncomputable def when {α:Type} (c:Bool) (r:Res α):Res α:=if c then r else .no
theorem when_ok {α:Type} {c:Bool} {r:Res α} {a:α} (h:when c r=.ok a):c=true∧r=.ok a:=by
 unfold when at h
 split at h
 ·exact⟨by assumption,h⟩
 ·cases h
@[simp] theorem when_true {α:Type} (r:Res α):when true r=r:=id rfl
theorem when_of {α:Type} {c:Bool} (h:c=true) (r:Res α):when c r=r:=by subst h;rfl
noncomputable def b2z (b:Bool):Int:=if b then 1 else 0
mutual
noncomputable def D.eqb:D→D→Bool
 | .non,.non=>true
 | .bl a,.bl b=>a==b
 | .bl a,.int j=>b2z a==j
 | .int i,.bl b=>i==b2z b
 | .int i,.int j=>i==j
 | .str x,.str y=>x==y
 | .tup a,.tup b=>D.eqs a b
 | .lst a,.lst b=>D.eqs a b
 | _,_=>false
noncomputable def D.eqs:List D→List D→Bool
 | [],[]=>true
 | a::r,b::q=>D.eqb a b&&D.eqs r q
 | _,_=>false
end
mutual
noncomputable def D.pl:Nat→D→Bool
 | _,.dct _=>false
 | _,.tdc _=>false
 | n,.tup a=>D.pls n a
 | n,.lst a=>D.pls n a
 | _,_=>true
noncomputable def D.pls:Nat→List D→Bool
 | _,[]=>true
 | 0,_::_=>false
 | n+1,a::r=>D.pl n a&&D.pls (n+1) r
end
mutual
noncomputable def D.flat:D→Bool
 | .dct _=>false
 | .tdc _=>false
 | .lst _=>false
 | .tup a=>D.flats a
 | _=>true
noncomputable def D.flats:List D→Bool
 | []=>true
 | a::r=>D.flat a&&D.flats r
end
mutual
theorem D.eqb_refl:∀(n:Nat) (d:D),D.pl n d=true→D.eqb d d=true
 | _,.non,_=>rfl
 | _,.bl a,_=>by simp[D.eqb]
 | _,.int i,_=>by simp[D.eqb]
 | _,.str x,_=>by simp[D.eqb]
 | n,.tup a,h=>by rw[D.eqb];exact D.eqs_refl n a (by rw[D.pl] at h;exact h)
 | n,.lst a,h=>by rw[D.eqb];exact D.eqs_refl n a (by rw[D.pl] at h;exact h)
 | _,.dct a,h=>by rw[D.pl] at h;cases h
 | _,.tdc a,h=>by rw[D.pl] at h;cases h
theorem D.eqs_refl:∀(n:Nat) (a:List D),D.pls n a=true→D.eqs a a=true
 | _,[],_=>by rw[D.eqs]
 | 0,a::r,h=>by rw[D.pls] at h;cases h
 | n+1,a::r,h=>by
  rw[D.pls,Bool.and_eq_true] at h
  rw[D.eqs,D.eqb_refl n a h.1,D.eqs_refl (n+1) r h.2];rfl
end
noncomputable def big:Nat:=16777216
noncomputable def sIx (n d:Nat):Option Int→Nat
 | none=>d
 | some v=>if v < 0 then (v+(n:Int)).toNat else min v.toNat n
noncomputable def cut {α:Type} (xs:List α) (lo hi:Option Int):List α:=(xs.drop (sIx xs.length 0 lo)).take (sIx xs.length xs.length hi - sIx xs.length 0 lo)
noncomputable def ixN (n:Nat) (i:Int):Option Nat:=if 0≤i then (if i < n then some i.toNat else none) else if -(n:Int)≤i then some (i+n).toNat else none
noncomputable def atI {α:Type} (xs:List α) (i:Int):Option α:=(ixN xs.length i).bind λj=>xs[j]?
noncomputable def small64 (i:Int):Bool:=decide (-(2^64) < i)&&decide (i < 2^64)
noncomputable def D.bin:Operator→D→D→Res D
 | .Add,.int i,.int j=>.ok (.int (i+j))
 | .Add,.str x,.str y=>when (decide (x.length+y.length≤big)) (.ok (.str (x++y)))
 | .Add,.lst a,.lst b=>when (decide (a.length+b.length≤big)) (.ok (.lst (a++b)))
 | .Add,.tup a,.tup b=>when (decide (a.length+b.length≤big)) (.ok (.tup (a++b)))
 | .Sub,.int i,.int j=>.ok (.int (i - j))
 | .Mult,.int i,.int j=>when (small64 i||small64 j) (.ok (.int (i*j)))
 | .Mult,.lst a,.int j=>when (decide (a.length=1)&&decide (0≤j)&&decide (j≤1000)) (.ok (.lst (List.replicate j.toNat a).flatten))
 | .Mult,.tup a,.int j=>when (decide (a.length=1)&&decide (0≤j)&&decide (j≤1000)) (.ok (.tup (List.replicate j.toNat a).flatten))
 | .FloorDiv,.int i,.int j=>when (decide (0 < j)&&decide (j < 1073741824)) (.ok (.int (i / j)))
 | .Mod,.int i,.int j=>when (decide (0 < j)) (.ok (.int (i % j)))
 | .Pow,.int i,.int j=>when (decide (0≤j)&&decide (j≤1000000)&&decide (i.natAbs < 2^64)) (.ok (.int (i^j.toNat)))
 | _,_,_=>.no
noncomputable def chr1 (c:Nat):Str:=⟨#[c]⟩
noncomputable def strCut (x:Str) (lo hi:Option Int):Str:=⟨(cut x.cps.toList lo hi).toArray⟩
noncomputable def splitC (c:Nat):List Nat→List (List Nat)
 | []=>[[]]
 | x::r=>if x=c then []::splitC c r else match splitC c r with
  | h::t=>(x::h)::t
  | []=>[[x]]
noncomputable def splitS (x:Str) (c:Nat):List Str:=(splitC c x.cps.toList).map λl=>⟨l.toArray⟩
noncomputable def joinC (g:List Nat):List (List Nat)→List Nat
 | []=>[]
 | [a]=>a
 | a::b::r=>a++g++joinC g (b::r)
noncomputable def joinS (g:Str) (xs:List Str):Str:=⟨(joinC g.cps.toList (xs.map λx=>x.cps.toList)).toArray⟩
noncomputable def digitsN (cs:List Nat):Nat:=cs.foldl (λacc c=>acc*10+(c - 48)) 0
noncomputable def isDigits (cs:List Nat):Bool:=!cs.isEmpty&&cs.all λc=>decide (48≤c)&&decide (c≤57)
noncomputable def strsOf:List D→Res (List Str)
 | []=>.ok []
 | .str x::r=>do let q ←strsOf r;.ok (x::q)
 | _::_=>.no
noncomputable def blsOf:List D→Res (List Bool)
 | []=>.ok []
 | .bl x::r=>do let q ←blsOf r;.ok (x::q)
 | _::_=>.no
noncomputable def oneIn (x y:Str):Res Bool:=match x.cps.toList with
 | [c]=>.ok (decide (c∈y.cps.toList))
 | _=>.no
noncomputable def keyOf:D→Option (Sum Int Str)
 | .int i=>some (.inl i)
 | .str x=>some (.inr x)
 | _=>none
noncomputable def valK (kvs:List (Sum Int Str×D)) (k:Sum Int Str):Option D:=(kvs.find? λkv=>decide (kv.1=k)).map (·.2)
noncomputable def putKD (kvs:List (Sum Int Str×D)) (k:Sum Int Str) (v:D):List (Sum Int Str×D) :=
 if (kvs.any λkv=>decide (kv.1=k))=true then kvs.map (λkv=>if kv.1=k then (kv.1,v) else kv) else kvs++[(k,v)]
noncomputable def keysT:List D→Option (List (Sum Int Str))
 | []=>some []
 | d::r=>(keyOf d).bind λk=>(keysT r).map λq=>k::q
noncomputable def keysI:List D→Option (List (Sum Int Str))
 | []=>some []
 | .int i::r=>(keysI r).map λq=>.inl i::q
 | _::_=>none
noncomputable def keyD:Sum Int Str→D
 | .inl i=>.int i
 | .inr x=>.str x
noncomputable def valT (kvs:List (List (Sum Int Str)×D)) (k:List (Sum Int Str)):Option D:=(kvs.find? λkv=>decide (kv.1=k)).map (·.2)
noncomputable def putTD (kvs:List (List (Sum Int Str)×D)) (k:List (Sum Int Str)) (v:D):List (List (Sum Int Str)×D) :=
 if (kvs.any λkv=>decide (kv.1=k))=true then kvs.map (λkv=>if kv.1=k then (kv.1,v) else kv) else kvs++[(k,v)]
noncomputable def Res.of {α:Type}:Option α→Res α
 | some a=>.ok a
 | none=>.no
noncomputable def D.isNon:D→Bool
 | .non=>true
 | _=>false
noncomputable def D.eqOk (a b:D):Bool:=D.pl 30 a&&D.pl 30 b
noncomputable def D.mem (x:D):List D→Bool
 | []=>false
 | y::r=>D.eqb y x||D.mem x r
noncomputable def D.inn (x:D):D→Res Bool
 | .lst ds=>when (D.pls 30 ds&&D.pl 29 x) (.ok (D.mem x ds))
 | .tup ds=>when (D.pls 30 ds&&D.pl 29 x) (.ok (D.mem x ds))
 | .dct kvs=>do let k ←Res.of (keyOf x);.ok (valK kvs k).isSome
 | .tdc kvs=>match x with
  | .tup ks=>do let k ←Res.of (keysI ks);.ok (valT kvs k).isSome
  | _=>.no
 | .str y=>match x with
  | .str z=>oneIn z y
  | _=>.no
 | _=>.no
noncomputable def D.cmp:CmpOp→D→D→Res D
 | .Eq,a,b=>when (D.eqOk a b) (.ok (.bl (D.eqb a b)))
 | .NotEq,a,b=>when (D.eqOk a b) (.ok (.bl (!D.eqb a b)))
 | .Lt,.int i,.int j=>.ok (.bl (decide (i < j)))
 | .LtE,.int i,.int j=>.ok (.bl (decide (i≤j)))
 | .Gt,.int i,.int j=>.ok (.bl (decide (j < i)))
 | .GtE,.int i,.int j=>.ok (.bl (decide (j≤i)))
 | .Is,a,.non=>.ok (.bl a.isNon)
 | .IsNot,a,.non=>.ok (.bl (!a.isNon))
 | .Is,.bl a,.bl b=>.ok (.bl (a==b))
 | .IsNot,.bl a,.bl b=>.ok (.bl (a != b))
 | .In,a,b=>do let k ←D.inn a b;.ok (.bl k)
 | .NotIn,a,b=>do let k ←D.inn a b;.ok (.bl (!k))
 | _,_,_=>.no
noncomputable def D.truth:D→Res Bool
 | .non=>.ok false
 | .bl b=>.ok b
 | .int i=>.ok (i != 0)
 | .str x=>when (decide (x.length≤big)) (.ok ((x.length:Int) != 0))
 | .tup a=>.ok (!a.isEmpty)
 | .lst a=>.ok (!a.isEmpty)
 | .dct _=>.no
 | .tdc _=>.no
noncomputable def D.ix:D→D→Res D
 | .lst a,.int i=>Res.of (atI a i)
 | .tup a,.int i=>Res.of (atI a i)
 | .str x,.int i=>when (decide (x.length≤big)) (Res.of ((atI x.cps.toList i).map λc=>.str ⟨#[c]⟩))
 | .dct kvs,y=>do let k ←Res.of (keyOf y);Res.of (valK kvs k)
 | .tdc kvs,.tup ks=>do let k ←Res.of (keysI ks);Res.of (valT kvs k)
 | _,_=>.no
noncomputable def D.part:D→Res (Option Int)
 | .non=>.ok none
 | .int i=>.ok (some i)
 | _=>.no
noncomputable def D.sl:D→Option Int→Option Int→Res D
 | .lst a,lo,hi=>.ok (.lst (cut a lo hi))
 | .tup a,lo,hi=>.ok (.tup (cut a lo hi))
 | .str x,lo,hi=>when (decide (x.length≤big)) (.ok (.str (strCut x lo hi)))
 | _,_,_=>.no
noncomputable def D.items:D→Res (List D)
 | .lst a=>.ok a
 | .tup a=>.ok a
 | .str x=>.ok (x.cps.toList.map λc=>.str (chr1 c))
 | _=>.no
noncomputable def intsOf:List D→Res (List Int)
 | []=>.ok []
 | .int i::r=>do let q ←intsOf r;.ok (i::q)
 | _::_=>.no
noncomputable def rangeD (lo:Int):Nat→List D
 | 0=>[]
 | n+1=>.int lo::rangeD (lo+1) n
noncomputable def enumD (k:Int):List D→List D
 | []=>[]
 | d::r=>.tup [.int k,d]::enumD (k+1) r
noncomputable def small62 (i:Int):Bool:=decide (-(2^62)≤i)&&decide (i < 2^62)
inductive Ty where
 | int | bool | str | tuple | list
 deriving DecidableEq,Inhabited
noncomputable def D.isDct:D→Bool
 | .dct _=>true
 | .tdc _=>true
 | _=>false
noncomputable def D.isTy:D→Ty→Bool
 | .int _,.int=>true
 | .bl _,.int=>true
 | .bl _,.bool=>true
 | .str _,.str=>true
 | .tup _,.tuple=>true
 | .lst _,.list=>true
 | _,_=>false
inductive Bt where
 | len | sum | tuple | list | int | str | bool | abs | min | max | all | any
 deriving DecidableEq,Inhabited
noncomputable def D.len:D→Res D
 | .lst a=>.ok (.int a.length)
 | .tup a=>.ok (.int a.length)
 | .str x=>when (decide (x.length≤big)) (.ok (.int x.length))
 | .dct a=>.ok (.int a.length)
 | _=>.no
noncomputable def D.sum:D→Res D
 | .lst a=>do let ns ←intsOf a;.ok (.int ns.sum)
 | _=>.no
noncomputable def D.tuple:D→Res D
 | .lst a=>.ok (.tup a)
 | .tup a=>.ok (.tup a)
 | _=>.no
noncomputable def D.list:D→Res D
 | .lst a=>.ok (.lst a)
 | .tup a=>.ok (.lst a)
 | _=>.no
noncomputable def D.toInt:D→Res D
 | .int i=>.ok (.int i)
 | .bl b=>.ok (.int (b2z b))
 | .str x=>when (isDigits x.cps.toList&&decide (x.length≤640)) (.ok (.int (digitsN x.cps.toList)))
 | _=>.no
noncomputable def D.toStr:D→Res D
 | .int i=>when (decide (i.natAbs.log2 < 1920)) (.ok (.str (Str.ofString (toString i))))
 | _=>.no
noncomputable def D.toBool:D→Res D
 | .int i=>.ok (.bl (i != 0))
 | .bl b=>.ok (.bl b)
 | _=>.no
noncomputable def D.abs:D→Res D
 | .int i=>.ok (.int (if i < 0 then -i else i))
 | _=>.no
noncomputable def D.all:D→Res D
 | .lst a=>do let q ←blsOf a;.ok (.bl (q.all id))
 | _=>.no
noncomputable def D.any:D→Res D
 | .lst a=>do let q ←blsOf a;.ok (.bl (q.any id))
 | _=>.no
noncomputable def maxI:Int→List Int→Int
 | m,[]=>m
 | m,n::r=>maxI (if n > m then n else m) r
noncomputable def minI:Int→List Int→Int
 | m,[]=>m
 | m,n::r=>minI (if n < m then n else m) r
noncomputable def D.maxL:D→Res D
 | .lst a=>do
  match ←intsOf a with
  | n::ns=>.ok (.int (maxI n ns))
  | []=>.no
 | .tup a=>do
  match ←intsOf a with
  | n::ns=>.ok (.int (maxI n ns))
  | []=>.no
 | _=>.no
noncomputable def D.minL:D→Res D
 | .lst a=>do
  match ←intsOf a with
  | n::ns=>.ok (.int (minI n ns))
  | []=>.no
 | .tup a=>do
  match ←intsOf a with
  | n::ns=>.ok (.int (minI n ns))
  | []=>.no
 | _=>.no
noncomputable def D.min2:D→D→Res D
 | .int i,.int j=>.ok (.int (if j < i then j else i))
 | _,_=>.no
noncomputable def D.max2:D→D→Res D
 | .int i,.int j=>.ok (.int (if j > i then j else i))
 | _,_=>.no
noncomputable def Bt.one:Bt→D→Res D
 | .len=>D.len
 | .sum=>D.sum
 | .tuple=>D.tuple
 | .list=>D.list
 | .int=>D.toInt
 | .str=>D.toStr
 | .bool=>D.toBool
 | .abs=>D.abs
 | .all=>D.all
 | .any=>D.any
 | .min=>D.minL
 | .max=>D.maxL
noncomputable def Bt.two:Bt→D→D→Res D
 | .min=>D.min2
 | .max=>D.max2
 | _=>λ_ _=>.no
noncomputable def Bt.run (b:Bt):List D→Res D
 | [d]=>b.one d
 | [d,d']=>b.two d d'
 | _=>.no
noncomputable def lrngR:D→Res D
 | .int n=>when (small62 n&&decide (n≤(big:Nat))) (.ok (.lst (rangeD 0 n.toNat)))
 | _=>.no
noncomputable def trngR:D→Res D
 | .int n=>when (small62 n&&decide (n≤1000)) (.ok (.tup (rangeD 0 n.toNat)))
 | _=>.no
noncomputable def getR:D→D→Res D
 | .tdc kvs,.tup ks=>do let k ←Res.of (keysI ks);.ok ((valT kvs k).getD .non)
 | _,_=>.no
noncomputable def keyV:D→Res (List (Sum Int Str))
 | .tup ks=>Res.of (keysI ks)
 | _=>.no
noncomputable def dlitR:D→D→Res D
 | .tup ks,v=>do let k ←Res.of (keysI ks);.ok (.tdc [(k,v)])
 | _,_=>.no
noncomputable def dkeysR:D→Res (List D)
 | .tdc kvs=>.ok (kvs.map λkv=>.tup (kv.1.map keyD))
 | .dct kvs=>.ok (kvs.map λkv=>keyD kv.1)
 | _=>.no
inductive Mt where
 | split | join | index
 deriving DecidableEq,Inhabited
noncomputable def Mt.run:Mt→D→D→Res D
 | .split,.str x,.str y=>match y.cps.toList with
  | [c]=>when (decide (x.length < big)&&decide (c < 256)) (.ok (.lst ((splitS x c).map D.str)))
  | _=>.no
 | .join,.str g,.lst ds=>do
  let xs ←strsOf ds
  when (decide (g.length≤64)&&decide ((xs.map (·.length)).sum+xs.length*64≤big)) (.ok (.str (joinS g xs)))
 | .index,.lst ds,.int i=>do let ns ←intsOf ds;when (ns.contains i) (.ok (.int (ns.idxOf i:Nat)))
 | _,_,_=>.no
noncomputable def keysD:List D→Res (List (Sum Int Str))
 | []=>.ok []
 | d::r=>do let k ←Res.of (keyOf d);let q ←keysD r;.ok (k::q)
noncomputable def D.keys:D→Res (List (Sum Int Str))
 | .lst ds=>keysD ds
 | .tup ds=>keysD ds
 | .str x=>.ok (x.cps.toList.map λc=>.inr ⟨#[c]⟩)
 | _=>.no
noncomputable def pairs72:List (Nat×Nat):=(List.range 9).flatMap λa=>(List.range 8).map λb=>(a,b)
noncomputable def subsN:List Nat→List (List Nat)
 | []=>[[]]
 | a::r=>subsN r++(subsN r).map (a::·)
noncomputable def keyTab:List (List Nat):=(pairs72.map λp=>[p.1,p.2])++(subsN (List.range 6)).filter λk=>k.length != 2
noncomputable def natsOf:List D→Option (List Nat)
 | []=>some []
 | .int a::r=>if decide (0≤a) then (natsOf r).bind λq=>some (a.toNat::q) else none
 | _=>none
noncomputable def pairOf:D→Option (List Nat)
 | .tup ks=>(natsOf ks).bind λk=>if keyTab.contains k then some k else none
 | _=>none
noncomputable def prsOf:List D→Option (List (List Nat))
 | []=>some []
 | d::r=>(pairOf d).bind λp=>(prsOf r).bind λq=>some (p::q)
noncomputable def nodupP:List (List Nat)→Bool
 | []=>true
 | p::r=>(!r.contains p)&&nodupP r
noncomputable def pairsR:List D→Res (List (List (Sum Int Str)×D))
 | []=>.ok []
 | .tup [.tup ks,v]::r=>do let k ←Res.of (keysI ks);let q ←pairsR r;.ok ((k,v)::q)
 | _=>.no
noncomputable def putAllD (qs:List (List (Sum Int Str)×D)) (kvs:List (List (Sum Int Str)×D)):List (List (Sum Int Str)×D):=qs.foldl (λm q=>putTD m q.1 q.2) kvs
noncomputable def dclR:D→Res D
 | .lst ds=>do let qs ←pairsR ds;.ok (.tdc (putAllD qs []))
 | _=>.no
noncomputable def D.setN (x:D):Res D:=match x with
 | .lst ds=>match prsOf ds with
  | some ps=>when (nodupP ps&&decide (ps.length≤72)) (.ok (.int ps.length))
  | none=>.no
 | _=>.no
set_option genInjectivity false in
inductive G where
 | one (i:Nat) | many (is:List Nat)
 deriving Inhabited
set_option genInjectivity false in
inductive E where
 | var (i:Nat) | rd (i:Nat) | con (d:D) | glob (g:Nat)
 | bin (o:Operator) (a b:E) | cmp (o:CmpOp) (a b:E)
 | and (a b:E) | or (a b:E) | not (a:E) | neg (a:E) | ife (c a b:E)
 | ix (a b:E) | sl (a lo hi:E) | omit
 | tup (a:E) | lst (a:E) | anil | acons (a r:E)
 | call (f:Nat) (a:E) | bt (b:Bt) (a:E) | isi (a:E) (t:Ty)
 | comp (own:Nat) (caps:List Nat) (g:G) (elt src cond:E)
 | seq (a:E) | rng (a:E) | rng2 (a b:E) | enum (a:E)
 | lset (a:E)
 | dcl (a:E) | dlit (a b:E) | trng (a:E) | getV (a b:E) | seqD (a:E) | lrng (a:E)
 deriving Inhabited
set_option genInjectivity false in
inductive S where
 | nil | cons (a r:S)
 | ret (e:E) | retO (i:Nat)
 | asg (g:G) (e:E) | asgO (i:Nat) (e:E) | sealed (i:Nat)
 | ite (c:E) (a b:S) | forS (g:G) (src:E) (b:S)
 | app (i:Nat) (e:E) | rev (i:Nat)
 | dput (i:Nat) (k v:E) | ext (i:Nat) (e:E)
 | exp (e:E)
 | newD (i:Nat) | newT (i:Nat) | dputV (i:Nat) (k v:E)
 deriving Inhabited
inductive Sl where
 | no | v (d:D) | o (d:D) | t (ds:List D) | n (d:D)
 deriving Inhabited
noncomputable abbrev Nv:=List Sl
noncomputable def Nv.at (e:Nv) (i:Nat):Sl:=(e[i]?).getD .no
noncomputable def Sl.val:Sl→Res D
 | .v d=>.ok d
 | .n d=>.ok d
 | _=>.no
noncomputable def Sl.any:Sl→Res D
 | .v d=>.ok d
 | .n d=>.ok d
 | .o d=>.ok d
 | _=>.no
noncomputable def Sl.own:Sl→Res (List D)
 | .o (.lst a)=>.ok a
 | _=>.no
noncomputable def Sl.ownD:Sl→Res (List (Sum Int Str×D))
 | .o (.dct a)=>.ok a
 | _=>.no
noncomputable def Sl.ownT:Sl→Res (List (List (Sum Int Str)×D))
 | .o (.tdc a)=>.ok a
 | _=>.no
noncomputable def Sl.ownA:Sl→Res D
 | .o d=>.ok d
 | _=>.no
noncomputable def puts:List Nat→List D→Nv→Res Nv
 | [],[],e=>.ok e
 | i::r,d::q,e=>puts r q (e.set i (.v d))
 | _,_,_=>.no
noncomputable def G.put:G→D→Nv→Res Nv
 | .one i,d,e=>.ok (e.set i (.v d))
 | .many is,.tup ds,e=>puts is ds e
 | _,_,_=>.no
noncomputable def compEnv (own:Nat) (caps:List Nat) (e:Nv):Nv:=List.replicate own Sl.no++caps.map λi=>e.at i
set_option genInjectivity false in
structure Tab where
 glob:Nat→D
 fresh:Nat→Bool
 mv:Nat→Option Nat:=λ_=>none
section
variable (T:Tab) (cf:Nat→List D→Res D)
noncomputable def hasL:List D→Bool
 | .lst _::_=>true
 | .int _::r=>hasL r
 | _=>false
noncomputable def tupL:D→Bool
 | .tup ds=>hasL ds
 | _=>false
noncomputable def D.flatL:D→Bool
 | .lst ds=>D.flats ds
 | _=>false
noncomputable def freshE:E→Bool
 | .lst _=>true
 | .sl _ _ _=>true
 | .bin .Add _ _=>true
 | .comp _ _ _ _ _ _=>true
 | .bt .list _=>true
 | .lrng _=>true
 | .call f _=>T.fresh f
 | _=>false
noncomputable def argAt:E→Nat→E
 | .acons a _,0=>a
 | .acons _ r,n+1=>argAt r n
 | _,_=>.omit
noncomputable def compL (f:D→Res (Option D)):List D→Res (List D)
 | []=>.ok []
 | d::r=>do
  let x ←f d
  let q ←compL f r
  match x with
  | some y=>.ok (y::q)
  | none=>.ok q
mutual
noncomputable def evE:E→Nv→Res D
 | .var i,e=>(e.at i).val
 | .rd i,e=>(e.at i).any
 | .con d,_=>.ok d
 | .glob g,_=>.ok (T.glob g)
 | .bin o a b,e=>do let x ←evE a e;let y ←evE b e;D.bin o x y
 | .cmp o a b,e=>do let x ←evE a e;let y ←evE b e;D.cmp o x y
 | .and a b,e=>do let x ←evE a e;let k ←x.truth;if k then evE b e else .ok x
 | .or a b,e=>do let x ←evE a e;let k ←x.truth;if k then .ok x else evE b e
 | .not a,e=>do let x ←evE a e;let k ←x.truth;.ok (.bl (!k))
 | .neg a,e=>do
  match ←evE a e with
  | .int i=>.ok (.int (-i))
  | _=>.no
 | .ife c a b,e=>do let x ←evE c e;let k ←x.truth;if k then evE a e else evE b e
 | .ix a b,e=>do let x ←evE a e;let y ←evE b e;D.ix x y
 | .sl a lo hi,e=>do let x ←evE a e;let l ←evE lo e;let l ←l.part;let h ←evE hi e;let h ←h.part;D.sl x l h
 | .omit,_=>.ok .non
 | .tup a,e=>do let xs ←evA a e;.ok (.tup xs)
 | .lst a,e=>do let xs ←evA a e;.ok (.lst xs)
 | .call f a,e=>do let xs ←evA a e;cf f xs
 | .dcl a,e=>do let x ←evE a e;dclR x
 | .dlit a b,e=>do let x ←evE a e;let y ←evE b e;dlitR x y
 | .trng a,e=>do let x ←evE a e;trngR x
 | .getV a b,e=>do let x ←evE a e;let y ←evE b e;getR x y
 | .bt b a,e=>do let xs ←evA a e;b.run xs
 | .isi a t,e=>do let x ←evE a e;when (!x.isDct) (.ok (.bl (x.isTy t)))
 | .lset a,e=>do let x ←evE a e;x.setN
 | .lrng a,e=>do let x ←evE a e;lrngR x
 | .comp own caps g elt src cond,e=>do
  let ds ←evI src e
  let ys ←compL (λd=>do
   let e1 ←g.put d (compEnv own caps e)
   let c ←evE cond e1
   let k ←c.truth
   if k then do let y ←evE elt e1;.ok (some y) else .ok none) ds
  when (decide (ds.length≤big)) (.ok (.lst ys))
 | _,_=>.no
noncomputable def evA:E→Nv→Res (List D)
 | .anil,_=>.ok []
 | .acons a r,e=>do let x ←evE a e;let q ←evA r e;when (decide (q.length < 1000)) (.ok (x::q))
 | _,_=>.no
noncomputable def evI:E→Nv→Res (List D)
 | .seq a,e=>do let x ←evE a e;x.items
 | .rng a,e=>do
  match ←evE a e with
  | .int n=>when (small62 n) (.ok (rangeD 0 n.toNat))
  | _=>.no
 | .rng2 a b,e=>do
  match ←evE a e with
  | .int n=>do
   match ←evE b e with
   | .int m=>when (small62 n&&small62 m) (.ok (rangeD n (m - n).toNat))
   | _=>.no
  | _=>.no
 | .enum a,e=>do
  match ←evE a e with
  | .lst ds=>.ok (enumD 0 ds)
  | .tup ds=>.ok (enumD 0 ds)
  | _=>.no
 | .seqD a,e=>do let x ←evE a e;dkeysR x
 | _,_=>.no
end
noncomputable def D.isInt:D→Bool
 | .int _=>true
 | _=>false
inductive Out where
 | nx (e:Nv) | rt (d:D) (fresh:Bool) | bk (e:Nv) | ct (e:Nv)
 deriving Inhabited
noncomputable def forL (f:D→Nv→Res Out):List D→Nv→Res Out
 | [],e=>.ok (.nx e)
 | d::r,e=>do
  match ←f d e with
  | .nx e1=>forL f r e1
  | .ct e1=>forL f r e1
  | .bk e1=>.ok (.nx e1)
  | .rt x k=>.ok (.rt x k)
noncomputable def exS:S→Nv→Res Out
 | .nil,e=>.ok (.nx e)
 | .cons a r,e=>do
  match ←exS a e with
  | .nx e1=>exS r e1
  | o=>.ok o
 | .ret x,e=>do let d ←evE T cf x e;.ok (.rt d (freshE T x&&!tupL d))
 | .retO i,e=>do let a ←(e.at i).ownA;.ok (.rt a (!a.isDct))
 | .asg g x,e=>do let d ←evE T cf x e;let e1 ←g.put d e;.ok (.nx e1)
 | .asgO i x,e=>do
  match ←evE T cf x e with
  | .lst a=>when (freshE T x) (.ok (.nx (e.set i (.o (.lst a)))))
  | .dct a=>when (freshE T x) (.ok (.nx (e.set i (.o (.dct a)))))
  | .tdc a=>when (freshE T x) (.ok (.nx (e.set i (.o (.tdc a)))))
  | _=>.no
 | .sealed i,e=>do let a ←(e.at i).ownA;.ok (.nx (e.set i (.v a)))
 | .ite c a b,e=>do let x ←evE T cf c e;let k ←x.truth;if k then exS a e else exS b e
 | .forS g src b,e=>do
  let ds ←evI T cf src e
  forL (λd e0=>do let e1 ←g.put d e0;exS b e1) ds e
 | .app i x,e=>do
  let d ←evE T cf x e
  let a ←(e.at i).own
  when (decide (a.length < big)) (.ok (.nx (e.set i (.o (.lst (a++[d]))))))
 | .rev i,e=>do
  let a ←(e.at i).own
  .ok (.nx (e.set i (.o (.lst a.reverse))))
 | .dput i k x,e=>do
  let d ←evE T cf x e
  let a ←(e.at i).ownD
  let y ←evE T cf k e
  let key ←Res.of (keyOf y)
  when (decide (a.length < big)) (.ok (.nx (e.set i (.o (.dct (putKD a key d))))))
 | .newD i,e=>.ok (.nx (e.set i (.o (.dct []))))
 | .newT i,e=>.ok (.nx (e.set i (.o (.tdc []))))
 | .dputV i k x,e=>do
  let d ←evE T cf x e
  let a ←(e.at i).ownT
  let y ←evE T cf k e
  let key ←keyV y
  when (decide (a.length < big)) (.ok (.nx (e.set i (.o (.tdc (putTD a key d))))))
 | .ext i x,e=>do
  match ←evE T cf x e with
  | .lst b=>do
   let a ←(e.at i).own
   when (freshE T x&&decide (a.length+b.length≤big)) (.ok (.nx (e.set i (.o (.lst (a++b))))))
  | _=>.no
 | .exp x,e=>do let _ ←evE T cf x e;.ok (.nx e)
noncomputable def exX (T:Tab) (cf:Nat→List D→Res D) (_:S) (_:Nv):Option (Str×D):=none
end
structure Told where
 b:S
 c:Str
 yes:D
 thr:D
 ini:D:=.non
 num:Bool:=false
 deriving Inhabited
set_option genInjectivity false in
structure Df where
 names:Nat
 pars:Nat
 body:S
 told:Option Told:=none
 deriving Inhabited
noncomputable def startE (mv:Option Nat) (ds:List D):Nv:=match mv with
 | none=>ds.map Sl.v
 | some j=>(ds.map Sl.v).set j (.n (ds.getD j .non))
noncomputable def callF (T:Tab) (defs:List Df):Nat→Nat→List D→Res D
 | 0,_,_=>.no
 | n+1,f,ds =>
  match defs[f]? with
  | none=>.no
  | some d =>
   when (ds.length==d.pars) (match d.told with
    | none=>match exX T (callF T defs n) d.body (startE (T.mv f) ds++List.replicate (d.names - d.pars) Sl.no) with
     | some z=>.err z.1 z.2
     | none=>match exS T (callF T defs n) d.body (startE (T.mv f) ds++List.replicate (d.names - d.pars) Sl.no) with
      | .ok (.rt x k)=>when (k||!T.fresh f) (.ok x)
      | .ok (.nx _)=>when (!T.fresh f) (.ok .non)
      | _=>.no
    | some t=>match exX T (callF T defs n) t.b (ds.map Sl.v++[.v t.ini,.no]) with
     | some z=>when (z.1==t.c&&!T.fresh f) (if t.num then (match z.2 with | .int v=>.ok (.int v) | _=>.no) else .ok t.yes)
     | none=>match exS T (callF T defs n) t.b (ds.map Sl.v++[.v t.ini,.no]) with
      | .ok (.nx _)=>when (!T.fresh f) (.ok t.thr)
      | _=>.no)
section
variable {T:Tab} {cf:Nat→List D→Res D} {e:Nv}
theorem xE_var {i:Nat}:evE T cf (.var i) e=((e.at i).val):=rfl
theorem xE_rd {i:Nat}:evE T cf (.rd i) e=((e.at i).any):=rfl
theorem xE_con {d:D}:evE T cf (.con d) e=(.ok d):=rfl
theorem xE_glob {g:Nat}:evE T cf (.glob g) e=(.ok (T.glob g)):=rfl
theorem xE_cmp {o:CmpOp} {a:E} {b:E}:evE T cf (.cmp o a b) e=(do let x ←evE T cf a e;let y ←evE T cf b e;D.cmp o x y):=rfl
theorem xE_and {a:E} {b:E}:evE T cf (.and a b) e=(do let x ←evE T cf a e;let k ←x.truth;if k then evE T cf b e else .ok x):=rfl
theorem xE_or {a:E} {b:E}:evE T cf (.or a b) e=(do let x ←evE T cf a e;let k ←x.truth;if k then .ok x else evE T cf b e):=rfl
theorem xE_not {a:E}:evE T cf (.not a) e=(do let x ←evE T cf a e;let k ←x.truth;.ok (.bl (!k))):=rfl
theorem xE_neg {a:E}:evE T cf (.neg a) e=(do
 match ←evE T cf a e with
 | .int i=>.ok (.int (-i))
 | _=>.no):=rfl
theorem xE_ife {c:E} {a:E} {b:E}:evE T cf (.ife c a b) e=(do let x ←evE T cf c e;let k ←x.truth;if k then evE T cf a e else evE T cf b e):=rfl
theorem xE_sl {a:E} {lo:E} {hi:E}:evE T cf (.sl a lo hi) e=(do let x ←evE T cf a e;let l ←evE T cf lo e;let l ←l.part;let h ←evE T cf hi e;let h ←h.part;D.sl x l h):=rfl
theorem xE_omit  : evE T cf (.«omit») e=(.ok .non):=rfl
theorem xE_tup {a:E}:evE T cf (.tup a) e=(do let xs ←evA T cf a e;.ok (.tup xs)):=rfl
theorem xE_lst {a:E}:evE T cf (.lst a) e=(do let xs ←evA T cf a e;.ok (.lst xs)):=rfl
theorem xE_call {f:Nat} {a:E}:evE T cf (.call f a) e=(do let xs ←evA T cf a e;cf f xs):=rfl
theorem xE_dlit {a b:E}:evE T cf (.dlit a b) e=(do let x ←evE T cf a e;let y ←evE T cf b e;dlitR x y):=rfl
theorem xE_trng {a:E}:evE T cf (.trng a) e=(do let x ←evE T cf a e;trngR x):=rfl
theorem xE_getV {a b:E}:evE T cf (.getV a b) e=(do let x ←evE T cf a e;let y ←evE T cf b e;getR x y):=rfl
theorem xI_seqD {a:E}:evI T cf (.seqD a) e=(do let x ←evE T cf a e;dkeysR x):=rfl
theorem xE_dcl {a:E}:evE T cf (.dcl a) e=(do let x ←evE T cf a e;dclR x):=rfl
theorem xE_bt {b:Bt} {a:E}:evE T cf (.bt b a) e=(do let xs ←evA T cf a e;b.run xs):=rfl
theorem xE_isi {a:E} {t:Ty}:evE T cf (.isi a t) e=(do let x ←evE T cf a e;when (!x.isDct) (.ok (.bl (x.isTy t)))):=rfl
theorem xE_lset {a:E}:evE T cf (.lset a) e=(do let x ←evE T cf a e;x.setN):=rfl
theorem xE_lrng {a:E}:evE T cf (.lrng a) e=(do let x ←evE T cf a e;lrngR x):=rfl
theorem xE_comp {own:Nat} {caps:List Nat} {g:G} {elt:E} {src:E} {cond:E}:evE T cf (.comp own caps g elt src cond) e=(do
 let ds ←evI T cf src e
 let ys ←compL (λd=>do
  let e1 ←g.put d (compEnv own caps e)
  let c ←evE T cf cond e1
  let k ←c.truth
  if k then do let y ←evE T cf elt e1;.ok (some y) else .ok none) ds
 when (decide (ds.length≤big)) (.ok (.lst ys))):=rfl
theorem xA_anil  : evA T cf (.anil) e=(.ok []):=rfl
theorem xA_acons {a:E} {r:E}:evA T cf (.acons a r) e=(do let x ←evE T cf a e;let q ←evA T cf r e;when (decide (q.length < 1000)) (.ok (x::q))):=rfl
theorem xI_seq {a:E}:evI T cf (.seq a) e=(do let x ←evE T cf a e;x.items):=rfl
theorem xI_rng {a:E}:evI T cf (.rng a) e=(do
 match ←evE T cf a e with
 | .int n=>when (small62 n) (.ok (rangeD 0 n.toNat))
 | _=>.no):=rfl
theorem xI_rng2 {a:E} {b:E}:evI T cf (.rng2 a b) e=(do
 match ←evE T cf a e with
 | .int n=>do
  match ←evE T cf b e with
  | .int m=>when (small62 n&&small62 m) (.ok (rangeD n (m - n).toNat))
  | _=>.no
 | _=>.no):=rfl
theorem xI_enum {a:E}:evI T cf (.enum a) e=(do
 match ←evE T cf a e with
 | .lst ds=>.ok (enumD 0 ds)
 | .tup ds=>.ok (enumD 0 ds)
 | _=>.no):=rfl
theorem xS_nil  : exS T cf (.nil) e=(.ok (.nx e)):=rfl
theorem xS_cons {a:S} {r:S}:exS T cf (.cons a r) e=(do
 match ←exS T cf a e with
 | .nx e1=>exS T cf r e1
 | o=>.ok o):=rfl
theorem xS_ret {x:E}:exS T cf (.ret x) e=(do let d ←evE T cf x e;.ok (.rt d (freshE T x&&!tupL d))):=rfl
theorem xS_retO {i:Nat}:exS T cf (.retO i) e=(do let a ←(e.at i).ownA;.ok (.rt a (!a.isDct))):=rfl
theorem xS_asg {g:G} {x:E}:exS T cf (.asg g x) e=(do let d ←evE T cf x e;let e1 ←g.put d e;.ok (.nx e1)):=rfl
theorem xS_asgO {i:Nat} {x:E}:exS T cf (.asgO i x) e=(do
 match ←evE T cf x e with
 | .lst a=>when (freshE T x) (.ok (.nx (e.set i (.o (.lst a)))))
 | .dct a=>when (freshE T x) (.ok (.nx (e.set i (.o (.dct a)))))
 | .tdc a=>when (freshE T x) (.ok (.nx (e.set i (.o (.tdc a)))))
 | _=>.no):=rfl
theorem xS_sealed {i:Nat}:exS T cf (.«sealed» i) e=(do let a ←(e.at i).ownA;.ok (.nx (e.set i (.v a)))):=rfl
theorem xS_ite {c:E} {a:S} {b:S}:exS T cf (.ite c a b) e=(do let x ←evE T cf c e;let k ←x.truth;if k then exS T cf a e else exS T cf b e):=rfl
theorem xS_forS {g:G} {src:E} {b:S}:exS T cf (.forS g src b) e=(do
 let ds ←evI T cf src e
 forL (λd e0=>do let e1 ←g.put d e0;exS T cf b e1) ds e):=rfl
theorem xS_app {i:Nat} {x:E}:exS T cf (.app i x) e=(do
 let d ←evE T cf x e
 let a ←(e.at i).own
 when (decide (a.length < big)) (.ok (.nx (e.set i (.o (.lst (a++[d]))))))):=rfl
theorem xS_rev {i:Nat}:exS T cf (.rev i) e=(do
 let a ←(e.at i).own
 .ok (.nx (e.set i (.o (.lst a.reverse))))):=rfl
theorem xS_dput {i:Nat} {k:E} {x:E}:exS T cf (.dput i k x) e=(do
 let d ←evE T cf x e
 let a ←(e.at i).ownD
 let y ←evE T cf k e
 let key ←Res.of (keyOf y)
 when (decide (a.length < big)) (.ok (.nx (e.set i (.o (.dct (putKD a key d))))))):=rfl
theorem xS_newD {i:Nat}:exS T cf (.newD i) e=.ok (.nx (e.set i (.o (.dct [])))):=rfl
theorem xS_newT {i:Nat}:exS T cf (.newT i) e=.ok (.nx (e.set i (.o (.tdc [])))):=rfl
theorem xS_dputV {i:Nat} {k:E} {x:E}:exS T cf (.dputV i k x) e=(do
 let d ←evE T cf x e
 let a ←(e.at i).ownT
 let y ←evE T cf k e
 let key ←keyV y
 when (decide (a.length < big)) (.ok (.nx (e.set i (.o (.tdc (putTD a key d))))))):=rfl
theorem xS_ext {i:Nat} {x:E}:exS T cf (.ext i x) e=(do
 match ←evE T cf x e with
 | .lst b=>do
  let a ←(e.at i).own
  when (freshE T x&&decide (a.length+b.length≤big)) (.ok (.nx (e.set i (.o (.lst (a++b))))))
 | _=>.no):=rfl
theorem xS_exp {x:E}:exS T cf (.exp x) e=(do let _ ←evE T cf x e;.ok (.nx e)):=rfl
end
section
variable {T:Tab} {cf:Nat→List D→Res D} {e:Nv}
end
section
variable {T:Tab} {cf:Nat→List D→Res D}
theorem exX_not {x:S} {e:Nv} {z:Str×D} (h:exX T cf x e=some z):∀o,exS T cf x e≠.ok o:=nomatch h
end
end Tr
namespace Tr
open PySem PySem.Spec PyProof.Rows L2 Builtin.Str
theorem str_ext {x y:Str} (h:x.cps.toList=y.cps.toList):x=y:=by
 cases x;cases y
 simp only[Str.mk.injEq]
 exact Array.toList_inj.mp h
theorem filterMap_range {α:Type} (xs:List α) (a b:Nat) (hb:b≤xs.length):((List.range (b - a)).map λk=>a+k).filterMap (xs[·]?)=(xs.drop a).take (b - a):=by
 generalize hn:b - a=n
 induction n generalizing a with
 | zero=>simp
 | succ n ih =>
  have ha:a < xs.length:=by lia
  rw[List.range_succ_eq_map,List.map_cons,List.filterMap_cons,List.map_map,List.drop_eq_getElem_cons ha,List.take_succ_cons]
  simp only[Nat.add_zero,List.getElem?_eq_getElem ha]
  congr 1
  rw[←ih (a+1) (by lia)]
  congr 1
  apply List.map_congr_left
  intro k _
  simp only[Function.comp]
  lia
theorem sliceRange_nat {a b:Int} {p q:Nat} (ha:a=p) (hb:b=q):sliceRange a b 1=(List.range (q - p)).map λk=>p+k:=by
 subst ha hb
 unfold sliceRange
 simp only[show (1:Int) > 0 by decide,if_true]
 have hc:(if (p:Int) < (q:Int) then ((q:Int) - (p:Int)+1 - 1) / 1 else 0).toNat=q - p:=by
  rw[Int.ediv_one]
  split<;>lia
 rw[hc]
 apply List.map_congr_left
 intro k _
 lia
theorem slice_indices (n:Nat) (lo hi:Option Int):strSliceIndices lo hi 1 n=(List.range (sIx n n hi - sIx n 0 lo)).map λk=>sIx n 0 lo+k:=by
 unfold strSliceIndices
 refine sliceRange_nat ?_ ?_
 ·cases lo with
  | none=>rfl
  | some v =>
   simp only[show (1:Int) > 0 by decide,if_true,sIx]
   split<;>lia
 ·cases hi with
  | none=>rfl
  | some v =>
   simp only[show (1:Int) > 0 by decide,if_true,sIx]
   split<;>lia
theorem sIx_le' (n d:Nat) (hd:d≤n) (o:Option Int):sIx n d o≤n:=by
 cases o with
 | none=>exact hd
 | some v =>
  simp only[sIx]
  split<;>lia
theorem slice_cut (x:Str) (lo hi:Option Int):Txt.slice x lo hi=strCut x lo hi:=by
 have hl:x.cps.toList.length=x.length:=by simp[Str.length]
 unfold Txt.slice
 rw[slice_indices]
 have e:(List.filterMap (x.cps[·]?) ((List.range (sIx x.length x.length hi - sIx x.length 0 lo)).map λk=>sIx x.length 0 lo+k))=cut x.cps.toList lo hi:=by
  have:=filterMap_range x.cps.toList (sIx x.length 0 lo) (sIx x.length x.length hi) (by rw[hl];exact sIx_le' _ _ (Nat.le_refl _) _)
  unfold cut
  rw[hl,←this]
  congr 1
  funext k
  simp
 split
 ·rename_i c
  simp only[beq_self_eq_true,Bool.true_and,List.length_map,List.length_range,beq_iff_eq] at c
  refine str_ext ?_
  show _=(cut x.cps.toList lo hi).toArray.toList
  have h1:=sIx_le' x.length x.length (Nat.le_refl _) hi
  unfold cut
  by_cases hz:x.length=0
  ·have:x.cps.toList=[]:=List.eq_nil_of_length_eq_zero (by lia)
   rw[this];simp
  ·have h0:sIx x.length 0 lo=0:=by lia
   have h2:sIx x.length x.length hi=x.length:=by lia
   rw[hl,h0,h2,List.drop_zero,Nat.sub_zero,←hl,List.take_of_length_le (Nat.le_refl _)]
 ·rw[e];rfl
theorem oneIn_ok {x y:Str} {b:Bool} (h:oneIn x y=.ok b):(!(occurrences y x 0 y.length 1).isEmpty)=b:=by
 unfold oneIn at h
 split at h
 ·rename_i c hc
  cases h
  have ex:x=⟨#[c]⟩:=str_ext (by rw[hc])
  rw[ex]
  exact StrLaws.found_one y c
 ·cases h
section
variable {X:Cx}
theorem isPart_str {v:Value} {o:Option Int} (h:IsPart v o):∃p:Option (Int×Tok),v=partValue p∧p.map (·.1)=o:=by
 cases h with
 | none=>exact⟨none,rfl,rfl⟩
 | int i t=>exact⟨some (i,t),rfl,rfl⟩
theorem sl_str:SlR X (λx lo hi H Q=>∃z,x=.str z∧z.length≤sizeLine∧Q (.str (strCut z lo hi)) H):=by
 intro pins s σ H x v vl vu lo hi sl Q I rx hs pl pu h
 obtain⟨z,rfl,hz,q⟩:=h
 obtain⟨t,rfl⟩:=rx
 obtain⟨p,rfl,rfl⟩:=isPart_str pl
 obtain⟨p',rfl,rfl⟩:=isPart_str pu
 refine⟨"str", _,PySem.F.slot_str_getitem.lookup,typeIs_str _ _ _,wpAny_getItem_str_slice (l:=p) (u:=p') (st:=none) hs rfl ?_⟩
 refine post_val_or_str ⟨Nat.le_trans (Txt.slice_le z _ _) hz,λt' k=>?_⟩
 refine⟨.str _,H,I.tok k,⟨t',?_⟩,q⟩
 rw[←slice_cut]
 rfl
theorem call_int_text:CallR X (.type "int") (λxs H Q=>∃z,xs=[.str z]∧isDigits z.cps.toList=true∧z.length≤640∧Q (.int (digitsN z.cps.toList)) H):=by
 intro pins s σ H xs us Q I r h
 obtain⟨z,rfl,hd,hl,q⟩:=h
 obtain⟨u,rfl,rx⟩:=vals1 r
 obtain⟨t,rfl⟩:=rx
 unfold isDigits at hd
 rw[Bool.and_eq_true,List.all_eq_true] at hd
 have had:PySem.NumText.AllDigits z.cps.toList:=λc hc=>by
  have:=hd.2 c hc
  simpa using this
 have hne:z.cps.toList≠[]:=by
  have:=hd.1
  intro e
  rw[e] at this
  cases this
 have hn:=PySem.intText_digits had hne (by lia)
 exact PySem.W.KIN.call_text (n:=((digitsN z.cps.toList:Nat):Int)) hn hl ⟨.int _,H,I.tok _,⟨_,rfl⟩,q⟩
theorem bools_walk {pins:List (Addr×Obj)} {s:Shared} {σ:L2.St} {H:Hp} {a:Addr} {bs:List Bool} {its:List Value} (I:Inv X pins σ H s) (r':Vals (bs.map V.bl) its) (pl:PlainL s.heap a its.toArray) :
 (s.heap.push { cls:=.type "list_iterator", data:=.fields #[.ref a,.int 0 0] }).IsList a its.toArray∧TruthOf X.prog X.w X.A.in1 (λi v=>its.toArray[i]?=some v) (λi=>(bs[i]?).getD true):=by
 refine⟨pl.isList.at λo e=>Heap.get?_push_of_some _ e,?_⟩
 intro i v s' Q' E' hv hQ'
 have hv':its[i]?=some v:=by simpa using hv
 obtain⟨hi,_⟩:=List.getElem?_eq_some_iff.mp hv'
 have hib:i < bs.length:=by have:=r'.length;rw[List.length_map] at this;lia
 obtain⟨w,hw,rw'⟩:=r'.get (i:=i) (by rw[List.getElem?_map,List.getElem?_eq_getElem hib];rfl)
 rw[hv'] at hw
 cases hw
 have:v=.bool bs[i]:=rw'
 subst this
 have e:(bs[i]?).getD true=bs[i]:=by rw[List.getElem?_eq_getElem hib];rfl
 dsimp only at hQ'
 rw[e] at hQ'
 exact wpAny_truthy_bool hQ'
theorem range_all (bs:List Bool):(List.range bs.length).all (λi=>(bs[i]?).getD true)=bs.all id:=by
 induction bs with
 | nil=>rfl
 | cons b r ih =>
  rw[List.length_cons,List.range_succ_eq_map,List.all_cons,List.all_map,List.all_cons,←ih]
  rfl
theorem call_all:CallR X (.builtin "all") (λxs H Q=>∃(a:Addr) (bs:List Bool),xs=[.ref a]∧SqL X.K H a (bs.map V.bl)∧X.calm=true∧Q (.bl (bs.all id)) H):=by
 intro pins s σ H xs us Q I r h
 obtain⟨a,bs,rfl,hq,hc,q⟩:=h
 obtain⟨u,rfl,rx⟩:=vals1 r
 cases rx
 obtain⟨its,r',pl,hz⟩:=I.list hq
 refine call_all_walk (wpAny_pyIter_list pl.isList ?_)
 have hlt:a < s.heap.objs.size:=by obtain⟨o,e,_⟩:=pl.isList;exact Heap.lt_size e
 obtain⟨w1,w2⟩:=bools_walk I r' pl
 refine⟨s.heap.objs.size,[s.heap.objs.size,a],[s.heap.objs.size],its.toArray.size,(λi v=>its.toArray[i]?=some v),(λi h=>h.IsListIter s.heap.objs.size a i∧h.IsList a its.toArray),λi=>(bs[i]?).getD true,rfl,Walks.list (A:=X.A.in1) (I.ok.hd hc) s.heap.objs.size a (Nat.ne_of_lt hlt) its.toArray,⟨⟨_,Heap.get?_push_size _ rfl,rfl,rfl⟩,w1⟩,w2,λh' tk hk=>?_⟩
 refine⟨.bl (bs.all id),H,I.kept (h':=h') (t':=tk) λb o e=>hk b o (by simp;exact λz=>absurd (z▸Heap.lt_size e) (Nat.lt_irrefl _)) (Heap.get?_push_of_some _ e),?_,q⟩
 have hl:=r'.length
 rw[List.length_map] at hl
 show Value.bool _=Value.bool _
 rw[List.size_toArray,←hl,range_all]
noncomputable def Its (x:Str):It:=⟨λi _=>i < x.cps.size,λi H v H'=>H'=H∧∃c,x.cps[i]?=some c∧v=.str ⟨#[c]⟩,λi _=>x.cps.size≤i⟩
theorem turn_str {P:Program} {w:World} {K:PySem.W.Frag} {tg:Expr} (ty:String) (it:Addr) (x:Str) (t:Tok)
 (hty:["enumerate", "zip", "dict_itemiterator", "dict_reverseitemiterator", "odict_iterator", "itertools.zip_longest", "itertools.pairwise"].contains ty=false)
 (W:∀A:Around,A.handled=none→Walks P w A it [it] [it] x.cps.size (SignAt x) (λi h=>h.IsStrIter it ty x t i))
 (en:∀(A:Around) (s:Shared) (i:Nat) (Q:Option Value→Shared→Prop) (E:Value→Shared→Prop),A.handled=none→s.heap.IsStrIter it ty x t i→x.cps[i]?=none→(∀h',Heap.ExtBut it s.heap h'→Q none { s with heap:=h' })→wpAny (model P w) A (pyNext (.ref it)) Q E s)
 (sf:∀(A:Around) (s:Shared) (i:Nat) (Q:Value→Shared→Prop) (E:Value→Shared→Prop),s.heap.IsStrIter it ty x t i→Q (.ref it) s→wpAny (model P w) A (pyIter (.ref it)) Q E s) :
 Turn P w K tg (Its x) [it] it (λi h=>h.IsStrIter it ty x t i) where
 mem:=by simp
 obj:=λi h st b hb=>by
  have e:b=it:=by simpa using hb
  subst e
  obtain⟨o,e,c,d⟩:=st
  exact⟨o,e,λv z=>by rw[d] at z;cases z⟩
 keep:=λi h h' st k=>let ⟨o,e,c⟩:=st;⟨o,k it (by simp) o e,c⟩
 item:=by
  intro X hP hw hK hc i pins s σ H E I hf st hg
  subst hP hw hK
  obtain⟨f0,f1,f2,f3,f4,f5⟩:=hf it (by simp)
  refine (W X.A (I.ok.hd hc)).item i s _ _ hg st λv h' tk hv st' kk=>?_
  obtain⟨c,u,hx,rfl⟩:=hv
  have I1:Inv X pins σ H { s with heap:=h',toks:=tk }:=I.turned (λb o hb e=>kk b o (by simpa using hb) e) f0 f1 f3 f4 f5
  obtain⟨o,e,cc,d⟩:=id st'
  exact⟨_,rfl,go_of (s:={ s with heap:=h',toks:=tk }) e cc d hty ⟨.str ⟨#[c]⟩,H,I1,⟨u,rfl⟩,⟨rfl,c,hx,rfl⟩,st',λb hb=>(hf b hb).1⟩⟩
 done:=by
  intro X hP hw hK hc i pins s σ H E I hf st hg
  subst hP hw hK
  obtain⟨f0,f1,f2,f3,f4,f5⟩:=hf it (by simp)
  have hn:x.cps[i]?=none:=by
   have:x.cps.size≤i:=hg
   simpa using this
  exact en X.A s i _ _ (I.ok.hd hc) st hn λh' eb=>⟨rfl,I.turned (t':=s.toks) (λb o hb e=>eb b o hb e) f0 f1 f3 f4 f5⟩
 self:=λA i s Q E st h=>sf A s i Q E st h
theorem pi_str {pins:List (Addr×Obj)} {s:Shared} {σ:L2.St} {H:Hp} {tg:Expr} {R:It→Hp→Prop} {x:Str} {t:Tok} (I:Inv X pins σ H s) (h:R (Its x) H) :
 wpAny (model X.prog X.w) X.A (pyIter (.str x t)) (PIE X pins σ tg R) X.xe s:=by
 have fp:∀b∈[s.heap.objs.size],FpOk X pins H b:=λb hb=>by
  rcases List.mem_cons.mp hb with rfl | hb
  ·exact I.fpOk (Nat.le_refl _) (I.hok.fresh (Nat.le_refl _))
  ·cases hb
 cases ha:x.cps.all (· < 128)
 ·refine wpAny_pyIter_wide ha ?_
  exact⟨s.heap.objs.size,[s.heap.objs.size],_,Its x,H,rfl,I.kept (t':=s.toks) λb u e=>Heap.get?_push_of_some _ e,turn_str "str_iterator" _ x t (by decide) (λA hA=>Walks.strWide hA _ x t) (λA s i Q E hA st hx k=>wpAny_pyNext_wide_end hA st hx k) (λA s i Q E st k=>wpAny_pyIter_striter_wide st k),⟨_,Heap.get?_push_size _ rfl,rfl,rfl⟩,fp,h⟩
 ·refine wpAny_pyIter_ascii ha ?_
  exact⟨s.heap.objs.size,[s.heap.objs.size],_,Its x,H,rfl,I.kept (t':=s.toks) λb u e=>Heap.get?_push_of_some _ e,turn_str "str_ascii_iterator" _ x t (by decide) (λA hA=>Walks.strAscii hA _ x t) (λA s i Q E hA st hx k=>wpAny_pyNext_ascii_end hA st hx k) (λA s i Q E st k=>wpAny_pyIter_striter_ascii st k),⟨_,Heap.get?_push_size _ rfl,rfl,rfl⟩,fp,h⟩
end
end Tr
namespace Tr
open PySem PySem.Spec PyProof.Rows L2
section
variable {prog:Program} {w:World} {A:Around} {E:Value→Shared→Prop} {s:Shared}
theorem nextOf_tup {it t:Addr} {i:Nat} {items:Array Value} {x:Value} {Q:Value→Shared→Prop} (hit:s.heap.IsTupleIter it t i) (ht:s.heap.IsTuple t items) (hx:items[i]?=some x)
 (hQ:∀h',h'.IsTupleIter it t (i+1)→Heap.SameBut it s.heap h'→Q x { s with heap:=h' }):wpAny (model prog w) A (Builtin.SmallTypes.nextOf (.ref it)) Q E s:=by
 obtain⟨o,ho,hc,hd⟩:=id hit
 obtain⟨ol,hol,_,nl,hdl⟩:=ht
 unfold Builtin.SmallTypes.nextOf
 refine wpAny_bind (wpAny_callSpecial?_slot (name:=Str.ofString "__next__") hit.typeIs F.slot_tuple_iterator_next
  (wpAny_call_entry F.slot_tuple_iterator_next hit.typeIs F.entry_tuple_iterator_next ?_ (F.args_tuple_iterator_next_1 _)))
 show wpAny _ _ (field (.ref it) 0>>=_) _ _ s
 refine wpAny_bind (wpAny_field ho hd (x:=.ref t) rfl ?_)
 show wpAny _ _ (if (Value.ref t==Value.none)=true then _ else _) _ _ s
 rw[if_neg (show ¬((Value.ref t==Value.none)=true) from Bool.false_ne_true)]
 show wpAny _ _ (field (.ref it) 1>>=_) _ _ s
 refine wpAny_bind (wpAny_field ho hd (x:=.int i 0) rfl ?_)
 show wpAny _ _ (seqItems? (.ref t)>>=_) _ _ s
 refine wpAny_bind (wpAny_seqItems hol hdl ?_)
 simp only[Int.toNat_natCast,hx]
 refine wpAny_bind (wpAny_setField ho hd (by simp) (wpAny_pure ⟨x,rfl,wpAny_pure (hQ _ ?_ (Heap.SameBut.update ..))⟩))
 exact⟨_,Heap.get?_update_self _ ho (Obj.isFreed_of_fields (Obj.data_mapFields hd _)),(Obj.cls_mapFields ..).trans hc,by
  rw[Obj.data_mapFields hd];simp[rawInt]⟩
theorem nextOf_tup_end {it t:Addr} {i:Nat} {items:Array Value} {Q:Value→Shared→Prop} (hh:A.handled=none) (hit:s.heap.IsTupleIter it t i) (ht:s.heap.IsTuple t items) (hx:items[i]?=none)
 (hE:∀h' e,Heap.ExtBut it s.heap h'→(∃o,h'.get? e=some o∧o.cls=.type "StopIteration")→E (.ref e) { s with heap:=h' }):wpAny (model prog w) A (Builtin.SmallTypes.nextOf (.ref it)) Q E s:=by
 obtain⟨o,ho,hc,hd⟩:=id hit
 obtain⟨ol,hol,_,nl,hdl⟩:=ht
 unfold Builtin.SmallTypes.nextOf
 refine wpAny_bind (wpAny_callSpecial?_slot (name:=Str.ofString "__next__") hit.typeIs F.slot_tuple_iterator_next
  (wpAny_call_entry F.slot_tuple_iterator_next hit.typeIs F.entry_tuple_iterator_next ?_ (F.args_tuple_iterator_next_1 _)))
 show wpAny _ _ (field (.ref it) 0>>=_) _ _ s
 refine wpAny_bind (wpAny_field ho hd (x:=.ref t) rfl ?_)
 show wpAny _ _ (if (Value.ref t==Value.none)=true then _ else _) _ _ s
 rw[if_neg (show ¬((Value.ref t==Value.none)=true) from Bool.false_ne_true)]
 show wpAny _ _ (field (.ref it) 1>>=_) _ _ s
 refine wpAny_bind (wpAny_field ho hd (x:=.int i 0) rfl ?_)
 show wpAny _ _ (seqItems? (.ref t)>>=_) _ _ s
 refine wpAny_bind (wpAny_seqItems hol hdl ?_)
 simp only[Int.toNat_natCast,hx]
 refine wpAny_bind (wpAny_rule (wpAny_bind (wpAny_setField ho hd (by simp) ?_)))
 show wpAny _ _ (newExc (.type "StopIteration") []>>=_) _ _ _
 refine wpAny_bind ?_
 simp only[newExc,newTuple]
 refine wpAny_bind (wpAny_newObj_type ?_ (by size_fits))
 refine wpAny_bind (m:=firstArgMember _ _) (wpAny_of_eq (a:=Value.none) (by first | rfl | (simp only[firstArgMember];rfl)) ?_)
 refine wpAny_newObj_type ?_ (by size_fits)
 simp only[raiseNew]
 refine wpAny_bind (wpAny_handled ?_)
 first | rw[show A.in1.handled=none from hh] | rw[hh]
 refine wpAny_bind (wpAny_pure (wpAny_throw ?_))
 exact hE _ _ (((Heap.SameBut.update ..).extBut.push _).push _) ⟨_,Heap.get?_push_size _ rfl,rfl⟩
end
theorem tup_at {h h':Heap} {a:Addr} {items:Array Value} (x:h.IsTuple a items) (e:∀o,h.get? a=some o→h'.get? a=some o):h'.IsTuple a items:=let ⟨o,ho,r⟩:=x;⟨o,e _ ho,r⟩
theorem draws_tup {prog:Program} {w:World} {A:Around} (hh:A.handled=none) (it t:Addr) (hne:t≠it) (items:Array Value) :
 Draws prog w A it [it,t] items.size (λi v=>items[i]?=some v) (λi h=>h.IsTupleIter it t i∧h.IsTuple t items) where
 live:=λ_ _ st=>let ⟨o,ho,_⟩:=st.1;⟨o,ho⟩
 frame:=λ_ _ _ st hk=>⟨st.1.at λo e=>hk it (by simp) o e,tup_at st.2 λo e=>hk t (by simp) o e⟩
 item:=λi s Q E hi st hQ=>nextOf_tup st.1 st.2 (x:=items[i]) (by simp[hi]) λh' hit' hs'=>hQ _ h' s.toks (by simp[hi]) ⟨hit',st.2.extBut hs'.extBut hne⟩ hs'
 done:=λs Q E st hE=>nextOf_tup_end hh st.1 st.2 (by simp) hE
theorem meets_enum_tup (l:Addr) (items:Array Value) (n:Nat) (dct:Option Addr) (sl:Array (Option Value)) :
 Meets (Builtin.«enumerate.__new__» ⟨[.type "enumerate", .ref l],[]⟩) (λ_ R s=>s.heap.get? l=some { cls:=.type "tuple", dict:=dct,data:=.seq items n,slots:=sl } ∧
  R (.ok (.ret (.ref (s.heap.push { cls:=.type "tuple_iterator", data:=.fields #[.ref l,.int 0 0] }).objs.size)))
   { s with heap:=(s.heap.push { cls:=.type "tuple_iterator", data:=.fields #[.ref l,.int 0 0] }).push { cls:=.type "enumerate", data:=.fields #[.none,.bool false,.ref s.heap.objs.size,rawInt 0,.none,.none] } }) :=
 .of_wp λprog w A R s h=>by
  obtain⟨hp,g,d,tk,os⟩:=s;obtain⟨hl,h⟩:=h
  have hsub:=sub_enumerate
  have hL:Heap.IsTuple (Shared.heap ⟨hp,g,d,tk,os⟩) l items:=⟨_,hl,rfl,n,rfl⟩
  wp_walk using AutoSeq1.wpAny_loadPart' hl
  refine wpAny_stack_any λst=>wpAny_pure ?_
  split
  ·rename_i c _ _ _ _ _
   cases (c==Value.type "enumerate")
   ·wp_walk using AutoSeq1.wpAny_loadPart' hl,wpAny_pyIter_tuple hL
    exact⟨_,rfl,h⟩
   ·wp_walk using AutoSeq1.wpAny_loadPart' hl,wpAny_pyIter_tuple hL
    exact⟨_,rfl,h⟩
  ·wp_walk using AutoSeq1.wpAny_loadPart' hl,wpAny_pyIter_tuple hL
   exact⟨_,rfl,h⟩
theorem call_enum_tup {prog:Program} {w:World} {A:Around} {E:Value→Shared→Prop} {s:Shared} {l:Addr} {items:Array Value} {Q:Value→Shared→Prop} (hL:s.heap.IsTuple l items)
 (h:∀h',IsEnum h' (s.heap.objs.size+1) s.heap.objs.size 0 .none→h'.IsTupleIter s.heap.objs.size l 0→h'.objs.size=s.heap.objs.size+2 →
  (∀b o,s.heap.get? b=some o→h'.get? b=some o)→Q (.ref (s.heap.objs.size+1)) { s with heap:=h' }) :
 wpAny (model prog w) A (call (.type "enumerate") [.ref l]) Q E s:=by
 obtain⟨⟨c,dct,dt,sl⟩,hl,hc,n,hd⟩:=hL
 replace hc:c=.type "tuple" := hc
 replace hd:dt=.seq items n:=hd
 subst hc hd
 refine callType_new F.called_enumerate (by decide) (F.typeCall_enumerate_1 _) (F.newCall_enumerate_1 _) (λobj=>F.args_object_init_2 obj _) F.entry_enumerate_new
  (meets_enum_tup l items n dct sl) ⟨hl,?_⟩
 have hz:(s.heap.push { cls:=.type "tuple_iterator", data:=.fields #[.ref l,.int 0 0] }).objs.size=s.heap.objs.size+1:=Heap.size_push ..
 show _∧_
 rw[hz]
 have he:IsEnum ((s.heap.push { cls:=.type "tuple_iterator", data:=.fields #[.ref l,.int 0 0] }).push
  { cls:=.type "enumerate", data:=.fields #[.none,.bool false,.ref s.heap.objs.size,rawInt 0,.none,.none] }) (s.heap.objs.size+1) s.heap.objs.size 0 .none:=by
  have:=Heap.get?_push_size (s.heap.push { cls:=.type "tuple_iterator", data:=.fields #[.ref l,.int 0 0] })
   (o:={ cls:=.type "enumerate", data:=.fields #[.none,.bool false,.ref s.heap.objs.size,rawInt 0,.none,.none] }) rfl
  rw[hz] at this;exact this
 refine⟨⟨_,he,rfl⟩,h _ he ⟨_,Heap.get?_push_of_some _ (Heap.get?_push_size _ rfl),rfl,rfl⟩ (by rw[Heap.size_push,hz]) λb o x=>Heap.get?_push_of_some _ (Heap.get?_push_of_some _ x)⟩
end Tr
namespace Tr
open PySem PySem.Spec PyProof.Rows L2 PySem.SeqAt
noncomputable def ModS (K:PySem.W.Frag) (a:Addr) (ss:List Str):Prop:=∃(o:Obj) (its:Array Value) (n:Nat),K.lookup a=some o∧o.cls=.type "tuple" ∧ o.dict=none∧o.data=.seq its n∧Vals (ss.map V.str) its.toList
end Tr
namespace Tr
open PySem PySem.Spec PyProof.Rows L2
noncomputable def met (val:Nat→Key):Nat→List Key
 | 0=>[]
 | i+1=>if (met val i).any (λx=>decide (x=val i)) then met val i else met val i++[val i]
section
variable {prog:Program} {w:World} {A:Around} {R:Result→Shared→Prop} {I:Addr} {fp wr:List Addr} {G:Array GenState→Array GenState→Prop} {n:Nat} {P:Nat→Value→Prop} {St:Nat→Shared→Prop}
end
section
variable {prog:Program} {w:World} {A:Around} {E:Value→Shared→Prop} {s:Shared}
end
section
variable {prog:Program} {w:World} {A:Around} {E:Value→Shared→Prop} {s:Shared}
end
theorem call_rangeX {X:Cx}:CallR X (.type "range") (λvs H Q=>∃n:Int,vs=[.int n]∧∀p,H p=none→Q (.ref p) (upd H p (.rng 0 n))):=by
 intro pins s σ H vs us Q I rv h
 obtain⟨n,rfl,q⟩:=h
 obtain⟨u,rfl,ru⟩:=rv.one
 obtain⟨t,rfl⟩:=ru
 refine call_range_1 ⟨.ref s.heap.objs.size,_,I.laid (t':=s.toks+1+1) (λb o e=>Heap.get?_push_of_some _ e) (Nat.le_refl _) ?_,rfl,q _ (I.hok.fresh (Nat.le_refl _))⟩
 exact⟨_,_,_,Heap.get?_push_size _ rfl⟩
theorem vals_range {a:Int}:∀ {n:Nat} {its:List Value},its.length=n→(∀(j:Nat) v,its[j]?=some v→∃t,v=.int (a+(j:Nat)*1) t)→Vals ((List.range n).map λi:Nat=>V.int (a+(i:Nat))) its:=by
 intro n
 induction n generalizing a with
 | zero =>
  intro its hl h
  rw[List.length_eq_zero_iff.mp hl]
  exact .nil
 | succ n ih =>
  intro its hl h
  cases its with
  | nil=>cases hl
  | cons v its =>
   rw[List.range_succ_eq_map,List.map_cons,List.map_map]
   obtain⟨t,rfl⟩:=h 0 v rfl
   have r:=ih (a:=a+1) (its:=its) (by simpa using hl) (λj v hv=>by
    obtain⟨t,e⟩:=h (j+1) v (by simpa using hv)
    refine⟨t,?_⟩
    rw[e]
    congr 1
    push_cast
    lia)
   refine .cons ⟨t,by simp⟩ ?_
   have e:(List.range n).map ((λi:Nat=>V.int (a+(i:Nat)))∘Nat.succ)=(List.range n).map λi:Nat=>V.int (a+1+(i:Nat)):=by
    apply List.map_congr_left
    intro i _
    simp only[Function.comp]
    congr 1
    push_cast
    lia
   rw[e]
   exact r
theorem call_listX {X:Cx} (hc:X.calm=true):CallR X (.type "list") (λvs H Q=>∃p n,vs=[.ref p]∧H p=some (.rng 0 n) ∧ -(2^62)≤n∧n < 2^62∧n≤(sizeLine:Nat)∧∀l,H l=none→Q (.ref l) (upd H l (.lst ((List.range n.toNat).map λi:Nat=>V.int (0+(i:Nat)))))):=by
 intro pins s σ H vs us Q I rv h
 obtain⟨p,n,rfl,hH,h1,h2,h3,q⟩:=h
 obtain⟨u,rfl,ru⟩:=rv.one
 cases ru
 obtain⟨t,u,v,hr⟩:=I.hok p _ hH
 have hz:n.toNat≤sizeLine:=by lia
 have hz2:n.toNat≤2^24:=by
  have e:sizeLine=2^24:=by decide
  rw[←e];exact hz
 refine call_list_range (n:=n.toNat) (I.ok.hd hc) hr (small_one (by lia) (by lia) h1 h2) (by rw[rangeSize_one];split<;>lia) hz2 λh' tk acc' c' hk hS hacc=>?_
 refine⟨.ref s.heap.objs.size,_,I.laid (t':=tk) hk (Nat.le_refl _) ?_,rfl,q _ (I.hok.fresh (Nat.le_refl _))⟩
 refine⟨by simpa using hz,acc'.toList,c',vals_range (by simpa using hacc.1) (λj v hv=>?_),by simpa using hS⟩
 exact hacc.2 j v (by simpa using hv)
theorem vals_ints:∀ {ns:List Int} {its:List Value},Vals (ns.map V.int) its→∃xs:List (Int×Tok),its=xs.map (λp=>Value.int p.1 p.2)∧xs.map (·.1)=ns
 | [],_,h=>by cases h;exact⟨[],rfl,rfl⟩
 | n::ns,_,h=>by
  cases h with
  | cons r rr =>
   obtain⟨t,rfl⟩:=r
   obtain⟨xs,rfl,e⟩:=vals_ints rr
   exact⟨(n,t)::xs,rfl,by rw[List.map_cons,e]⟩
section
variable {prog:Program} {w:World} {A:Around} {R:Result→Shared→Prop} {it:Addr} {fp wr:List Addr} {n:Nat} {P:Nat→Value→Prop} {St:Nat→Heap→Prop}
end
section
variable {prog:Program} {w:World} {A:Around} {E:Value→Shared→Prop} {s:Shared}
end
section
variable {prog:Program} {w:World} {A:Around} {R:Result→Shared→Prop} {I:Addr} {fp wr:List Addr} {G:Array GenState→Array GenState→Prop} {n:Nat} {P:Nat→Value→Prop} {St:Nat→Shared→Prop}
end
section
variable {prog:Program} {w:World} {A:Around} {E:Value→Shared→Prop} {s:Shared}
end
section
variable {prog:Program} {w:World} {A:Around} {E:Value→Shared→Prop} {s:Shared}
end
section
variable {prog:Program} {w:World} {A:Around} {E:Value→Shared→Prop} {s:Shared}
end
section
variable {prog:Program} {w:World} {A:Around} {E:Value→Shared→Prop} {s:Shared}
end
section
variable {prog:Program} {w:World} {A:Around} {E:Value→Shared→Prop} {s:Shared}
end
section
variable {prog:Program} {w:World} {A:Around} {E:Value→Shared→Prop} {s:Shared} {l:Addr} {xs:Array (Int×Tok)}
end
theorem noFill_tuple_mul:fillsNumberSlot (.type "tuple") "mul" = pure false :=
 PySem.fillsNumberSlot_seq (id := "tuple.__mul__") (r:=some (.builtin "tuple.__rmul__")) PySem.F.slot_tuple_mul.lookup (by decide +kernel) PySem.F.slot_tuple_rmul.lookup (by decide +kernel)
theorem repeat_tuple:seqRepeat? (.type "tuple")=pure (some (.builtin "tuple.__mul__")):=by
 unfold seqRepeat?
 rw[PySem.seqSlot_of (T := "tuple") (name := "__mul__") (id := "tuple.__mul__") PySem.F.slot_tuple_mul.lookup (by decide +kernel),PySem.seqSlot_of (T := "tuple") (name := "__rmul__") (id := "tuple.__rmul__") PySem.F.slot_tuple_rmul.lookup (by decide +kernel)]
 rfl
theorem int_rmul_tuple (a:Int) (t:Tok) (l:Addr) (o:Obj) :
 Meets (Builtin.«int.__rmul__» ⟨[.int a t,.ref l],[]⟩) (λ_ R s=>s.heap.get? l=some o∧o.cls=.type "tuple" ∧ (∃items n,o.data=.seq items n)∧R (.ok (.ret Value.notImplemented)) s) :=
 .of_wp λprog w A R s h=>by
  obtain⟨hp,g,d,tk,os⟩:=s
  obtain⟨hl,hc,⟨items,n,hd⟩,h⟩:=h
  obtain⟨c,dc,dt,sl⟩:=o
  dsimp only at hc hd
  subst hc;subst hd
  wp_walk
  exact⟨_,rfl,h⟩
section
variable {prog:Program} {w:World} {A:Around} {E:Value→Shared→Prop} {s:Shared} {l:Addr} {its:List Value}
theorem mul_tuple {k:Int} {t:Tok} {Q:Value→Shared→Prop} (hl:IsTup s.heap l its.toArray) (h1:its.length=1) (hk:0≤k∧k≤1000)
 (hs:k=1→Q (.ref l) s) (h:k≠1→Q (.ref s.heap.objs.size) { s with heap:=s.heap.push { cls:=.type "tuple", data:=.seq (List.replicate k.toNat its).flatten.toArray } }) :
 wpAny (model prog w) A (binaryOp .Mult (.ref l) (.int k t)) Q E s:=by
 obtain⟨o,e,hc,n,hd⟩:=id hl
 have hT:s.TypeIs (.ref l) "tuple" := ⟨o,e,hc⟩
 refine wpAny_binaryOp_repeat_ref (T := "tuple") (U := "int") (by decide) hT (λs'=>typeIs_int s' k t) noFill_tuple_mul PySem.F.fills_int_mul PySem.F.slot_int_rmul repeat_tuple PySem.F.slot_int_index.lookup
  (call_meets PySem.F.slot_int_rmul (typeIs_int s k t) PySem.F.entry_int_rmul (PySem.F.args_int_rmul_2 _ _) (int_rmul_tuple k t l o)
   ⟨e,hc,⟨_,n,hd⟩,rfl,hT,wpAny_call_entry PySem.F.slot_tuple_mul hT PySem.F.entry_tuple_mul ?_ (PySem.F.args_tuple_mul_2 _ _)⟩)
 show wpAny _ _ (asIndex (.int k t)>>=_) _ _ s
 refine wpAny_bind (m:=asIndex (.int k t)) (wpAny_pure ?_)
 rw[if_neg (by simp only[Bool.or_eq_true,decide_eq_true_eq,not_or];lia)]
 show wpAny _ _ (Builtin.Tuple.tupleItemsOf (.ref l)>>=_) _ _ s
 refine wpAny_bind (wpAny_tupleItemsOf e hd ?_)
 have hne:its.toArray.isEmpty=false:=by
  cases its with
  | nil=>cases h1
  | cons _ _=>rfl
 rw[hne]
 by_cases c1:k=1
 ·subst c1
  rw[if_pos (by decide)]
  refine wpAny_bind ?_
  unfold Builtin.Tuple.tupleIsExact
  refine wpAny_bind (wpAny_typeOf hT (wpAny_pure ?_))
  rw[if_pos (by decide)]
  exact wpAny_bind (wpAny_rule (wpAny_pure ⟨_,rfl,hs rfl⟩))
 ·have hb:(k==1)=false:=by simpa using c1
  rw[hb]
  simp only[Bool.or_false,Bool.false_eq_true,if_false]
  have hsz:its.toArray.size=1:=by rw[List.size_toArray];exact h1
  by_cases c0:k≤0
  ·have k0:k=0:=by lia
   subst k0
   simp only[Int.le_refl,decide_true,if_true]
   exact wpAny_bind (wpAny_newObj_type (wpAny_pure ⟨_,rfl,h c1⟩))
  ·rw[if_neg (by simpa using c0),hsz]
   rw[if_neg (by lia),if_neg (by
    simp only[Builtin.Tuple.tupleTooMany,decide_eq_true_eq]
    rw[sizeLine_eq];lia)]
   have hf:List.foldl (λx1 x2=>x1++x2) #[] (List.replicate k.toNat its.toArray)=(List.replicate k.toNat its).flatten.toArray:=by
    have:=foldl_rep its k.toNat []
    rw[List.nil_append] at this
    exact this
   show wpAny _ _ (Builtin.Tuple.tupleExact (List.foldl (λx1 x2=>x1++x2) #[] (List.replicate k.toNat its.toArray))>>=_) _ _ s
   rw[hf]
   refine wpAny_bind (wpAny_newObj_type (wpAny_pure ⟨_,rfl,h c1⟩) ?_)
   show (List.replicate k.toNat its).flatten.toArray.size≤_
   rw[List.size_toArray,len_rep,h1,sizeLine_eq];lia
end
end Tr
namespace Tr
open PySem
noncomputable def tupHash (k:List Nat):Int:=reduceHash (Builtin.Tuple.tupleHashOf ((k.map λa:Nat=>(a:Int)).map hashInt))
noncomputable def advM (m:Nat) (p:SetTable.Probe):SetTable.Probe :=
 if p.more > 0 then { p with j:=p.j+1,more:=p.more - 1 } else
 { p with j:=(SetTable.leap m p.i p.perturb).1,more:=SetTable.runEnd m (SetTable.leap m p.i p.perturb).1 - (SetTable.leap m p.i p.perturb).1,i:=(SetTable.leap m p.i p.perturb).1,perturb:=(SetTable.leap m p.i p.perturb).2 }
noncomputable def startM (m:Nat) (h:Int):SetTable.Probe :=
 { j:=SetTable.bits h % (m+1),more:=SetTable.runEnd m (SetTable.bits h % (m+1)) - SetTable.bits h % (m+1),i:=SetTable.bits h % (m+1),perturb:=SetTable.bits h,dummy:=none }
noncomputable def seenM (m:Nat):Nat→SetTable.Probe→Nat
 | 0,_=>0
 | n+1,p=>2^p.j ||| seenM m n (advM m p)
noncomputable def seenL (m:Nat):Nat→Nat→Nat→Nat
 | 0,_,_=>0
 | n+1,i,p=>2^i ||| seenL m n (SetTable.leap m i p).1 (SetTable.leap m i p).2
noncomputable def goodH (m:Nat) (h:Int):Bool:=seenM m (10*SetTable.turns m) (startM m h)==2^(m+1) - 1
noncomputable def goodL (m:Nat) (h:Int):Bool:=seenL m (SetTable.turns m) (SetTable.bits h % (m+1)) (SetTable.bits h)==2^(m+1) - 1
noncomputable def goodP (k:List Nat):Bool:=goodH 7 (tupHash k)&&goodH 31 (tupHash k)&&goodH 127 (tupHash k)&&goodL 31 (tupHash k)&&goodL 127 (tupHash k)
set_option maxRecDepth 100000 in
theorem good_all:(keyTab.all λk=>goodP k)=true:=by decide +kernel
noncomputable def nodupH:List Int→Bool
 | []=>true
 | x::r=>(!r.contains x)&&nodupH r
theorem hash72:nodupH (keyTab.map tupHash)=true:=by decide +kernel
theorem nodup_len {α:Type} [DecidableEq α]:∀ {l m:List α},l.Nodup→(∀x∈l,x∈m)→l.length≤m.length
 | [],_,_,_=>Nat.zero_le _
 | a::r,m,hn,h=>by
  obtain⟨h1,h2⟩:=List.nodup_cons.mp hn
  have ha:a∈m:=h a List.mem_cons_self
  have hr:r.length≤(m.erase a).length:=nodup_len h2 λx hx=>(List.mem_erase_of_ne (λ(e:x=a)=>h1 (by rw[←e];exact hx))).mpr (h x (List.mem_cons_of_mem _ hx))
  rw[List.length_erase_of_mem ha] at hr
  have:0 < m.length:=List.length_pos_of_mem ha
  rw[List.length_cons];lia
theorem full_len {m:Nat} {l:List Nat} (h:∀j,(2^(m+1) - 1).testBit j=true→j∈l):m+1≤l.length:=by
 have:=nodup_len (l:=List.range (m+1)) (m:=l) List.nodup_range λx hx=>h x (by rw[Nat.testBit_two_pow_sub_one];simpa using hx)
 simpa using this
theorem advance_eq (t:SetTable) (p:SetTable.Probe):t.advance p=advM t.mask p:=by
 unfold SetTable.advance advM;rfl
theorem start_eq (t:SetTable) (h:Int):t.probeStart h=startM t.mask h:=rfl
theorem adv_dummy (m:Nat) (p:SetTable.Probe):(advM m p).dummy=p.dummy:=by unfold advM;split<;>rfl
theorem has_nil (j:Nat):SetTable.has #[] j=false:=rfl
theorem slot_two {t:SetTable} (hd:t.dummies=#[]) (j:Nat):t.slot j=.empty∨∃i,t.slot j=.live i∧i < t.place.size∧j∈t.place.toList:=by
 unfold SetTable.slot
 rw[hd]
 dsimp only
 by_cases e:(t.place[SetTable.below t.place j]?==some j)=true
 ·rw[if_pos e]
  have e':t.place[SetTable.below t.place j]?=some j:=by simpa using e
  obtain⟨hi,hv⟩:=Array.getElem?_eq_some_iff.mp e'
  refine .inr ⟨_,rfl,hi,?_⟩
  rw[←hv];exact Array.mem_toList_iff.mpr (Array.getElem_mem hi)
 ·rw[if_neg e,has_nil];exact .inl rfl
theorem probe_go {t:SetTable} (hd:t.dummies=#[]) {hashAt:Nat→Int} {h:Int} (hne:∀i,i < t.place.size→hashAt i≠h):∀(fuel:Nat) (p:SetTable.Probe),p.dummy=none →
 (∃j,SetTable.probe.go t hashAt h fuel p=some (.empty j none))∨∀j,(seenM t.mask fuel p).testBit j=true→j∈t.place.toList
 | 0,p,_=>.inr λj hj=>by rw[seenM,Nat.zero_testBit] at hj;cases hj
 | fuel+1,p,hp=>by
  unfold SetTable.probe.go
  rcases slot_two hd p.j with e | ⟨i,e,hi,hm⟩
  ·rw[e];exact .inl ⟨p.j,by rw[hp]⟩
  ·rw[e]
   have e1:(hashAt i==h)=false:=by simpa using hne i hi
   simp only[e1,Bool.false_eq_true,if_false]
   rw[advance_eq]
   rcases probe_go hd hne fuel (advM t.mask p) (by rw[adv_dummy];exact hp) with ⟨j,q⟩ | q
   ·exact .inl ⟨j,q⟩
   ·refine .inr λj hj=>?_
    rw[seenM,Nat.testBit_or,Bool.or_eq_true] at hj
    rcases hj with z | z
    ·rw[Nat.testBit_two_pow] at z
     have:p.j=j:=by simpa using z
     exact this▸hm
    ·exact q j z
theorem probe_free {t:SetTable} (hd:t.dummies=#[]) {hashAt:Nat→Int} {h:Int} (hne:∀i,i < t.place.size→hashAt i≠h) (hg:goodH t.mask h=true) (hf:t.place.size≤t.mask) :
 ∃j,t.probe hashAt h (t.probeStart h)=some (.empty j none):=by
 unfold SetTable.probe
 rw[start_eq]
 rcases probe_go hd hne (10*SetTable.turns t.mask) (startM t.mask h) rfl with q | q
 ·exact q
 ·exfalso
  have e:seenM t.mask (10*SetTable.turns t.mask) (startM t.mask h)=2^(t.mask+1) - 1:=by simpa[goodH] using hg
  rw[e] at q
  have:=full_len q
  rw[Array.length_toList] at this
  lia
theorem free_some {m:Nat} {owner:Array (Option Nat)}:∀(fuel i p:Nat),(∃j,SetTable.layClean.free m owner fuel i p=some j∧(owner.getD j (some 0)).isNone=true)∨∀j,(seenL m fuel i p).testBit j=true→(owner.getD j (some 0)).isNone=false
 | 0,i,p=>.inr λj hj=>by rw[seenL,Nat.zero_testBit] at hj;cases hj
 | fuel+1,i,p=>by
  unfold SetTable.layClean.free
  cases e:(List.range (SetTable.runEnd m i+1 - i)).find? (λk=>(owner.getD (i+k) (some 0)).isNone) with
  | some k=>exact .inl ⟨i+k,rfl,List.find?_some (p:=λk=>(owner.getD (i+k) (some 0)).isNone) e⟩
  | none =>
   dsimp only
   have h0:(owner.getD i (some 0)).isNone=false:=by
    have hr:0 < SetTable.runEnd m i+1 - i:=by unfold SetTable.runEnd;split<;>lia
    have:=List.find?_eq_none.mp e 0 (List.mem_range.mpr hr)
    simpa[Option.isSome_iff_ne_none] using this
   rcases free_some fuel (SetTable.leap m i p).1 (SetTable.leap m i p).2 with q | q
   ·exact .inl q
   ·refine .inr λj hj=>?_
    rw[seenL,Nat.testBit_or,Bool.or_eq_true] at hj
    rcases hj with z | z
    ·rw[Nat.testBit_two_pow] at z
     have:i=j:=by simpa using z
     exact this▸h0
    ·exact q j z
noncomputable def taken (m:Nat) (owner:Array (Option Nat)):List (Nat×Nat):=(List.range (m+1)).filterMap λj=>(owner.getD j none).map (j,·)
theorem taken_len_set {m:Nat} {owner:Array (Option Nat)} {j k:Nat} (hz:owner.size=m+1) (hj:j < m+1) (hn:owner.getD j none=none) :
 (taken m (owner.setIfInBounds j (some k))).length=(taken m owner).length+1:=by
 have key:∀(l:List Nat),l.Nodup→(l.filterMap λi=>((owner.setIfInBounds j (some k)).getD i none).map (i,·)).length=(l.filterMap λi=>(owner.getD i none).map (i,·)).length+if j∈l then 1 else 0:=by
  intro l
  induction l with
  | nil=>intro _;rfl
  | cons a r ih =>
   intro hnd
   obtain⟨h1,h2⟩:=List.nodup_cons.mp hnd
   have ih:=ih h2
   by_cases e:j=a
   ·subst e
    have e1:(owner.setIfInBounds j (some k)).getD j none=some k:=by simp[Array.getD_eq_getD_getElem?,Array.getElem?_setIfInBounds,hz,hj]
    rw[List.filterMap_cons_some (b:=(j,k)) (by rw[e1];rfl),List.filterMap_cons_none (by rw[hn];rfl),List.length_cons,ih,if_neg h1,if_pos List.mem_cons_self]
   ·have e1:(owner.setIfInBounds j (some k)).getD a none=owner.getD a none:=by simp[Array.getD_eq_getD_getElem?,Array.getElem?_setIfInBounds,e]
    have e2:(j∈a::r)↔j∈r:=by simp[e]
    cases e3:owner.getD a none with
    | none=>rw[List.filterMap_cons_none (by rw[e1,e3];rfl),List.filterMap_cons_none (by rw[e3];rfl),ih];simp only[e2]
    | some v=>rw[List.filterMap_cons_some (b:=(a,v)) (by rw[e1,e3];rfl),List.filterMap_cons_some (b:=(a,v)) (by rw[e3];rfl),List.length_cons,List.length_cons,ih];simp only[e2];lia
 have:=key (List.range (m+1)) List.nodup_range
 rw[if_pos (List.mem_range.mpr hj)] at this
 exact this
theorem taken_lt_set {m:Nat} {owner:Array (Option Nat)} {j k:Nat} (hk:∀q∈taken m owner,q.2 < k):∀q∈taken m (owner.setIfInBounds j (some k)),q.2 < k+1:=by
 intro q hq
 obtain⟨i,hi,hv⟩:=List.mem_filterMap.mp hq
 cases e:(owner.setIfInBounds j (some k)).getD i none with
 | none=>rw[e] at hv;cases hv
 | some v =>
  rw[e] at hv;cases hv
  show v < k+1
  by_cases z:j=i
  ·subst z
   rw[Array.getD_eq_getD_getElem?,Array.getElem?_setIfInBounds] at e
   simp only[if_true] at e
   split at e
   ·simp at e;lia
   ·simp at e
  ·have e1:owner.getD i none=some v:=by rw[←e];simp[Array.getD_eq_getD_getElem?,Array.getElem?_setIfInBounds,z]
   have:=hk (i,v) (List.mem_filterMap.mpr ⟨i,hi,by rw[e1];rfl⟩)
   exact Nat.lt_succ_of_lt this
theorem all_taken {m:Nat} {owner:Array (Option Nat)} (hz:owner.size=m+1) (h:∀j,(2^(m+1) - 1).testBit j=true→(owner.getD j (some 0)).isNone=false):m+1≤(taken m owner).length:=by
 have key:∀(l:List Nat),(∀j∈l,j < m+1)→(l.filterMap λi=>(owner.getD i none).map (i,·)).length=l.length:=by
  intro l
  induction l with
  | nil=>intro _;rfl
  | cons a r ih =>
   intro hl
   have ha:=hl a List.mem_cons_self
   have h1:=h a (by rw[Nat.testBit_two_pow_sub_one];simpa using ha)
   have e:owner.getD a none=owner.getD a (some 0):=by simp[Array.getD_eq_getD_getElem?,hz,ha]
   cases e2:owner.getD a (some 0) with
   | none=>rw[e2] at h1;cases h1
   | some v=>rw[List.filterMap_cons_some (b:=(a,v)) (by rw[e,e2];rfl),List.length_cons,List.length_cons,ih λj hj=>hl j (List.mem_cons_of_mem _ hj)]
 have:=key (List.range (m+1)) λj hj=>List.mem_range.mp hj
 rw[List.length_range] at this
 exact Nat.le_of_eq this.symm
noncomputable def layStep (m:Nat) (acc:Option (Array (Option Nat)×Nat)) (h:Int):Option (Array (Option Nat)×Nat):=do
 let (owner,k) ←acc
 let j ←SetTable.layClean.free m owner (SetTable.turns m) (SetTable.bits h % (m+1)) (SetTable.bits h)
 pure (owner.setIfInBounds j (some k),k+1)
theorem lay_go {m:Nat}:∀(hs:List Int) (owner:Array (Option Nat)) (k:Nat),(∀h∈hs,goodL m h=true)→owner.size=m+1→(taken m owner).length=k→(∀q∈taken m owner,q.2 < k)→k+hs.length≤m →
 ∃owner',hs.foldl (layStep m) (some (owner,k))=some (owner',k+hs.length)∧(taken m owner').length=k+hs.length∧∀q∈taken m owner',q.2 < k+hs.length
 | [],owner,k,_,_,hl,hk,_=>⟨owner,rfl,hl,hk⟩
 | h::r,owner,k,hg,hz,hl,hk,hr=>by
  rw[List.length_cons] at hr
  rcases free_some (m:=m) (owner:=owner) (SetTable.turns m) (SetTable.bits h % (m+1)) (SetTable.bits h) with ⟨j,e,hn⟩ | q
  ·have hj:j < m+1:=by
    rcases Nat.lt_or_ge j (m+1) with z | z
    ·exact z
    ·rw[Array.getD_eq_getD_getElem?,Array.getElem?_eq_none (by lia)] at hn;cases hn
   have hn':owner.getD j none=none:=by
    have e0:owner.getD j none=owner.getD j (some 0):=by simp[Array.getD_eq_getD_getElem?,hz,hj]
    rw[e0];simpa using hn
   obtain⟨o',h1,h2,h3⟩:=lay_go r (owner.setIfInBounds j (some k)) (k+1) (λx hx=>hg x (List.mem_cons_of_mem _ hx)) (by rw[Array.size_setIfInBounds];exact hz) (by rw[taken_len_set hz hj hn',hl]) (taken_lt_set hk) (by lia)
   refine⟨o',?_,?_,?_⟩
   ·rw[List.foldl_cons,show layStep m (some (owner,k)) h=some (owner.setIfInBounds j (some k),k+1) from by unfold layStep;rw[show (some (owner,k)>>=_)=_ from rfl];simp[e],h1,List.length_cons];congr 2;lia
   ·rw[h2,List.length_cons];lia
   ·intro q hq;rw[List.length_cons];have:=h3 q hq;lia
  ·exfalso
   have e:seenL m (SetTable.turns m) (SetTable.bits h % (m+1)) (SetTable.bits h)=2^(m+1) - 1:=by simpa[goodL] using hg h List.mem_cons_self
   rw[e] at q
   have:=all_taken hz q
   lia
theorem laid_some {m f mv:Nat} {led pl:Bool} {hs:Array Int} (hg:∀h∈hs.toList,goodL m h=true) (hr:hs.size≤m) :
 ∃pls ord,SetTable.laid m f mv led pl hs=some ({ mask:=m,place:=pls,dummies:=#[],finger:=f,led:=led,moves:=mv,plain:=pl },ord)∧pls.size=hs.size∧ord.size=hs.size∧∀i∈ord.toList,i < hs.size:=by
 have hz:(Array.replicate (m+1) (none:Option Nat)).size=m+1:=Array.size_replicate
 have ht:taken m (Array.replicate (m+1) none)=[]:=by
  unfold taken
  rw[List.filterMap_eq_nil_iff]
  intro j hj
  have:(Array.replicate (m+1) (none:Option Nat)).getD j none=none:=by
   rw[Array.getD_eq_getD_getElem?,Array.getElem?_replicate];split<;>rfl
  rw[this];rfl
 obtain⟨o',h1,h2,h3⟩:=lay_go hs.toList (Array.replicate (m+1) none) 0 hg hz (by rw[ht];rfl) (by rw[ht];intro q hq;cases hq) (by rw[Array.length_toList];lia)
 rw[Nat.zero_add] at h1 h2 h3
 have h2:(taken m o').length=hs.size:=by rw[h2];exact Array.length_toList
 have e:SetTable.layClean m hs=some o':=by
  unfold SetTable.layClean
  rw[←Array.foldl_toList]
  have:hs.toList.foldl (layStep m) (some (Array.replicate (m+1) none,0))=some (o',hs.size):=h1
  rw[show (hs.toList.foldl (λacc h=>do
   let (owner,k) ←acc
   let j ←SetTable.layClean.free m owner (SetTable.turns m) (SetTable.bits h % (m+1)) (SetTable.bits h)
   pure (owner.setIfInBounds j (some k),k+1)) (some (Array.replicate (m+1) none,0)))=some (o',hs.size) from this]
  rfl
 refine⟨((taken m o').map (·.1)).toArray,((taken m o').map (·.2)).toArray,?_,?_,?_,?_⟩
 ·unfold SetTable.laid
  rw[e];rfl
 ·rw[List.size_toArray,List.length_map,h2]
 ·rw[List.size_toArray,List.length_map,h2]
 ·intro i hi
  obtain⟨q,hq,rfl⟩:=List.mem_map.mp hi
  exact h3 q hq
end Tr
namespace Tr
open PySem PySem.Spec PyProof.Rows L2
noncomputable def inR (k:List Nat):Prop:=k∈keyTab
theorem good_of {k:List Nat} (h:inR k):goodP k=true:=List.all_eq_true.mp good_all k h
theorem nodupH_inj {α:Type} {f:α→Int}:∀ {l:List α} {x y:α},nodupH (l.map f)=true→x∈l→y∈l→f x=f y→x=y
 | a::r,x,y,h,hx,hy,e=>by
  rw[List.map_cons,nodupH,Bool.and_eq_true,Bool.not_eq_true'] at h
  have hn:∀z∈r,f a≠f z:=λz hz q=>by
   have:(r.map f).contains (f a)=true:=List.contains_iff_mem.mpr (q▸List.mem_map.mpr ⟨z,hz,rfl⟩)
   rw[h.1] at this;cases this
  rcases List.mem_cons.mp hx with e1 | hx1
  ·rcases List.mem_cons.mp hy with e2 | hy1
   ·rw[e1,e2]
   ·rw[e1] at e;exact absurd e (hn _ hy1)
  ·rcases List.mem_cons.mp hy with e2 | hy1
   ·rw[e2] at e;exact absurd e.symm (hn _ hx1)
   ·exact nodupH_inj h.2 hx1 hy1 e
theorem pair_inj {x y:List Nat} (hx:inR x) (hy:inR y) (e:tupHash x=tupHash y):x=y:=nodupH_inj (f:=tupHash) hash72 hx hy e
noncomputable def PSet (h:Heap) (S:Addr) (ks:List (List Nat)):Prop :=
 ∃o es ep t,h.get? S=some o∧o.ExactSet∧o.data=.set es ep t∧t.dummies=#[]∧t.place.size=es.size∧es.size=ks.length∧(∀e∈es.toList,e.1∈ks.map λk=>tupHash k)∧(t.mask=7∧es.size < 5∨t.mask=31∧es.size < 19∨t.mask=127)
section
variable {prog:Program} {w:World} {A:Around} {E:Value→Shared→Prop} {s:Shared}
theorem hbv_int {n:Nat} {k:Int} {v:Value} (h:(intKind prog w).is k v=true):hashByValue n v=pure true:=by
 cases v<;>first | (cases n<;>rfl) | (cases h)
theorem wpAny_hbv {ks:List Int} {a:Addr} {Q:Bool→Shared→Prop} (hk:IsTupleKey (intKind prog w) s.heap ks a) (h:Q true s):wpAny (model prog w) A (hashByValue 8 (.ref a)) Q E s:=by
 have hT:=hk.typeIs
 obtain⟨o,items,n,ho,_,hd,hi⟩:=hk
 unfold hashByValue
 refine wpAny_bind (wpAny_specialOf hT F.slot_tuple_hash.lookup ?_)
 show wpAny _ _ (seqItems? (.ref a)>>=_) _ _ s
 refine wpAny_bind (wpAny_seqItems ho hd ?_)
 refine wpAny_bind ?_
 show wpAny _ _ (forIn items _ _) _ _ s
 rw[←Array.forIn_toList]
 refine wpAny_forIn_list _ (λrest r s'=>r.1=none∧s'=s∧∃ks',ItemsAre (intKind prog w) ks' rest) _ ?_ ?_ _ _ ⟨rfl,rfl,ks,hi⟩
 ·rintro v rest r s' ⟨hr,rfl,ks',hall⟩
  cases hall with
  | cons h1 h2 =>
   rw[hbv_int h1]
   refine wpAny_bind (wpAny_pure ?_)
   simp only[Bool.not_true,Bool.false_eq_true,if_false]
   exact wpAny_pure ⟨rfl,rfl,_,h2⟩
 ·rintro⟨r1,r2⟩ s' ⟨hr,rfl,_⟩
  simp only at hr
  subst hr
  exact wpAny_pure h
theorem wpAny_search {a x:Addr} {o:Obj} {es:Array (Int×Value)} {ep:Nat} {t:SetTable} {h:Int} {Q:SetFound→Shared→Prop}
 (ho:s.heap.get? a=some o) (hd:o.data=.set es ep t) (hf:t.fits es.size=true) (hdm:t.dummies=#[]) (hp:t.place.size=es.size) (hm:t.place.size≤t.mask) (hodd:t.mask % 2=1) (hne:∀e∈es.toList,e.1≠h) (hg:goodH t.mask h=true)
 (q:∀j,Q (.free j false) s):wpAny (model prog w) A (setSearch a (.ref x) h (adding:=true)) Q E s:=by
 unfold setSearch setSearchFrom
 refine wpAny_bind (wpAny_setState_of ho hd hf ?_)
 have hgw:t.gaveWay=false:=by unfold SetTable.gaveWay;rw[hodd];rfl
 obtain⟨j,hj⟩:=probe_free (hashAt:=λi=>(es[i]?.map (·.1)).getD 0) hdm (λi hi=>by
  rw[hp] at hi
  rw[Array.getElem?_eq_getElem hi]
  exact hne _ (Array.mem_toList_iff.mpr (Array.getElem_mem hi))) hg hm
 have key:∀f:Nat→Int,f=(λi=>(es[i]?.map (·.1)).getD 0)→t.probe f h (t.probeStart h)=some (.empty j none):=λf e=>by rw[e];exact hj
 dsimp only[Option.getD]
 rw[hgw,key]
 ·exact wpAny_pure (q j)
 ·rfl
end
section
variable {prog:Program} {w:World} {A:Around} {E:Value→Shared→Prop} {s:Shared}
theorem filterMap_all {α β:Type} {f:α→Option β}:∀ {l:List α},(∀x∈l,(f x).isSome=true)→(l.filterMap f).length=l.length
 | [],_=>rfl
 | a::r,h=>by
  cases e:f a with
  | none=>have:=h a List.mem_cons_self;rw[e] at this;cases this
  | some b=>rw[List.filterMap_cons_some e,List.length_cons,List.length_cons,filterMap_all λx hx=>h x (List.mem_cons_of_mem _ hx)]
theorem wpAny_relay {a:Addr} {o:Obj} {es:Array (Int×Value)} {ep:Nat} {t:SetTable} {wanted m:Nat} {Q:Unit→Shared→Prop}
 (ho:s.heap.get? a=some o) (hex:o.ExactSet) (hd:o.data=.set es ep t) (hf:t.fits es.size=true) (hw:SetTable.sizeAbove wanted=m+1) (hmz:m+1≤sizeLine) (hr:es.size≤m) (hg:∀e∈es.toList,goodL m e.1=true)
 (q:∀(es':Array (Int×Value)) (t':SetTable),es'.size=es.size→(∀e∈es'.toList,e∈es.toList)→t'.dummies=#[]→t'.place.size=es'.size→t'.mask=m→Q () { s with heap:=s.heap.update a (Obj.putSet es' t') }) :
 wpAny (model prog w) A (setRelay a wanted) Q E s:=by
 unfold setRelay
 refine wpAny_bind (wpAny_setState_of ho hd hf ?_)
 dsimp only
 have hn:¬SetTable.sizeAbove wanted > sizeLine:=by rw[hw];lia
 rw[if_neg hn]
 obtain⟨pls,ord,h1,h2,h3,h4⟩:=laid_some (m:=m) (f:=t.finger) (mv:=t.movedTo m) (led:=t.led) (pl:=t.plain) (hs:=es.map (·.1)) (λh hh=>by
  rw[Array.toList_map] at hh
  obtain⟨e,he,rfl⟩:=List.mem_map.mp hh
  exact hg e he) (by rw[Array.size_map];exact hr)
 rw[Array.size_map] at h2 h3 h4
 have hl:t.relaid (es.map (·.1)) wanted=some ({ mask:=m,place:=pls,dummies:=#[],finger:=t.finger,led:=t.led,moves:=t.movedTo m,plain:=t.plain },ord):=by
  unfold SetTable.relaid
  rw[hw,Nat.add_sub_cancel];exact h1
 rw[hl]
 have hsz:(ord.filterMap (es[·]?)).size=es.size:=by
  rw[←Array.length_toList,Array.toList_filterMap,filterMap_all,Array.length_toList,h3]
  intro i hi
  rw[Array.getElem?_eq_getElem (h4 i hi)];rfl
 refine wpAny_bind ?_
 show wpAny _ _ (if ((ord.filterMap (es[·]?)).size != es.size)=true then _ else _) _ _ s
 rw[if_neg (by rw[hsz];simp)]
 refine wpAny_pure ?_
 refine wpAny_storeSet_of ho hd (q _ _ hsz (λe he=>?_) rfl (by rw[hsz];exact h2) rfl) (by rw[hsz];lia)
 rw[Array.toList_filterMap] at he
 obtain⟨i,_,hi⟩:=List.mem_filterMap.mp he
 exact Array.mem_toList_iff.mpr (Array.mem_of_getElem? hi)
theorem wpAny_addPair {S x:Addr} {ks:List (List Nat)} {k:List Nat} {Q:Bool→Shared→Prop} (hk:IsTupleKey (intKind prog w) s.heap (k.map λa:Nat=>(a:Int)) x) (hS:PSet s.heap S ks)
 (hin:∀y∈ks,inR y) (hkr:inR k) (hnk:k∉ks) (hlen:ks.length < 72)
 (q:∀h',Heap.SameBut S s.heap h'→PSet h' S (ks++[k])→Q true { s with heap:=h' }) :
 wpAny (model prog w) A (setAddHashed S (.ref x) (tupHash k)) Q E s:=by
 obtain⟨o,es,ep,t,ho,hex,hd,hdm,hp,hn,hel,hm⟩:=hS
 have hgood:=good_of hkr
 unfold goodP at hgood
 simp only[Bool.and_eq_true] at hgood
 obtain⟨⟨⟨⟨g7,g31⟩,g127⟩,l31⟩,l127⟩:=hgood
 have hg:goodH t.mask (tupHash k)=true:=by
  rcases hm with ⟨e,_⟩ | ⟨e,_⟩ | e<;>rw[e]<;>assumption
 have hfl:t.fill=es.size:=by unfold SetTable.fill;rw[hdm,hp];rfl
 have hmk:es.size≤t.mask:=by rcases hm with ⟨e,z⟩ | ⟨e,z⟩ | e<;>rw[e]<;>lia
 have hf:t.fits es.size=true:=by unfold SetTable.fits;rw[hfl,hp];simp[hmk]
 have hodd:t.mask % 2=1:=by rcases hm with ⟨e,z⟩ | ⟨e,z⟩ | e<;>rw[e]
 have hne:∀e∈es.toList,e.1≠tupHash k:=λe he z=>by
  obtain⟨y,hy,e2⟩:=List.mem_map.mp (hel e he)
  have:y=k:=pair_inj (hin y hy) hkr (by rw[e2,z])
  exact hnk (this▸hy)
 have hall:∀(m:Nat),(∀y,inR y→goodL m (tupHash y)=true)→∀(p:Nat),∀e∈(SetTable.insertAt es p (tupHash k,Value.ref x)).toList,goodL m e.1=true∧e.1∈(ks++[k]).map λk=>tupHash k:=by
  intro m hm p e he
  have he:=(SetTable.insertAt_perm es p _).mem_iff.mp he
  rw[Array.toList_push] at he
  rcases List.mem_append.mp he with he | he
  ·obtain⟨y,hy,e2⟩:=List.mem_map.mp (hel e he)
   exact⟨by rw[←e2];exact hm y (hin y hy),by rw[List.map_append];exact List.mem_append_left _ (hel e he)⟩
  ·rw[List.mem_singleton] at he;subst he
   exact⟨hm k hkr,by rw[List.map_append];exact List.mem_append_right _ (List.mem_singleton.mpr rfl)⟩
 have hz:∀p,(SetTable.insertAt es p (tupHash k,Value.ref x)).size=es.size+1:=λp=>by
  rw[←Array.length_toList,(SetTable.insertAt_perm es p _).length_eq,Array.length_toList,Array.size_push]
 have hzp:∀p j,(SetTable.insertAt t.place p j).size=es.size+1:=λp j=>by
  rw[←Array.length_toList,(SetTable.insertAt_perm t.place p _).length_eq,Array.length_toList,Array.size_push,hp]
 have gl31:∀y,inR y→goodL 31 (tupHash y)=true:=λy hy=>by
  have:=good_of hy;unfold goodP at this;simp only[Bool.and_eq_true] at this;exact this.1.2
 have gl127:∀y,inR y→goodL 127 (tupHash y)=true:=λy hy=>by
  have:=good_of hy;unfold goodP at this;simp only[Bool.and_eq_true] at this;exact this.2
 unfold setAddHashed setAddHashedIn
 refine wpAny_holding (wpAny_bind (wpAny_setState_of ho hd hf ?_))
 dsimp only
 rw[show byScan (.ref x) es=false from rfl]
 simp only[Bool.false_eq_true,if_false]
 refine wpAny_bind (wpAny_search ho hd hf hdm hp (by rw[hp];exact hmk) hodd hne hg λj=>?_)
 dsimp only
 refine wpAny_bind (wpAny_setState_of ho hd hf ?_)
 dsimp only
 have fin:∀(t1:SetTable) (p:Nat),t1.dummies=#[]→t1.place.size=es.size+1→t1.mask=t.mask →
  wpAny (model prog w) A (do
   storeSet S (SetTable.insertAt es p (tupHash k,.ref x)) t1
   if (!false && t1.tooFull) = true then do
       setRelay S (SetTable.grown (es.size+1))
       pure true
    else pure true) Q E s:=by
  intro t1 p hd1 hp1 hm1
  refine wpAny_bind (wpAny_storeSet_of ho hd ?_ (by rw[hz,sizeLine_eq];lia))
  have hfl1:t1.fill=es.size+1:=by unfold SetTable.fill;rw[hd1,hp1];rfl
  have hsb1:=Heap.SameBut.update s.heap S (Obj.putSet (SetTable.insertAt es p (tupHash k,Value.ref x)) t1)
  have ho1:(s.heap.update S (Obj.putSet (SetTable.insertAt es p (tupHash k,Value.ref x)) t1)).get? S=some { o with data:=.set (SetTable.insertAt es p (tupHash k,Value.ref x)) (ep+1) t1 }:=by
   have:=Heap.get?_update_self (Obj.putSet (SetTable.insertAt es p (tupHash k,Value.ref x)) t1) ho (by rw[putSet_of _ t1 hd];rfl)
   rw[putSet_of _ t1 hd] at this;exact this
  have hmk1:es.size+1≤t1.mask:=by rw[hm1];rcases hm with ⟨e,z⟩ | ⟨e,z⟩ | e<;>rw[e]<;>lia
  have hf1:t1.fits (SetTable.insertAt es p (tupHash k,Value.ref x)).size=true:=by unfold SetTable.fits;rw[hz,hfl1,hp1];simp[hmk1]
  have relay:∀m,(∀y,inR y→goodL m (tupHash y)=true)→SetTable.sizeAbove (SetTable.grown (es.size+1))=m+1→m≤127→es.size+1≤m→(m=31∧es.size+1 < 19∨m=127) →
   wpAny (model prog w) A (do
    setRelay S (SetTable.grown (es.size+1))
    pure true) Q E { s with heap:=s.heap.update S (Obj.putSet (SetTable.insertAt es p (tupHash k,Value.ref x)) t1) }:=by
   intro m gm hw hm127 hle hmm
   refine wpAny_bind (wpAny_relay (o:={ o with data:=.set (SetTable.insertAt es p (tupHash k,Value.ref x)) (ep+1) t1 }) ho1 hex rfl hf1 hw (by rw[sizeLine_eq];lia) (by rw[hz];exact hle) (λe he=>(hall m gm p e he).1) λes' t' hes hmem hdm' hpl' hmask=>?_)
   have ho2:=Heap.get?_update_self (Obj.putSet es' t') ho1 (by rw[putSet_of es' t' rfl];rfl)
   rw[putSet_of es' t' rfl] at ho2
   refine wpAny_pure (q _ (hsb1.trans (Heap.SameBut.update _ S _)) ⟨_,es',_,t',ho2,hex,rfl,hdm',hpl',by rw[hes,hz,List.length_append,hn];rfl,λe he=>(hall m gm p e (hmem e he)).2,?_⟩)
   rw[hmask,hes,hz]
   rcases hmm with ⟨e,z⟩ | e
   ·exact .inr (.inl ⟨e,z⟩)
   ·exact .inr (.inr e)
  have stay:(t1.mask=7∧es.size+1 < 5∨t1.mask=31∧es.size+1 < 19∨t1.mask=127)→wpAny (model prog w) A (pure true) Q E { s with heap:=s.heap.update S (Obj.putSet (SetTable.insertAt es p (tupHash k,Value.ref x)) t1) }:=by
   intro hmm
   refine wpAny_pure (q _ hsb1 ⟨_,_,_,t1,ho1,hex,rfl,hd1,by rw[hz];exact hp1,by rw[hz,List.length_append,hn];rfl,λe he=>(hall 31 gl31 p e he).2,by rw[hz];exact hmm⟩)
  have htf:t1.tooFull=decide ((es.size+1)*5≥t.mask*3):=by unfold SetTable.tooFull;rw[hfl1,hm1]
  rw[htf]
  rcases hm with ⟨e,z⟩ | ⟨e,z⟩ | e
  ·by_cases c:es.size+1 < 5
   ·rw[if_neg (by rw[e];simp;lia)];exact stay (.inl ⟨by rw[hm1];exact e,c⟩)
   ·have e4:es.size=4:=by lia
    rw[if_pos (by rw[e];simp;lia)]
    exact relay 31 gl31 (by rw[e4];decide) (by lia) (by lia) (.inl ⟨rfl,by lia⟩)
  ·by_cases c:es.size+1 < 19
   ·rw[if_neg (by rw[e];simp;lia)];exact stay (.inr (.inl ⟨by rw[hm1];exact e,c⟩))
   ·have e4:es.size=18:=by lia
    rw[if_pos (by rw[e];simp;lia)]
    exact relay 127 gl127 (by rw[e4];decide) (by lia) (by lia) (.inr rfl)
  ·rw[if_neg (by rw[e];simp;lia)];exact stay (.inr (.inr (by rw[hm1];exact e)))
 have hdp:∀(p:Nat),(SetTable.put t p).1.dummies=#[]:=λp=>by
  unfold SetTable.put;dsimp only;rw[hdm];rfl
 have hmp:∀(p:Nat),(SetTable.put t p).1.mask=t.mask:=λp=>rfl
 have hpp:∀(p:Nat),(SetTable.put t p).1.place.size=es.size+1:=λp=>hzp _ _
 split
 ·refine wpAny_bind (wpAny_hbv hk ?_)
  exact fin _ _ (hdp j) (hpp j) (hmp j)
 ·refine wpAny_bind (wpAny_pure ?_)
  exact fin _ _ (hdp j) (hpp j) (hmp j)
end
section
variable {prog:Program} {w:World} {A:Around} {R:Result→Shared→Prop} {I:Addr} {fp wr:List Addr} {G:Array GenState→Array GenState→Prop} {n:Nat} {P:Nat→Value→Prop} {St:Nat→Shared→Prop}
theorem range_succ_map {α:Type} (f:Nat→α) (i:Nat):(List.range (i+1)).map f=(List.range i).map f++[f i]:=by
 rw[List.range_succ,List.map_append];rfl
theorem set_loopP (W:WalksS prog w A.in1 I fp wr G n P St) (S:Addr) (hSf:S∉fp) (val:Nat→List Nat) (hu:A.in1.units < cLine) (hin:∀i,i < n→inR (val i)) (hnd:∀i,i < n→val i∉(List.range i).map val) (hb:n≤72) :
 ∀(k i:Nat) (s:Shared),n - i=k→i≤n→St i s →
  (∀i v,i < n→P i v→∃x,v=.ref x∧x≠S∧x∉wr∧IsTupleKey (intKind prog w) s.heap ((val i).map λa:Nat=>(a:Int)) x) →
  PSet s.heap S ((List.range i).map val) →
  (∀s',Moved (S::wr) G s s'→PSet s'.heap S ((List.range n).map val)→R (.ok (.ret .none)) s') →
  codeAny (model prog w) A (.builtin "set.update.loop" ⟨[.ref S,.ref I],[]⟩) R s:=by
 have hSw:S∉wr:=λh=>hSf (W.sub _ h)
 have hsub:∀b∈wr,b∈S::wr:=λb hb=>List.mem_cons_of_mem _ hb
 intro k
 induction k with
 | zero =>
  intro i s hk hi hst hT hS hR
  have hin:i=n:=by lia
  subst hin
  refine codeAny_builtin PyProof.Rows.F.entry_set_update_loop ?_
  rw[Around.under_plainId PyProof.Rows.F.plain_set_update_loop _]
  show wpAny _ A.in1 (pyNext (.ref I)>>=_) _ _ s
  refine wpAny_bind (W.done s _ _ hst λs' hm=>?_)
  show wpAny _ A.in1 (ret Value.none) _ _ s'
  exact wpAny_pure (hR s' (hm.mono hsub) (by
   obtain⟨o,es,ep,t,ho,rest⟩:=hS
   exact⟨o,es,ep,t,hm.heap S _ hSw ho,rest⟩))
 | succ k ih =>
  intro i s hk hi hst hT hS hR
  have hlt:i < n:=by lia
  refine codeAny_builtin PyProof.Rows.F.entry_set_update_loop ?_
  rw[Around.under_plainId PyProof.Rows.F.plain_set_update_loop _]
  show wpAny _ A.in1 (pyNext (.ref I)>>=_) _ _ s
  refine wpAny_bind (W.item i s _ _ hlt hst λv s' hP hst' hm=>?_)
  have hT':∀i v,i < n→P i v→∃x,v=.ref x∧x≠S∧x∉wr∧IsTupleKey (intKind prog w) s'.heap ((val i).map λa:Nat=>(a:Int)) x:=λi v hi hv=>by
   obtain⟨x,e1,e2,e3,o,its,m,ho,rest⟩:=hT i v hi hv
   exact⟨x,e1,e2,e3,o,its,m,hm.heap x o e3 ho,rest⟩
  obtain⟨x,rfl,hxS,hxw,hkx⟩:=hT' i v hlt hP
  have hS':PSet s'.heap S ((List.range i).map val):=by
   obtain⟨o,es,ep,tb,ho,rest⟩:=hS
   exact⟨o,es,ep,tb,hm.heap S _ hSw ho,rest⟩
  show wpAny _ A.in1 (holding [.ref x] (setAdd S (.ref x))>>=_) _ _ s'
  refine wpAny_bind (wpAny_holding ?_)
  unfold setAdd
  refine wpAny_holding ?_
  refine wpAny_bind (wpAny_pyHash_tuple hu hkx ?_)
  refine wpAny_addPair (k:=val i) (s:={ s' with toks:=s'.toks+(((val i).map λa:Nat=>(a:Int)).length+1) }) hkx hS' (λy hy=>?_) (hin i hlt) (hnd i hlt) (by rw[List.length_map,List.length_range];lia) λh' hsb hS2=>?_
  ·obtain⟨j,hj,rfl⟩:=List.mem_map.mp hy
   exact hin j (by have:=List.mem_range.mp hj;lia)
  have hSi:PSet h' S ((List.range (i+1)).map val):=by rw[range_succ_map];exact hS2
  refine wpAny_pure ⟨plainId_quiet PyProof.Rows.F.plain_set_update_loop _,ih (i+1) _ (by lia) hlt (W.frame _ s' _ _ hst' (Nat.le_add_right _ _) λb hb o e=>?_) (λi v hi hv=>?_) hSi λs'' hm'' hS''=>?_⟩
  ·rw[hsb.2 b (λh:b=S=>hSf (by rw[←h];exact hb))];exact e
  ·obtain⟨x,e1,e2,e3,o,its,m,ho,rest⟩:=hT' i v hi hv
   exact⟨x,e1,e2,e3,o,its,m,(hsb.2 x e2).trans ho,rest⟩
  ·refine hR s'' (Moved.trans W.gtrans ((hm.mono hsub).then_heap (Nat.le_add_right _ _) λb o hb e=>?_) hm'') hS''
   rw[hsb.2 b (λh:b=S=>hb (by rw[h];exact List.mem_cons_self))];exact e
end
section
variable {prog:Program} {w:World} {A:Around} {E:Value→Shared→Prop} {s:Shared}
set_option maxHeartbeats 3200000 in
theorem call_set_pairs {l:Addr} {items:Array Value} {val:Nat→List Nat} {Q:Value→Shared→Prop} (hh:A.handled=none) (hu:A.units+8 < cLine) (hl:s.heap.IsList l items) (hval:∀i v,items[i]?=some v→∃x,v=.ref x∧IsTupleKey (intKind prog w) s.heap ((val i).map λa:Nat=>(a:Int)) x) (hin:∀i,i < items.size→inR (val i)) (hnd:∀i,i < items.size→val i∉(List.range i).map val) (hb:items.size≤72)
 (h:∀(h':Heap) (tk:Nat),PSet h' s.heap.objs.size ((List.range items.size).map val) →
  (∀b o,b < s.heap.objs.size→s.heap.get? b=some o→h'.get? b=some o)→Q (.ref s.heap.objs.size) { s with heap:=h',toks:=tk }) :
 wpAny (model prog w) A (call (.type "set") [.ref l]) Q E s:=by
 obtain⟨c,tl,hmro⟩:=F.called_set.mro
 have hmade:=F.called_set.made
 have hsub:=F.called_set.sub
 refine wpAny_call (codeAny_of_tree ?_)
 show wpAny _ _ (callAny (.type "set") _) _ _ _
 refine wpAny_pure ⟨Code.quiet_builtin _ (by decide +kernel),codeAny_builtin F.entry_type_call ?_⟩
 rw[Around.under_plain (weight_type_call_type "set" [.ref l] []) rfl]
 have h1:=F.called_set.notType
 have h2:=F.called_set.canCreate
 have hct:=F.typeCall_set_1 (.ref l)
 repeat (any_goals (first | assumption | wp_step))
 refine codeAny_mono (code_set_new_1 (.ref l) (E:=E) (Q₁:=λobj s₁=>∃led:Bool,obj=.ref s.heap.objs.size∧s₁={ s with heap:=s.heap.push { cls:=.type "set", dict:=none,data:=.set #[] 0 (.fresh 0 0 led) } }) λled=>⟨led,rfl,rfl⟩) λr s₁ hr=>?_
 cases r with
 | error e=>exact hr
 | ok fl =>
  cases fl with
  | ret obj =>
   obtain⟨led,rfl,rfl⟩:=hr
   have hS:(s.heap.push { cls:=.type "set", dict:=none,data:=.set #[] 0 (.fresh 0 0 led) }).get? s.heap.objs.size=some { cls:=.type "set", dict:=none,data:=.set #[] 0 (.fresh 0 0 led) }:=Heap.get?_push_size _ rfl
   have hT:Shared.TypeIs { s with heap:=s.heap.push { cls:=.type "set", dict:=none,data:=.set #[] 0 (.fresh 0 0 led) } } (.ref s.heap.objs.size) "set" := ⟨_,hS,rfl⟩
   have hli:=F.called_set.init.lookup
   have hbi:=F.called_set.init.bind (.ref s.heap.objs.size)
   repeat (any_goals (first | assumption | wp_step))
   refine codeAny_mono (codeAny_call_builtin (R:=wants (λr s₂=>r=.none∧∃h' tk,s₂={ s with heap:=h',toks:=tk } ∧
    PSet h' s.heap.objs.size ((List.range items.size).map val) ∧
    (∀b o,b < s.heap.objs.size→s.heap.get? b=some o→h'.get? b=some o)) E) F.called_set.init.plain F.entry_set_init (check_set_init_1 hT ?_)) λr₂ s₂ hr₂=>?_
   ·generalize hpu:s.heap.push { cls:=.type "set", dict:=none,data:=.set #[] 0 (.fresh 0 0 led) }=hp1 at *
    have hz:hp1.objs.size=s.heap.objs.size+1:=by rw[←hpu];exact Heap.size_push ..
    have hold:∀b o,s.heap.get? b=some o→hp1.get? b=some o:=λb o e=>by rw[←hpu];exact Heap.get?_push_of_some _ e
    obtain⟨ol,hol,hcl,nl,hdl⟩:=hl
    obtain⟨ocls,odict,odata,oslots⟩:=ol
    simp only at hcl hdl
    subst hcl;subst hdl
    have hol':hp1.get? l=some { cls:=.type "list", dict:=odict,data:=.seq items nl,slots:=oslots }:=hold _ _ hol
    have hsls:=F.sub_list_set
    have hslf:=F.sub_list_frozenset
    have hne:(Value.type "list" == Value.type "dict")=false:=by decide
    have hl1:hp1.IsList l items:=⟨_,hol',rfl,nl,rfl⟩
    have hlS:l < s.heap.objs.size:=Heap.lt_size hol
    have hneI:l≠hp1.objs.size:=by rw[hz];exact Nat.ne_of_lt (Nat.lt_succ_of_lt hlS)
    unfold Builtin.«set.__init__» noKeywords Builtin.Frozenset.updateFrom
    generalize hPI:pyIter=PI
    wp_walk
    subst hPI
    refine wpAny_pyIter_list hl1 ?_
    refine wpAny_bind (wpAny_runValue ?_)
    have hh3:A.in1.in1.in1.handled=none:=by simp[hh]
    have hu3:A.in1.in1.in1.units < cLine:=by show A.units+1+1+1 < cLine;lia
    refine set_loopP ((Walks.list hh3 _ l hneI items).toS) s.heap.objs.size (by rw[hz];simp only[List.mem_cons,List.mem_singleton,List.not_mem_nil,or_false,not_or];exact⟨Nat.ne_of_lt (Nat.lt_succ_self _),Nat.ne_of_gt hlS⟩) val hu3 hin hnd hb (items.size - 0) 0 _ (by lia) (Nat.zero_le _) ⟨⟨_,Heap.get?_push_size _ rfl,rfl,rfl⟩,(hl1.push _)⟩ ?hT0 ?hS0 ?hR
    case hT0 =>
     intro i v _ hv
     obtain⟨x,rfl,ox,itx,nx,hox,hcx,hdx,hix⟩:=hval i v hv
     have hlx:x < s.heap.objs.size:=Heap.lt_size hox
     refine⟨x,rfl,Nat.ne_of_lt hlx,?_,ox,itx,nx,Heap.get?_push_of_some _ (hold _ _ hox),hcx,hdx,hix⟩
     rw[hz];simp only[List.mem_cons,List.mem_singleton,List.not_mem_nil,or_false,not_or]
     exact Nat.ne_of_lt (Nat.lt_succ_of_lt hlx)
    case hS0 =>
     have hget:(hp1.push { cls:=.type "list_iterator", data:=.fields #[.ref l,.int 0 0] }).get? s.heap.objs.size
      = some { cls:=.type "set", dict:=none,data:=.set #[] 0 (.fresh 0 0 led) }:=Heap.get?_push_of_some _ hS
     exact⟨_,#[],0,_,hget,⟨rfl,rfl,rfl⟩,rfl,rfl,rfl,rfl,(λe he=>by cases he),.inl ⟨rfl,by decide⟩⟩
    case hR =>
     intro s' hm hS'
     obtain⟨h',g',d',tk',os'⟩:=s'
     have eg:g'=s.gens:=hm.gens
     have ed:d'=s.drawn:=hm.drawn
     have eo:os'=s.os:=hm.os
     subst eg;subst ed;subst eo
     show wpAny _ _ _ _ _ _
     refine wpAny_pure ?_
     show wpAny _ _ (ret Value.none) _ _ _
     refine wpAny_pure ⟨rfl,h',tk',rfl,hS',λb o hb e=>?_⟩
     have hb1:b≠s.heap.objs.size:=Nat.ne_of_lt hb
     have hb2:b≠hp1.objs.size:=by rw[hz];exact Nat.ne_of_lt (Nat.lt_succ_of_lt hb)
     exact hm.heap b o (by simp only[List.mem_cons,List.mem_singleton,List.not_mem_nil,or_false,not_or];exact⟨hb1,hb2⟩) (Heap.get?_push_of_some _ (hold _ _ e))
   ·cases r₂ with
    | error e=>exact hr₂
    | ok fl₂ =>
     cases fl₂ with
     | ret r =>
      obtain⟨rfl,h',tk,rfl,hS',hk'⟩:=hr₂
      repeat (any_goals (first | assumption | wp_step))
      exact h _ _ hS' hk'
     | _=>exact hr₂.elim
  | _=>exact hr.elim
end
section
variable {prog:Program} {w:World} {A:Around} {E:Value→Shared→Prop} {s:Shared}
end
noncomputable def SetY (P:Program) (w:World) (p:Addr) (n:Nat):HO:=.ext λh=>∃ks,PSet h p ks∧ks.length=n∧n≤72
noncomputable def PairsAt (K:PySem.W.Frag) (H:Hp):List Addr→List (List Nat)→Prop
 | [],ps=>ps=[]
 | a::r,ps=>∃p q,ps=p::q∧SqT K H a (p.map λn:Nat=>V.int (n:Int))∧PairsAt K H r q
theorem PairsAt.get {K:PySem.W.Frag} {H:Hp}:∀ {as:List Addr} {ps:List (List Nat)} {i:Nat} {a:Addr},PairsAt K H as ps→as[i]?=some a→SqT K H a ((ps.getD i []).map λn:Nat=>V.int (n:Int))
 | [],_,i,a,_,e=>by simp at e
 | b::r,ps,i,a,h,e=>by
  obtain⟨p,q,rfl,h1,h2⟩:=h
  cases i with
  | zero=>simp at e;subst e;exact h1
  | succ i=>exact h2.get (by simpa using e)
theorem PairsAt.length {K:PySem.W.Frag} {H:Hp}:∀ {as:List Addr} {ps:List (List Nat)},PairsAt K H as ps→as.length=ps.length
 | [],_,h=>by cases h;rfl
 | b::r,ps,h=>by
  obtain⟨p,q,rfl,h1,h2⟩:=h
  rw[List.length_cons,List.length_cons,h2.length]
theorem nodupP_at:∀ {ps:List (List Nat)},nodupP ps=true→ps.Nodup
 | [],_=>.nil
 | p::r,h=>by
  rw[nodupP,Bool.and_eq_true,Bool.not_eq_true'] at h
  refine List.nodup_cons.mpr ⟨λhm=>?_,nodupP_at h.2⟩
  have:r.contains p=true:=List.contains_iff_mem.mpr hm
  rw[h.1] at this;cases this
theorem nodup_at {ps:List (List Nat)} (h:ps.Nodup) {i:Nat} (hi:i < ps.length):ps.getD i []∉(List.range i).map λj=>ps.getD j []:=by
 intro hm
 obtain⟨j,hj,e⟩:=List.mem_map.mp hm
 have hj:=List.mem_range.mp hj
 rw[List.getD_eq_getElem?_getD,List.getD_eq_getElem?_getD,List.getElem?_eq_getElem hi,List.getElem?_eq_getElem (by lia:j < ps.length)] at e
 have e:ps[j]'(by lia)=ps[i]:=e
 exact List.pairwise_iff_getElem.mp h j i (by lia) hi hj e
theorem range_getD {ps:List (List Nat)}:(List.range ps.length).map (λj=>ps.getD j [])=ps:=by
 apply List.ext_getElem
 ·simp
 ·intro i h1 h2
  simp[h2]
theorem items_nat {P:Program} {w:World}:∀ {k:List Nat} {its:List Value},Vals (k.map λn:Nat=>V.int (n:Int)) its→ItemsAre (intKind P w) (k.map λa:Nat=>(a:Int)) its
 | [],its,r=>by cases r;exact .nil
 | n::k,its,r=>by
  cases r with
  | cons r1 r =>
   obtain⟨t1,rfl⟩:=(show ∃t,_=Value.int (n:Int) t from r1)
   exact .cons (intKind_is _ _ _ _) (items_nat r)
theorem tupKey {P:Program} {w:World} {h:Heap} {a:Addr} {its:List Value} {k:List Nat} (r:Vals (k.map λn:Nat=>V.int (n:Int)) its) (p:IsTup h a its.toArray):IsTupleKey (intKind P w) h (k.map λa:Nat=>(a:Int)) a:=by
 obtain⟨o,e,hc,n,d⟩:=p
 exact⟨o,its.toArray,n,e,hc,d,items_nat r⟩
noncomputable def SetsOf (K:PySem.W.Frag) (H:Hp) (v:V) (n:Nat):Prop :=
 ∃a as ps,v=.ref a∧SqL K H a (as.map V.ref)∧PairsAt K H as ps∧ps.Nodup∧ps.length≤72∧n=ps.length∧∀p∈ps,inR p
theorem vals_refs:∀ {as:List Addr} {its:List Value},Vals (as.map V.ref) its→its=as.map Value.ref
 | [],its,r=>by cases r;rfl
 | a::as,its,r=>by
  cases r with
  | cons r1 r=>rw[vals_refs r,show _=Value.ref a from r1];rfl
theorem call_setY {X:Cx} (hc:X.calm=true) (hr:X.A.units+64 < cLine):CallR X (.type "set") (λvs H Q=>∃v n,vs=[v]∧SetsOf X.K H v n∧∀p,H p=none→Q (.ref p) (upd H p (SetY X.prog X.w p n))):=by
 intro pins s σ H vs us Q I rv h
 obtain⟨v,n,rfl,hk,q⟩:=h
 obtain⟨u,rfl,ru⟩:=rv.one
 have fin:∀(h':Heap) (tk:Nat),(∃ks,PSet h' s.heap.objs.size ks∧ks.length=n∧n≤72)→(∀b o,b < s.heap.objs.size→s.heap.get? b=some o→h'.get? b=some o)→EP X pins σ Q (.ref s.heap.objs.size) { s with heap:=h',toks:=tk }:=by
  intro h' tk hS hkeep
  have fr:H s.heap.objs.size=none:=I.hok.fresh (Nat.le_refl _)
  refine⟨.ref s.heap.objs.size,_,I.laid (t':=tk) (λb o e=>hkeep b o (Heap.lt_size e) e) (Nat.le_refl _) ?_,rfl,q _ fr⟩
  refine⟨hS,?_,λh1 h2 p1 k=>?_⟩
  ·obtain⟨ks,⟨o,_,_,_,e,_⟩,_⟩:=hS
   exact⟨o,e⟩
  ·obtain⟨ks,⟨o,es,ep,t,e,r⟩,r2⟩:=p1
   exact⟨ks,⟨o,es,ep,t,k o e,r⟩,r2⟩
 obtain⟨a,as,ps,rfl,hS,hP,hnd,hle,rfl,hin⟩:=hk
 cases ru
 obtain⟨its,r,pl,hz⟩:=I.list hS
 have hits:=vals_refs r
 subst hits
 have hl:(as.map Value.ref).toArray.size=ps.length:=by rw[List.size_toArray,List.length_map];exact hP.length
 refine call_set_pairs (val:=λi=>ps.getD i []) (I.ok.hd hc) (by lia) pl.isList (λi v hv=>?_) (λi hi=>?_) (λi hi=>nodup_at hnd (by rw[←hl];exact hi)) (by rw[hl];exact hle) λh' tk hS' hkeep=>?_
 ·have hv':(as.map Value.ref)[i]?=some v:=by simpa using hv
  rw[List.getElem?_map] at hv'
  cases e:as[i]? with
  | none=>rw[e] at hv';cases hv'
  | some x =>
   rw[e] at hv'
   cases hv'
   obtain⟨tits,tr,tp,_⟩:=I.tuple (hP.get e)
   exact⟨x,rfl,tupKey tr tp⟩
 ·rw[hl] at hi
  show inR (ps.getD i [])
  rw[List.getD_eq_getElem?_getD,List.getElem?_eq_getElem hi]
  exact hin _ (List.getElem_mem hi)
 ·rw[hl,range_getD] at hS'
  exact fin h' tk (⟨ps,hS',rfl,hle⟩) hkeep
theorem call_lenY {X:Cx}:CallR X (.builtin "len") (λvs H Q=>∃p n,vs=[.ref p]∧H p=some (SetY X.prog X.w p n)∧Q (.int (n:Nat)) H):=by
 intro pins s σ H vs us Q I rv h
 obtain⟨p,n,rfl,hH,q⟩:=h
 obtain⟨u,rfl,ru⟩:=rv.one
 cases ru
 obtain⟨hz,_⟩:=I.hok p _ hH
 obtain⟨ks,⟨o,es,ep,t,e,hex,hd,hdm,hp,hn,_,hm⟩,hl,hle⟩:=hz
 have hfl:t.fill=es.size:=by unfold SetTable.fill;rw[hdm,hp];rfl
 have hmk:es.size≤t.mask:=by rcases hm with ⟨e,z⟩ | ⟨e,z⟩ | e<;>rw[e]<;>lia
 have hf:t.fits es.size=true:=by unfold SetTable.fits;rw[hfl,hp];simp[hmk]
 refine call_len_set e hex hd hf (by lia) ?_
 exact⟨.int (n:Nat),H,I.kept (t':=s.toks+1+1) (λb o e=>e),⟨_,by rw[hn,hl]⟩,q⟩
end Tr
namespace Tr
open PySem PySem.Spec PyProof.Rows L2 PySem.SeqAt
end Tr
namespace Tr
open PySem PySem.Spec PyProof.Rows L2
theorem kv_get {ps:List (Key×V)} {vs:List (Key×Value)} (r:KV ps vs) {i:Nat} {k:Key} {v:V} (h:ps[i]?=some (k,v)):∃u,vs[i]?=some (k,u):=by
 have e:=congrArg (λl=>l[i]?) r.keys
 simp only[List.getElem?_map,h] at e
 cases hv:vs[i]? with
 | none=>rw[hv] at e;cases e
 | some q =>
  rw[hv] at e
  injection e with e
  exact⟨q.2,by rw[show k=q.1 from e]⟩
theorem key_rel {P:Program} {w:World} {k:Key} {u:Value} (h:(mixKind P w).is k u=true):RelV (kV k) u:=by
 rcases keyIs_shape h with ⟨i,t,rfl,rfl⟩ | ⟨x,t,rfl,rfl⟩
 ·exact⟨t,rfl⟩
 ·exact⟨t,rfl⟩
theorem freeze {X:Cx} {pins:List (Addr×Obj)} {σ:L2.St} {H:Hp} {s:Shared} {a:Addr} {ps:List (Key×V)} (I:Inv X pins σ H s) (h:H a=some (.dK ps)) :
 ∃o es ep,o.data=.dict es ep∧Inv X pins σ (L2.upd H a (.frz o (.dK ps))) s:=by
 have hk:=(show ObjOk X.prog X.w H s.heap a (.dK ps) from I.hok a _ h)
 obtain⟨e2,e3,vs,e4,o,es,ep,g1,g2,g3,g4⟩:=id hk
 have ne:∀ {b u},H b=some u→u≠.dK ps→b≠a:=λx1 x2 z=>by rw[z,h] at x1;cases x1;exact x2 rfl
 refine⟨o,es,ep,g3,?_⟩
 refine I.step (h':=s.heap) (g':=s.gens) (d':=s.drawn) (t':=s.toks) (ch:=[]) (λb hb=>by cases hb) (λb u _ _ _ x1 _=>x1) (λb u _ _ _ x1 _=>⟨u.slots,x1⟩) (λb u _ x1 x2=>?_) (λb u _ x1=>⟨u,x1⟩) (λb xs x1=>?_) (λb v w x1=>?_) (λb ps x1=>⟨#[],?_⟩) (λm x1=>x1) (λb v x1=>?_) I.bare
 ·rw[upd_ne (λz=>by rw[z,h] at x2;cases x2)];exact x2
 ·rw[upd_ne (ne x1 (λz=>by cases z))];exact x1
 ·rw[upd_ne (ne x1 (λz=>by cases z))];exact x1
 ·rw[upd_ne (ne x1 (λz=>by cases z))];simpa using x1
 ·by_cases z:b=a
  ·rw[z,upd_same] at x1
   cases x1
   rw[z]
   exact⟨g1,e2,e3,vs,e4,o,es,ep,g1,g2,g3,g4⟩
  ·rw[upd_ne z] at x1
   exact (I.hok b v x1).stay (λc u _ y1=>y1) (λc y1=>by rw[upd_ne (ne y1 (λz=>by cases z))];exact y1) λc xs y1=>by rw[upd_ne (ne y1 (λz=>by cases z))];exact y1
noncomputable def RawD (h:Heap) (d:Addr) (es:Array DictEntry) (ep:Nat):Prop:=∃o,h.get? d=some o∧o.ExactDict∧o.data=.dict es ep
section
variable {prog:Program} {w:World} {A:Around} {E:Value→Shared→Prop} {s:Shared} {d it:Addr} {es:Array DictEntry} {ep i:Nat}
theorem RawD.ty (h:RawD s.heap d es ep):s.TypeIs (.ref d) "dict" := let ⟨o,a,b,_⟩:=h;⟨o,a,b.1⟩
theorem raw_iter {Q:Value→Shared→Prop} (nd:(d==sysModules)=false) (h:RawD s.heap d es ep)
 (q:Q (.ref s.heap.objs.size) { s with heap:=s.heap.push { cls:=.type "dict_keyiterator", data:=.fields #[.ref d,.int 0 0,.int es.size 0,.int ep 0] } }):wpAny (model prog w) A (pyIter (.ref d)) Q E s:=by
 have ty:=h.ty
 obtain⟨o,g1,g2,g3⟩:=h
 apply wpAny_pyIter_slot ty F.slot_dict_iter
 apply wpAny_call_entry F.slot_dict_iter ty F.entry_dict_iter _ (F.args_dict_iter_1 _)
 unfold Builtin.«dict.__iter__»;apply wpAny_bind;unfold Builtin.Dict.dictSlotNone;apply wpAny_bind;apply wpAny_notOrdered_dict ty
 apply (wpAny_pure _:wpAny _ _ (pure (Value.ref d)) _ _ s);show wpAny _ _ (Builtin.Dict.showsAll d>>=_) _ _ s
 unfold Builtin.Dict.showsAll;rw[if_neg (by rw[nd];exact Bool.false_ne_true)];apply wpAny_bind;apply wpAny_pure
 apply wpAny_bind;apply wpAny_dictEntries g1 g3;apply wpAny_bind;apply wpAny_dictEpoch g1 g3
 refine wpAny_bind (wpAny_newObj_type ?_ (by size_fits));apply wpAny_pure
 exact⟨_,rfl, "dict_keyiterator", _,⟨_,Heap.get?_push_size _ rfl,rfl⟩,F.slot_dict_keyiterator_next.lookup,by simpa[rawInt] using q⟩
theorem raw_next {Q:Option Value→Shared→Prop} {en:DictEntry} (hi:s.heap.IsKeyIter it d i es.size ep) (h:RawD s.heap d es ep) (hx:es[i]?=some en)
 (q:∀h',h'.IsKeyIter it d (i+1) es.size ep→Heap.SameBut it s.heap h'→Q (some en.key) { s with heap:=h' }):wpAny (model prog w) A (pyNext (.ref it)) Q E s:=by
 obtain⟨u,k1,k2,k3⟩:=id hi
 obtain⟨o,g1,g2,g3⟩:=h
 unfold pyNext;apply wpAny_bind;apply wpAny_attempt;apply wpAny_callSpecial?_slot (name:=Str.ofString "__next__") hi.typeIs F.slot_dict_keyiterator_next
 apply wpAny_call_entry F.slot_dict_keyiterator_next hi.typeIs F.entry_dict_keyiterator_next _ (F.args_dict_keyiterator_next_1 _)
 apply wpAny_bind;apply wpAny_pure;apply wpAny_bind;apply wpAny_bind
 first | (apply wpAny_bind;apply wpAny_typeNameOfWhole_keyiter hi.typeIs;apply wpAny_pure) | (apply wpAny_bind;apply wpAny_typeNameOf_keyiter hi.typeIs;apply wpAny_pure)
 apply wpAny_bind;apply wpAny_fieldsOf k1 k3
 have no:Builtin.Dict_items.ownsTuple "dict_keyiterator" = false:=by decide
 simp only[no,Bool.false_eq_true,if_false];show wpAny _ _ (if (Value.ref d==Value.none)=true then _ else _) _ _ s
 rw[if_neg (show ¬((Value.ref d==Value.none)=true) from Bool.false_ne_true)];apply wpAny_bind;apply wpAny_pure
 apply wpAny_bind;apply wpAny_dictEntries g1 g3;rw[if_neg (by simp)];apply wpAny_bind;apply wpAny_pure
 apply wpAny_bind;apply wpAny_dictEpoch g1 g3;rw[if_neg (by simp)];apply wpAny_pure
 simp only[show ¬((i:Int) < 0) from by lia,if_false,Int.toNat_natCast,hx]
 apply wpAny_bind
 first | (apply wpAny_bind;apply wpAny_typeNameOfWhole_keyiter hi.typeIs;apply wpAny_pure) | (apply wpAny_bind;apply wpAny_typeNameOf_keyiter hi.typeIs;apply wpAny_pure)
 apply wpAny_bind;apply wpAny_isOneOf_keyiter hi.typeIs;show wpAny _ _ (setField (.ref it) 1 (rawInt ((i:Int)+1))>>=_) _ _ s
 apply wpAny_bind;apply wpAny_setField k1 k3 (by simp)
 have hi2:(s.heap.update it (Obj.mapFields (·.setIfInBounds 1 (rawInt ((i:Int)+1))))).IsKeyIter it d (i+1) es.size ep:=⟨_,Heap.get?_update_self _ k1 (Obj.isFreed_of_fields (Obj.data_mapFields k3 _)),(Obj.cls_mapFields ..).trans k2,by rw[Obj.data_mapFields k3];simp[rawInt]⟩
 apply wpAny_bind;apply wpAny_holding;apply wpAny_bind
 apply wpAny_isOneOf_keyiter (s:={ s with heap:=s.heap.update it (Obj.mapFields (·.setIfInBounds 1 (rawInt ((i:Int)+1)))) }) hi2.typeIs
 show wpAny _ _ (pure en.key) _ _ _;apply wpAny_pure;apply wpAny_pure;exact⟨_,rfl,wpAny_pure (q _ hi2 (Heap.SameBut.update ..))⟩
theorem raw_end {Q:Option Value→Shared→Prop} (hh:A.handled=none) (hi:s.heap.IsKeyIter it d i es.size ep) (h:RawD s.heap d es ep) (hx:es[i]?=none)
 (q:∀h',Heap.ExtBut it s.heap h'→Q none { s with heap:=h' }):wpAny (model prog w) A (pyNext (.ref it)) Q E s:=by
 obtain⟨u,k1,k2,k3⟩:=id hi
 obtain⟨o,g1,g2,g3⟩:=h
 unfold pyNext;apply wpAny_bind;apply wpAny_attempt;apply wpAny_callSpecial?_slot (name:=Str.ofString "__next__") hi.typeIs F.slot_dict_keyiterator_next
 apply wpAny_call_entry F.slot_dict_keyiterator_next hi.typeIs F.entry_dict_keyiterator_next _ (F.args_dict_keyiterator_next_1 _)
 apply wpAny_bind;apply wpAny_pure;apply wpAny_bind;apply wpAny_bind
 first | (apply wpAny_bind;apply wpAny_typeNameOfWhole_keyiter hi.typeIs;apply wpAny_pure) | (apply wpAny_bind;apply wpAny_typeNameOf_keyiter hi.typeIs;apply wpAny_pure)
 apply wpAny_bind;apply wpAny_fieldsOf k1 k3
 have no:Builtin.Dict_items.ownsTuple "dict_keyiterator" = false:=by decide
 simp only[no,Bool.false_eq_true,if_false];show wpAny _ _ (if (Value.ref d==Value.none)=true then _ else _) _ _ s
 rw[if_neg (show ¬((Value.ref d==Value.none)=true) from Bool.false_ne_true)];apply wpAny_bind;apply wpAny_pure
 apply wpAny_bind;apply wpAny_dictEntries g1 g3;rw[if_neg (by simp)];apply wpAny_bind;apply wpAny_pure
 apply wpAny_bind;apply wpAny_dictEpoch g1 g3;rw[if_neg (by simp)];apply wpAny_pure
 simp only[show ¬((i:Int) < 0) from by lia,if_false,Int.toNat_natCast,hx]
 apply wpAny_bind
 first | (apply wpAny_bind;apply wpAny_typeNameOfWhole_keyiter hi.typeIs;apply wpAny_pure) | (apply wpAny_bind;apply wpAny_typeNameOf_keyiter hi.typeIs;apply wpAny_pure)
 show wpAny _ _ (setField (.ref it) 0 .none>>=_) _ _ s;apply wpAny_bind;apply wpAny_setField k1 k3 (by simp)
 show wpAny _ _ (newExc (.type "StopIteration") []>>=_) _ _ _;apply wpAny_bind;simp only[newExc,newTuple]
 refine wpAny_bind (wpAny_newObj_type ?_ (by size_fits));refine wpAny_bind (m:=firstArgMember _ _) (wpAny_of_eq (a:=Value.none) (by first | rfl | (simp only[firstArgMember];rfl)) ?_)
 refine wpAny_newObj_type ?_ (by size_fits);simp only[raiseNew];apply wpAny_bind;apply wpAny_handled;rw[show A.in1.handled=none from hh]
 refine wpAny_bind (wpAny_pure (wpAny_throw ?_));refine wpAny_bind (wpAny_isInstance (b:=true) (T := "StopIteration") ⟨_,Heap.get?_push_size _ rfl,rfl⟩ isSubtype_stop ?_)
 exact wpAny_pure (q _ (((Heap.SameBut.update ..).extBut.push _).push _))
end
theorem freezeT {X:Cx} {pins:List (Addr×Obj)} {σ:L2.St} {H:Hp} {s:Shared} {a:Addr} {ps:List (List Key×V)} (I:Inv X pins σ H s) (h:H a=some (.dT ps)) :
 ∃o es ep,o.data=.dict es ep∧Inv X pins σ (L2.upd H a (.frz o (.dT ps))) s:=by
 have hk:=(show ObjOk X.prog X.w H s.heap a (.dT ps) from I.hok a _ h)
 obtain⟨e2,e3,xs,e4,o,es,ep,g1,g2,g3,g4⟩:=id hk
 have ne:∀ {b u},H b=some u→u≠.dT ps→b≠a:=λx1 x2 z=>by rw[z,h] at x1;cases x1;exact x2 rfl
 refine⟨o,es,ep,g3,?_⟩
 refine I.step (h':=s.heap) (g':=s.gens) (d':=s.drawn) (t':=s.toks) (ch:=[]) (λb hb=>by cases hb) (λb u _ _ _ x1 _=>x1) (λb u _ _ _ x1 _=>⟨u.slots,x1⟩) (λb u _ x1 x2=>?_) (λb u _ x1=>⟨u,x1⟩) (λb xs x1=>?_) (λb v w x1=>?_) (λb ps x1=>⟨#[],?_⟩) (λm x1=>x1) (λb v x1=>?_) I.bare
 ·rw[upd_ne (λz=>by rw[z,h] at x2;cases x2)];exact x2
 ·rw[upd_ne (ne x1 (λz=>by cases z))];exact x1
 ·rw[upd_ne (ne x1 (λz=>by cases z))];exact x1
 ·rw[upd_ne (ne x1 (λz=>by cases z))];simpa using x1
 ·by_cases z:b=a
  ·rw[z,upd_same] at x1
   cases x1
   rw[z]
   exact⟨g1,e2,e3,xs,KT.keeps e4 λc ys ec=>by rw[upd_ne (ne ec (λz=>by cases z))];exact ec,o,es,ep,g1,g2,g3,g4⟩
  ·rw[upd_ne z] at x1
   exact (I.hok b v x1).stay (λc u _ y1=>y1) (λc y1=>by rw[upd_ne (ne y1 (λz=>by cases z))];exact y1) λc xs y1=>by rw[upd_ne (ne y1 (λz=>by cases z))];exact y1
noncomputable def keysAt (H:Hp) (a:Addr) (o:Obj) (n:Nat) (i:Nat) (x:Option V):Prop :=
 (∃ps:List (Key×V),H a=some (.frz o (.dK ps))∧ps.length=n∧x=(ps[i]?).map λq=>kV q.1) ∨
 (∃ps:List (List Key×V),H a=some (.frz o (.dT ps))∧ps.length=n∧((ps[i]?=none∧x=none)∨∃q b,ps[i]?=some q∧x=some (.ref b)∧H b=some (.tup (q.1.map kV))))
noncomputable def Itk (a:Addr) (o:Obj) (n:Nat):It :=
 ⟨λi H=>(∃ps:List (Key×V),H a=some (.frz o (.dK ps))∧ps.length=n∧i < n)∨∃ps:List (List Key×V),H a=some (.frz o (.dT ps))∧ps.length=n∧i < n,λi H x H'=>H'=H∧keysAt H a o n i (some x),
  λi H=>((∃ps:List (Key×V),H a=some (.frz o (.dK ps))∧ps.length=n)∨∃ps:List (List Key×V),H a=some (.frz o (.dT ps))∧ps.length=n)∧n≤i⟩
section
variable {X:Cx} {pins:List (Addr×Obj)} {σ:L2.St} {H:Hp} {s:Shared} {a:Addr} {o:Obj} {es:Array DictEntry} {ep:Nat}
theorem raw_K {ps:List (Key×V)} (I:Inv X pins σ H s) (h:H a=some (.frz o (.dK ps))) (hd:o.data=.dict es ep):RawD s.heap a es ep∧(a==sysModules)=false∧es.size=ps.length∧∀(i:Nat) (q:Key×V),ps[i]?=some q→∃en:DictEntry,es[i]?=some en∧RelV (kV q.1) en.key:=by
 obtain⟨e1,e2,e3,vs,e4,o',es',ep',g1,g2,g3,g4,g5,g6⟩:=(show ObjOk X.prog X.w H s.heap a (.frz o (.dK ps)) from I.hok a _ h)
 rw[e1] at g1
 cases g1
 rw[hd] at g3
 cases g3
 have hl:=e4.length
 have hs:es.size=ps.length:=by rw[hl,←g5.length];simp
 refine⟨⟨o,e1,g2,hd⟩,e3,hs,λi q hq=>?_⟩
 obtain⟨u,hu⟩:=kv_get e4 (k:=q.1) (v:=q.2) hq
 have hi:i < es.size:=by
  rw[hs]
  by_cases z:i < ps.length
  ·exact z
  ·rw[List.getElem?_eq_none (by lia)] at hq;cases hq
 exact⟨es[i],Array.getElem?_eq_getElem hi,key_rel (g5.get? (e:=es[i]) (by simp[hi]) hu).1⟩
theorem raw_T {ps:List (List Key×V)} (I:Inv X pins σ H s) (h:H a=some (.frz o (.dT ps))) (hd:o.data=.dict es ep):RawD s.heap a es ep∧(a==sysModules)=false∧es.size=ps.length∧∀(i:Nat) (q:List Key×V),ps[i]?=some q→∃(en:DictEntry) (b:Addr),es[i]?=some en∧en.key=.ref b∧H b=some (.tup (q.1.map kV)):=by
 obtain⟨e1,e2,e3,xs,e4,o',es',ep',g1,g2,g3,g4,g5⟩:=(show ObjOk X.prog X.w H s.heap a (.frz o (.dT ps)) from I.hok a _ h)
 rw[e1] at g1
 cases g1
 rw[hd] at g3
 cases g3
 have hl:=Paired.length e4
 have hs:es.size=ps.length:=by rw[hl,←Array.length_toList,g4,List.length_map]
 refine⟨⟨o,e1,g2,hd⟩,e3,hs,λi q hq=>?_⟩
 have get:∀ {l:List (List Key×V)} {m:List (List Key×Addr×Value)},KT H l m→∀ {i:Nat} {q:List Key×V},l[i]?=some q→∃z,m[i]?=some z∧H z.2.1=some (.tup (q.1.map kV)):=by
  intro l m k
  induction k with
  | nil=>intro i q z;simp at z
  | cons hq t ih =>
   intro i q z
   cases i with
   | zero=>cases z;exact⟨_,rfl,hq.2.1⟩
   | succ j=>exact ih (by simpa using z)
 obtain⟨z,hz,ht⟩:=get e4 hq
 refine⟨entryOfKey (tupleKind (mixKind X.prog X.w)) z,z.2.1,?_,rfl,ht⟩
 rw[←Array.getElem?_toList,g4,List.getElem?_map,hz];rfl
end
theorem turn_keys {P:Program} {w:World} {K:PySem.W.Frag} {tg:Expr} {o:Obj} {es:Array DictEntry} {ep:Nat} (hd:o.data=.dict es ep) (a it:Addr) (n:Nat) (hn:es.size=n) :
 Turn P w K tg (Itk a o n) [it] it (λi h=>h.IsKeyIter it a i n ep) where
 mem:=by simp
 obj:=λi h st b hb=>by
  have e:b=it:=by simpa using hb
  subst e
  obtain⟨o,e,c,d⟩:=st
  exact⟨o,e,λv z=>by rw[d] at z;cases z⟩
 keep:=λi h h' st k=>by
  obtain⟨u,h1,h2⟩:=st
  exact⟨u,k it (by simp) u h1,h2⟩
 item:=by
  intro X hP hw hK hc i pins s σ H E I hf st hg
  subst hP hw hK hn
  obtain⟨f0,f1,f2,f3,f4,f5⟩:=hf it (by simp)
  have fin:∀en,RawD s.heap a es ep→es[i]?=some en→(∃x,RelV x en.key∧keysAt H a o es.size i (some x))→wpAny (model X.prog X.w) X.A (pyNext (.ref it)) (λr s1=>∃u,r=some u ∧
   wpAny (model X.prog X.w) X.A (letOwnedTupleGo tg (.ref it) u) (λ_ s2=>∃x H',Inv X pins σ H' s2∧RelV x u∧(Itk a o es.size).yld i H x H'∧s2.heap.IsKeyIter it a (i+1) es.size ep∧∀b∈[it],H' b=none) E s1) E s:=by
   intro en rw' hx ⟨x,r1,r2⟩
   refine raw_next st rw' hx λh' st2 sb=>?_
   have I1:Inv X pins σ H { s with heap:=h' }:=I.turned (t':=s.toks) (λb o hb e=>(sb.2 b hb).trans e) f0 f1 f3 f4 f5
   obtain⟨o',e,c,d⟩:=id st2
   exact⟨_,rfl,go_of (s:={ s with heap:=h' }) e c d (by decide) ⟨x,H,I1,r1,⟨rfl,r2⟩,st2,λb hb=>(hf b hb).1⟩⟩
  rcases hg with ⟨ps,h1,h2,h3⟩ | ⟨ps,h1,h2,h3⟩
  ·obtain⟨x1,x2,x3,x4⟩:=raw_K I h1 hd
   obtain⟨en,y1,y2⟩:=x4 i ps[i] (List.getElem?_eq_getElem (by lia))
   exact fin en x1 y1 ⟨_,y2,.inl ⟨ps,h1,h2,by rw[List.getElem?_eq_getElem (by lia)];rfl⟩⟩
  ·obtain⟨x1,x2,x3,x4⟩:=raw_T I h1 hd
   obtain⟨en,b,y1,y2,y3⟩:=x4 i ps[i] (List.getElem?_eq_getElem (by lia))
   exact fin en x1 y1 ⟨.ref b,by rw[y2];rfl,.inr ⟨ps,h1,h2,.inr ⟨_,b,List.getElem?_eq_getElem (by lia),rfl,y3⟩⟩⟩
 done:=by
  intro X hP hw hK hc i pins s σ H E I hf st hg
  subst hP hw hK hn
  obtain⟨f0,f1,f2,f3,f4,f5⟩:=hf it (by simp)
  obtain⟨hg,hi⟩:=hg
  have rw':RawD s.heap a es ep:=by
   rcases hg with ⟨ps,h1,h2⟩ | ⟨ps,h1,h2⟩
   ·exact (raw_K I h1 hd).1
   ·exact (raw_T I h1 hd).1
  exact raw_end (I.ok.hd hc) st rw' (Array.getElem?_eq_none hi) λh' eb=>⟨rfl,I.turned (t':=s.toks) (λb o hb e=>eb b o hb e) f0 f1 f3 f4 f5⟩
 self:=λ_ _ _ _ _ st h=>wpAny_pyIter_keyiter st h
section
variable {prog:Program} {w:World} {A:Around} {E:Value→Shared→Prop} {s:Shared} {l:Addr} {its:List Value} {n:Nat}
theorem mul_listP {k:Int} {t:Tok} {Q:Value→Shared→Prop} {dd:Option Addr} {sl:Array (Option Value)} (hl:s.heap.get? l=some { cls:=.type "list", dict:=dd,data:=.seq its.toArray n,slots:=sl }) (h1:its.length=1) (hk:0≤k∧k≤1000)
 (h:Q (.ref s.heap.objs.size) { s with heap:=s.heap.push { cls:=.type "list", data:=.seq (List.replicate k.toNat its).flatten.toArray } }):wpAny (model prog w) A (binaryOp .Mult (.ref l) (.int k t)) Q E s:=by
 have hsz:its.toArray.size=1:=by rw[List.size_toArray];exact h1
 have hne:its.toArray.isEmpty=false:=by
  cases its with
  | nil=>cases h1
  | cons _ _=>rfl
 have hf:List.foldl (λx1 x2=>x1++x2) #[] (List.replicate (if its.toArray.isEmpty=true then 0 else k.toNat) its.toArray)=(List.replicate k.toNat its).flatten.toArray:=by
  rw[hne,if_neg Bool.false_ne_true]
  have:=foldl_rep its k.toNat []
  rw[List.nil_append] at this
  exact this
 have ty:s.TypeIs (.ref l) "list" := ⟨_,hl,rfl⟩
 apply wpAny_binaryOp_repeat_ref (T := "list") (U := "int") (by decide) ty (λs'=>typeIs_int s' k t) PySem.noFill_list_mul PySem.F.fills_int_mul PySem.F.slot_int_rmul PySem.repeat_list PySem.F.slot_int_index.lookup
 apply call_meets PySem.F.slot_int_rmul (typeIs_int s k t) PySem.F.entry_int_rmul (PySem.F.args_int_rmul_2 _ _) (lm_int_rmul_list_any k t l its.toArray n dd sl)
 refine⟨hl,rfl,ty,call_meets PySem.F.slot_list_mul ty PySem.F.entry_list_mul (PySem.F.args_list_mul_2 _ _) (lm_list_mul_any l its.toArray n dd sl k t (by simp[Builtin.List.listFitsIndex];lia) (by rw[hsz];lia) (by rw[hsz];simp[Builtin.List.listTooLong,sizeLine];lia)) ⟨hl,?_⟩⟩
 rw[hf]
 exact h
end
section
variable {prog:Program} {w:World} {A:Around} {E:Value→Shared→Prop} {s:Shared} {r:Addr} {a b c:Int} {t u v:Tok} {n:Nat}
theorem collect_rng {Q:List Value→Shared→Prop} (hh:A.handled=none) (hr:IsRange s.heap r a b c t u v) (sm:Builtin.Range.small a b c=true) (hn:Builtin.Range.rangeSize a b c=n) (hl:n≤2^24)
 (q:∀h' tk acc,(∀x o,s.heap.get? x=some o→h'.get? x=some o)→ItemsOf (λi v=>∃t,v=.int (a+i*c) t) acc n→Q acc.toList { s with heap:=h',toks:=tk }):wpAny (model prog w) A (collect (.ref r)) Q E s:=by
 unfold collect;refine wpAny_bind (wpAny_runValue (codeAny_builtin F.entry_proto_collect ?_));rw[Around.under_plainId F.plain_proto_collect _]
 show wpAny _ A.in1 (newList []>>=λl=>again (.builtin "list.__iadd__" ⟨[l,.ref r],[]⟩)) _ _ s;refine wpAny_bind (wpAny_newObj_type ?_)
 refine wpAny_pure ⟨plainId_quiet F.plain_list_iadd _,codeAny_builtin F.entry_list_iadd ?_⟩;rw[Around.under_plainId F.plain_list_iadd _]
 have hS:(s.heap.push { cls:=.type "list", data:=.seq ([]:List Value).toArray }).get? s.heap.objs.size=some { cls:=.type "list", data:=.seq #[] }:=Heap.get?_push_size _ rfl
 have hr2:=Heap.get?_push_of_some { cls:=.type "list", data:=.seq ([]:List Value).toArray } hr
 show wpAny _ A.in1 (Builtin.List.listExtendWith (.ref s.heap.objs.size) (.ref r) (.ref s.heap.objs.size)) _ _ _
 have fin:∀h' tk acc c',(∀x o,x≠s.heap.objs.size→(s.heap.push { cls:=.type "list", data:=.seq ([]:List Value).toArray }).get? x=some o→h'.get? x=some o)→h'.get? s.heap.objs.size=some { cls:=.type "list", dict:=none,data:=.seq acc c',slots:=#[] }→ItemsOf (λi v=>∃t,v=.int (a+i*c) t) acc n →
  wpAny (model prog w) A (load s.heap.objs.size>>=λo=>match o.data with | .seq xs _=>pure xs.toList | _=>unsupported "internal:collect") Q E { s with heap:=h',toks:=tk }:=λh' tk acc c' hk hS' hacc=>by
  refine wpAny_bind (wpAny_load hS' ?_)
  exact wpAny_pure (q h' tk acc (λx o e=>hk x o (Nat.ne_of_lt (Heap.lt_size e)) (Heap.get?_push_of_some _ e)) hacc)
 refine wpAny_mono (wpAny_extend_range (prog:=prog) (w:=w) (A:=A) (R:=λr s'=>r=.ok (.ret (.ref s.heap.objs.size))∧wpAny (model prog w) A (load s.heap.objs.size>>=λo=>match o.data with | .seq xs _=>pure xs.toList | _=>unsupported "internal:collect") Q E s') (s:={ s with heap:=s.heap.push { cls:=.type "list", data:=.seq ([]:List Value).toArray } }) hh hr2 sm hn hl _ _ _ hS λh' tk acc c' hk hS' hacc=>⟨rfl,fin h' tk acc c' hk hS' hacc⟩) (λf s' hf=>?_) (λe s' he=>by cases he.1)
 cases f with
 | done f =>
  obtain⟨e,hf⟩:=hf
  cases e
  exact hf
 | again c' =>
  refine⟨hf.1,codeAny_mono hf.2 λr s' hr=>?_⟩
  obtain⟨e,hr⟩:=hr
  subst e
  exact hr
theorem tup_new_rng (r:Addr) (a b c:Int) (t u v:Tok) (n:Nat) (sm:Builtin.Range.small a b c=true) (hn:Builtin.Range.rangeSize a b c=n) (hl:n≤2^24) (hz:n≤sizeLine) :
 Meets (Builtin.«tuple.__new__» ⟨[.type "tuple", .ref r],[]⟩) (λA R s=>A.handled=none∧IsRange s.heap r a b c t u v∧∀(h':Heap) (tk:Nat) (acc:Array Value),(∀b o,s.heap.get? b=some o→h'.get? b=some o)→ItemsOf (λi v=>∃t,v=.int (a+i*c) t) acc n →
  R (.ok (.ret (.ref h'.objs.size))) { s with heap:=h'.push { cls:=.type "tuple", data:=.seq acc },toks:=tk }) :=
 .of_wp λprog w A R s h=>by
  obtain⟨h1,hr,h⟩:=h
  have e1:=sub_tuple_self
  have e2:=init_tuple_lookup
  have e3:=madeHere_tuple
  have ty:s.TypeIs (.ref r) "range" := ⟨_,hr,rfl⟩
  have h2:A.in1.handled=none:=h1
  wp_walk using wpAny_typeOf ty,collect_rng h2 hr sm hn hl
  intro h' tk acc hk hacc
  show wpAny _ _ (Builtin.Tuple.tupleExact acc.toList.toArray>>=λv=>ret v) _ _ _;unfold Builtin.Tuple.tupleExact
  have e:acc.toList.toArray=acc:=by simp
  refine wpAny_bind (wpAny_newObj_type ?_ (by show acc.toList.toArray.size≤sizeLine;rw[e,hacc.1];exact hz));refine wpAny_pure ⟨_,rfl,?_⟩
  rw[e];exact h h' tk acc hk hacc
theorem call_tup_rng {Q:Value→Shared→Prop} (hh:A.handled=none) (hr:IsRange s.heap r a b c t u v) (sm:Builtin.Range.small a b c=true) (hn:Builtin.Range.rangeSize a b c=n) (hl:n≤2^24) (hz:n≤sizeLine)
 (h:∀(h':Heap) (tk:Nat) (acc:Array Value),(∀b o,s.heap.get? b=some o→h'.get? b=some o)→ItemsOf (λi v=>∃t,v=.int (a+i*c) t) acc n→Q (.ref h'.objs.size) { s with heap:=h'.push { cls:=.type "tuple", data:=.seq acc },toks:=tk }) :
 wpAny (model prog w) A (call (.type "tuple") [.ref r]) Q E s:=by
 apply callType_new F.called_tuple (by decide) (F.typeCall_tuple_1 _) (F.newCall_tuple_1 _) (λobj=>F.args_object_init_2 obj _) F.entry_tuple_new (tup_new_rng r a b c t u v n sm hn hl hz)
 exact⟨hh,hr,λh' tk acc hk hacc=>⟨⟨_,Heap.get?_push_size _ rfl,rfl⟩,h h' tk acc hk hacc⟩⟩
end
theorem call_tupX {X:Cx} (hc:X.calm=true):CallR X (.type "tuple") (λvs H Q=>∃p n,vs=[.ref p]∧H p=some (.rng 0 n) ∧ -(2^62)≤n∧n < 2^62∧n≤1000∧∀l,H l=none→Q (.ref l) (upd H l (.tup ((List.range n.toNat).map λi:Nat=>V.int (0+(i:Nat)))))):=by
 intro pins s σ H vs us Q I rv h
 obtain⟨p,n,rfl,hH,h1,h2,h3,q⟩:=h
 obtain⟨u,rfl,ru⟩:=rv.one
 cases ru
 obtain⟨t,u,v,hr⟩:=I.hok p _ hH
 have hz:n.toNat≤sizeLine:=by rw[sizeLine_eq];lia
 refine call_tup_rng (n:=n.toNat) (I.ok.hd hc) hr (small_one (by lia) (by lia) h1 h2) (by rw[rangeSize_one];split<;>lia) (by lia) hz λh' tk acc hk hacc=>?_
 have I1:=I.kept (t':=tk) hk
 have sz:({ s with heap:=h',toks:=tk }:Shared).heap.objs.size=h'.objs.size:=rfl
 refine⟨.ref h'.objs.size,_,I1.laid (t':=tk) (λb o e=>Heap.get?_push_of_some _ e) (Nat.le_refl _) ?_,rfl,q _ (I1.hok.fresh (Nat.le_refl _))⟩
 refine⟨by simpa using hz,acc.toList,vals_range (by simpa using hacc.1) (λj v hv=>?_),⟨_,Heap.get?_push_size _ rfl,rfl,0,by simp⟩⟩
 exact hacc.2 j v (by simpa using hv)
end Tr
namespace Tr
open PySem PySem.Spec PyProof.Rows L2 PySem.W
section
variable {α β:Type}
end
section
variable {P:Program} {w:World} {H H':Hp} {h h':Heap} {a:Addr} {o:HO}
end
noncomputable def CXE (P:Program) (w:World):CXT:=λouter H s E ev s'=>∃(ea:Addr) (cls a0:Value) (H':Hp) (B:Heap),ev=.ref ea∧s'.os=s.os∧AllBare s'.gens∧Un (frs outer) [] H H' s.heap s'.heap∧HOk P w H' s'.heap ∧
 s.heap.get? ea=none∧H' ea=none∧Heap.FlyingW B outer ea cls a0 s'.heap∧(∀b o,s.heap.get? b=some o→b∉frs outer→∃u,B.get? b=some u)∧(∀b o,H' b=some o→∃u,B.get? b=some u)∧∃od,(∃oe,s'.heap.get? ea=some oe∧oe.dict=od)∧E cls od H'
theorem passE0 {P:Program} {w:World} {X:Cx}:Passes (CXE P w) X E0:=by
 intro _ _ _ _ _ _ _ h
 obtain⟨_,_,_,_,_,_,_,_,_,_,_,_,_,_,_,_,_,z⟩:=h
 exact z.elim
section
variable {P:Program} {w:World} {K:PySem.W.Frag} {mg:Str→Option Value} {base:Heap} {N:List Str} {qual:Str} {scope:Scope} {f:Addr} {cd:Value} {A:Around} {outer:List Env} {s₀:Shared} {H₀:Hp} {E:XK}
end
noncomputable abbrev bmV:List Value:=[.type "ValueError", .type "Exception", .type "BaseException", .type "object"]
section
variable {M:Model} {A:Around} {E:Value→Shared→Prop} {h:Heap} {g:Array GenState} {d:Drawn} {t:Nat} {os:OsState}
variable {nm q:Str} {C N:Addr} {bs bm:List Value} {hdct:Bool} {sn:List Str} {sub:List Value} {ab:Bool} {col:Option Bool} {dd:Option Addr} {k0 k1 k2 k3 k5:Option Value} {newId:String}
variable {nm' q':Str} {C' N':Addr} {bs' bm':List Value} {hdct':Bool} {sn':List Str} {sub':List Value} {ab':Bool} {col':Option Bool} {dd':Option Addr} {k0' k1' k2' k3' k5':Option Value} {newId':String}
end
section
variable {X:Cx} {pins:List (Addr×Obj)} {σ:L2.St} {H:Hp} {s:Shared}
end
section
variable {X:Cx} {pins:List (Addr×Obj)} {σ:L2.St} {H:Hp} {s s':Shared}
end
noncomputable abbrev newV:String := "ValueError.__new__"
noncomputable def cvK (K:PySem.W.Frag) (c:Str):Value:=match nsIn K mainGlobals c with
 | some (some v)=>v
 | _=>.none
structure ClsIs (K:PySem.W.Frag) (mg:Str→Option Value) (c:Str) (C:Addr):Prop where
 bound:mg c=some (.ref C)
 cv:cvK K c=.ref C
 exc:excIn K C bmV newV=true
end Tr
namespace Tr
open PySem PySem.Spec PyProof.Rows L2 PySem.W Builtin Builtin.ObjectAttr Builtin.Getset_descriptor
section
variable {prog:Program} {w:World} {A:Around} {E:Value→Shared→Prop} {K:PySem.W.Frag} {a C:Addr} {o:Obj}
end
end Tr
namespace Tr
open PySem PySem.Spec PyProof.Rows L2 PySem.W
section
variable {X:Cx} {pins:List (Addr×Obj)} {σ:L2.St} {H:Hp} {s:Shared}
end
section
variable {X:Cx} {body:List Stmt} {pos:Pos} {h₀:ExceptHandler} {hs:List ExceptHandler}
end
section
variable {prog:Program} {w:World} {A:Around} {E:Value→Shared→Prop} {h:Heap} {g:Array GenState} {d:Drawn} {t:Nat} {os:OsState}
variable {nm q:Str} {C N:Addr} {bs bm bmB:List Value} {hdct:Bool} {sn:List Str} {sub:List Value} {ab:Bool} {col:Option Bool} {dd:Option Addr} {k0 k1 k2 k3 k5:Option Value} {B Bn newId nid initId inN:String} {bmN:List Value}
end
section
variable {prog:Program} {w:World} {A:Around} {E:Value→Shared→Prop} {s:Shared} {env:Env}
variable {nm q:Str} {C N:Addr} {bs bm bmB:List Value} {hdct:Bool} {sn:List Str} {sub:List Value} {ab:Bool} {col:Option Bool} {dd:Option Addr} {k0 k1 k2 k3 k5:Option Value} {B Bn newId nid initId inN:String} {bmN:List Value}
end
end Tr
namespace Tr
open PySem PySem.Spec PyProof.Rows L2 PySem.W Builtin Builtin.ObjectAttr
section
variable {prog:Program} {w:World} {A:Around} {E:Value→Shared→Prop} {K:PySem.W.Frag} {h:Heap} {g:Array GenState} {d:Drawn} {tok:Nat} {os:OsState}
variable {nm q:Str} {C N x t:Addr} {bs bm:List Value} {sn:List Str} {sub:List Value} {ab:Bool} {col:Option Bool} {dd:Option Addr} {k0 k1 k2 k3 k5:Option Value} {newId:String} {name:Str} {v:Value}
end
end Tr
namespace Tr
open PySem PySem.Spec PyProof.Rows L2 PySem.W Builtin Builtin.ObjectAttr Builtin.Getset_descriptor
section
variable {prog:Program} {w:World} {A:Around} {E:Value→Shared→Prop} {K:PySem.W.Frag} {a C dx:Addr} {o:Obj} {name:Str} {v:Value} {m:Str→Option Value}
variable {nm q:Str} {N:Addr} {bs bm:List Value} {sn:List Str} {sub:List Value} {ab:Bool} {col:Option Bool} {dd:Option Addr} {k0 k1 k2 k3 k5:Option Value} {newId:String}
end
end Tr
namespace Tr
open PySem PySem.Spec PyProof.Rows L2 PySem.W
noncomputable def initIn (K:PySem.W.Frag) (C fI:Addr):Bool:=match K.lookup C with
 | some ⟨.type "type", _,.cls cd,sl⟩=>(match cd.mro,sl.toList with
  | .ref C'::bm,[_,_,_,_,some (.builtin n),_]=>C'==C&&(n==newV&&(!cd.hasDel&&(tailIn K bmV bm&&(nsOkIn K cd.ns&&(nsIn K cd.ns "__init__" == some (some (.ref fI))&&cd.hasDict)))))
  | _,_=>false)
 | _=>false
structure InitCls (K:PySem.W.Frag) (C fI:Addr) (f:Str):Prop where
 obj:initIn K C fI=true
 sa:findIn K (.ref C) "__setattr__" = some (some (.builtin "object.__setattr__"))
 no:findIn K (.ref C) f=some none
section
variable {X:Cx}
end
end Tr
namespace Tr
open PySem PySem.Spec PyProof.Rows L2
noncomputable def ModL (K:PySem.W.Frag) (a:Addr) (xs:List V):Prop :=
 ∃(o:Obj) (its:Array Value) (n:Nat),K.lookup a=some o∧o.cls=.type "list" ∧ o.dict=none∧o.data=.seq its n∧its.size≤sizeLine∧Vals xs its.toList
noncomputable def ModT (K:PySem.W.Frag) (a:Addr) (xs:List V):Prop:=(∃ss:List Str,ss≠[]∧xs=ss.map V.str) ∧
 ∃(o:Obj) (its:Array Value) (n:Nat),K.lookup a=some o∧o.cls=.type "tuple" ∧ o.data=.seq its n∧its.size≤sizeLine∧Vals xs its.toList
noncomputable def TupV (K:PySem.W.Frag) (H:Hp) (a:Addr) (xs:List V):Prop:=H a=some (.tup xs)∨ModT K a xs
theorem TupV.sq {K:PySem.W.Frag} {H:Hp} {a:Addr} {xs:List V} (h:TupV K H a xs):SqT K H a xs:=h.imp (λq=>.inl q) λq=>q.2
mutual
noncomputable def RD (K:PySem.W.Frag) (H:Hp) (O:Addr→Prop):D→V→Prop
 | .non,v=>v=.non
 | .bl b,v=>v=.bl b
 | .int i,v=>v=.int i
 | .str x,v=>v=.str x
 | .tup ds,v=>∃a xs,v=.ref a∧TupV K H a xs∧RDs K H O ds xs
 | .lst ds,v=>∃a xs,v=.ref a∧((¬O a∧Rd H a (.lst xs))∨ModL K a xs)∧RDs K H O ds xs
 | .dct kvs,v=>∃a ps,v=.ref a∧(∃o,H a=some (.frz o (.dK ps)))∧RDk K H O kvs ps
 | .tdc kvs,v=>∃a ps,v=.ref a∧(∃o,H a=some (.frz o (.dT ps)))∧RDt K H O kvs ps
noncomputable def RDs (K:PySem.W.Frag) (H:Hp) (O:Addr→Prop):List D→List V→Prop
 | [],xs=>xs=[]
 | d::ds,xs=>∃v r,xs=v::r∧RD K H O d v∧RDs K H O ds r
noncomputable def RDk (K:PySem.W.Frag) (H:Hp) (O:Addr→Prop):List (Sum Int Str×D)→List (Key×V)→Prop
 | [],xs=>xs=[]
 | (k,d)::ds,xs=>∃v r,xs=(k,v)::r∧RD K H O d v∧RDk K H O ds r
noncomputable def RDt (K:PySem.W.Frag) (H:Hp) (O:Addr→Prop):List (List (Sum Int Str)×D)→List (List Key×V)→Prop
 | [],xs=>xs=[]
 | (k,d)::ds,xs=>∃v r,xs=(k,v)::r∧RD K H O d v∧RDt K H O ds r
end
noncomputable def OwnAt (K:PySem.W.Frag) (H:Hp) (O:Addr→Prop) (a:Addr):D→Prop
 | .lst ds=>∃xs,H a=some (.lst xs)∧RDs K H O ds xs
 | .dct kvs=>∃ps,H a=some (.dK ps)∧RDk K H O kvs ps
 | .tdc kvs=>∃ps,H a=some (.dT ps)∧RDt K H O kvs ps
 | _=>False
noncomputable def RR (K:PySem.W.Frag) (H:Hp) (O:Addr→Prop) (d:D) (v:V):Prop :=
 RD K H O d v∨∃a,v=.ref a∧OwnAt K H O a d
noncomputable def RRs (K:PySem.W.Frag) (H:Hp) (O:Addr→Prop):List D→List V→Prop
 | [],xs=>xs=[]
 | d::ds,xs=>∃v r,xs=v::r∧RR K H O d v∧RRs K H O ds r
section
variable {K:PySem.W.Frag} {H H':Hp} {O O':Addr→Prop}
mutual
theorem RD.map (ht:∀a xs,TupV K H a xs→TupV K H' a xs) (hl:∀a xs,¬O a→Rd H a (.lst xs)→¬O' a∧Rd H' a (.lst xs)) (hd:∀a o u,H a=some (.frz o u)→H' a=some (.frz o u)):∀ {d:D} {v:V},RD K H O d v→RD K H' O' d v
 | .non,_,h=>h
 | .bl _,_,h=>h
 | .int _,_,h=>h
 | .str _,_,h=>h
 | .tup ds,v,h=>by
  obtain⟨a,xs,e,s,r⟩:=h
  exact⟨a,xs,e,ht a xs s,RDs.map ht hl hd r⟩
 | .lst ds,v,h=>by
  obtain⟨a,xs,e,s,r⟩:=h
  refine⟨a,xs,e,?_,RDs.map ht hl hd r⟩
  rcases s with ⟨s1,s2⟩ | s
  ·exact .inl (hl a xs s1 s2)
  ·exact .inr s
 | .dct kvs,v,h=>by
  obtain⟨a,ps,e,⟨o,s⟩,r⟩:=h
  exact⟨a,ps,e,⟨o,hd a _ _ s⟩,RDk.map ht hl hd r⟩
 | .tdc kvs,v,h=>by
  obtain⟨a,ps,e,⟨o,s⟩,r⟩:=h
  exact⟨a,ps,e,⟨o,hd a _ _ s⟩,RDt.map ht hl hd r⟩
theorem RDs.map (ht:∀a xs,TupV K H a xs→TupV K H' a xs) (hl:∀a xs,¬O a→Rd H a (.lst xs)→¬O' a∧Rd H' a (.lst xs)) (hd:∀a o u,H a=some (.frz o u)→H' a=some (.frz o u)):∀ {ds:List D} {vs:List V},RDs K H O ds vs→RDs K H' O' ds vs
 | [],_,h=>h
 | d::ds,vs,h=>by
  obtain⟨v,r,e,h1,h2⟩:=h
  exact⟨v,r,e,RD.map ht hl hd h1,RDs.map ht hl hd h2⟩
theorem RDk.map (ht:∀a xs,TupV K H a xs→TupV K H' a xs) (hl:∀a xs,¬O a→Rd H a (.lst xs)→¬O' a∧Rd H' a (.lst xs)) (hd:∀a o u,H a=some (.frz o u)→H' a=some (.frz o u)):∀ {ds:List (Sum Int Str×D)} {vs:List (Key×V)},RDk K H O ds vs→RDk K H' O' ds vs
 | [],_,h=>h
 | (k,d)::ds,vs,h=>by
  obtain⟨v,r,e,h1,h2⟩:=h
  exact⟨v,r,e,RD.map ht hl hd h1,RDk.map ht hl hd h2⟩
theorem RDt.map (ht:∀a xs,TupV K H a xs→TupV K H' a xs) (hl:∀a xs,¬O a→Rd H a (.lst xs)→¬O' a∧Rd H' a (.lst xs)) (hd:∀a o u,H a=some (.frz o u)→H' a=some (.frz o u)):∀ {ds:List (List (Sum Int Str)×D)} {vs:List (List Key×V)},RDt K H O ds vs→RDt K H' O' ds vs
 | [],_,h=>h
 | (k,d)::ds,vs,h=>by
  obtain⟨v,r,e,h1,h2⟩:=h
  exact⟨v,r,e,RD.map ht hl hd h1,RDt.map ht hl hd h2⟩
end
theorem Rd.same (s:Same H H') {a:Addr} {u:HO} (h:Rd H a u):Rd H' a u:=by
 rcases h with h | ⟨o,h⟩
 ·exact .inl (s _ _ h)
 ·exact .inr ⟨o,s _ _ h⟩
theorem TupV.same (s:Same H H') {a:Addr} {xs:List V} (h:TupV K H a xs):TupV K H' a xs:=h.imp (λq=>s _ _ q) id
theorem RD.same (s:Same H H') {d:D} {v:V} (h:RD K H O d v):RD K H' O d v:=RD.map (λ_ _ q=>TupV.same s q) (λ_ _ n q=>⟨n,Rd.same s q⟩) (λ_ _ _ q=>s _ _ q) h
theorem RDk.same (s:Same H H') {d:List (Sum Int Str×D)} {v:List (Key×V)} (h:RDk K H O d v):RDk K H' O d v:=RDk.map (λ_ _ q=>TupV.same s q) (λ_ _ n q=>⟨n,Rd.same s q⟩) (λ_ _ _ q=>s _ _ q) h
theorem RDt.same (s:Same H H') {d:List (List (Sum Int Str)×D)} {v:List (List Key×V)} (h:RDt K H O d v):RDt K H' O d v:=RDt.map (λ_ _ q=>TupV.same s q) (λ_ _ n q=>⟨n,Rd.same s q⟩) (λ_ _ _ q=>s _ _ q) h
theorem RDs.same (s:Same H H') {d:List D} {v:List V} (h:RDs K H O d v):RDs K H' O d v:=RDs.map (λ_ _ q=>TupV.same s q) (λ_ _ n q=>⟨n,Rd.same s q⟩) (λ_ _ _ q=>s _ _ q) h
theorem RD.weak (s:∀a,O' a→O a) {d:D} {v:V} (h:RD K H O d v):RD K H O' d v:=RD.map (λ_ _ q=>q) (λa _ n q=>⟨λz=>n (s a z),q⟩) (λ_ _ _ q=>q) h
theorem RDk.weak (s:∀a,O' a→O a) {d:List (Sum Int Str×D)} {v:List (Key×V)} (h:RDk K H O d v):RDk K H O' d v:=RDk.map (λ_ _ q=>q) (λa _ n q=>⟨λz=>n (s a z),q⟩) (λ_ _ _ q=>q) h
theorem RDt.weak (s:∀a,O' a→O a) {d:List (List (Sum Int Str)×D)} {v:List (List Key×V)} (h:RDt K H O d v):RDt K H O' d v:=RDt.map (λ_ _ q=>q) (λa _ n q=>⟨λz=>n (s a z),q⟩) (λ_ _ _ q=>q) h
theorem RDs.weak (s:∀a,O' a→O a) {d:List D} {v:List V} (h:RDs K H O d v):RDs K H O' d v:=RDs.map (λ_ _ q=>q) (λa _ n q=>⟨λz=>n (s a z),q⟩) (λ_ _ _ q=>q) h
noncomputable def plus (O:Addr→Prop) (p:Addr):Addr→Prop:=λa=>O a∨a=p
noncomputable def minus (O:Addr→Prop) (p:Addr):Addr→Prop:=λa=>O a∧a≠p
theorem Rd.ne {p a:Addr} {u:HO} (hp:H p=none) (h:Rd H a u):a≠p:=by
 rcases h with h | ⟨o,h⟩<;>exact ne_of_none h hp
theorem RD.new {p:Addr} (hp:H p=none) {d:D} {v:V} (h:RD K H O d v):RD K H (plus O p) d v :=
 RD.map (λ_ _ q=>q) (λa _ n q=>⟨λz=>z.elim n (Rd.ne hp q),q⟩) (λ_ _ _ q=>q) h
theorem RDk.new {p:Addr} (hp:H p=none) {d:List (Sum Int Str×D)} {v:List (Key×V)} (h:RDk K H O d v):RDk K H (plus O p) d v :=
 RDk.map (λ_ _ q=>q) (λa _ n q=>⟨λz=>z.elim n (Rd.ne hp q),q⟩) (λ_ _ _ q=>q) h
theorem RDt.new {p:Addr} (hp:H p=none) {d:List (List (Sum Int Str)×D)} {v:List (List Key×V)} (h:RDt K H O d v):RDt K H (plus O p) d v :=
 RDt.map (λ_ _ q=>q) (λa _ n q=>⟨λz=>z.elim n (Rd.ne hp q),q⟩) (λ_ _ _ q=>q) h
theorem RDs.new {p:Addr} (hp:H p=none) {d:List D} {v:List V} (h:RDs K H O d v):RDs K H (plus O p) d v :=
 RDs.map (λ_ _ q=>q) (λa _ n q=>⟨λz=>z.elim n (Rd.ne hp q),q⟩) (λ_ _ _ q=>q) h
noncomputable def MutO:HO→Prop
 | .lst _=>True
 | .dK _=>True
 | .dT _=>True
 | _=>False
theorem upd_map {p:Addr} {o o':HO} (hO:O p) (hp:H p=some o) (hm:MutO o):(∀a xs,TupV K H a xs→TupV K (upd H p o') a xs)∧(∀a xs,¬O a→Rd H a (.lst xs)→¬O a∧Rd (upd H p o') a (.lst xs))∧∀a o1 u,H a=some (.frz o1 u)→upd H p o' a=some (.frz o1 u):=by
 refine⟨λa xs h=>?_,λa xs n h=>⟨n,?_⟩,λa o1 u h=>?_⟩
 ·rcases h with h | h
  ·exact .inl (by rw[upd_ne (ne_of h hp (by intro z;subst z;exact hm))];exact h)
  ·exact .inr h
 ·have e:a≠p:=λz=>n (z▸hO)
  rcases h with h | ⟨o,h⟩
  ·exact .inl (by rw[upd_ne e];exact h)
  ·exact .inr ⟨o,by rw[upd_ne e];exact h⟩
 ·rw[upd_ne (ne_of h hp (by intro z;subst z;exact hm))];exact h
theorem RD.updM {p:Addr} {o o':HO} (hO:O p) (hp:H p=some o) (hm:MutO o) {d:D} {v:V} (h:RD K H O d v):RD K (L2.upd H p o') O d v:=RD.map (upd_map (K:=K) hO hp hm).1 (upd_map (K:=K) hO hp hm).2.1 (upd_map (K:=K) hO hp hm).2.2 h
theorem RDs.updM {p:Addr} {o o':HO} (hO:O p) (hp:H p=some o) (hm:MutO o) {d:List D} {v:List V} (h:RDs K H O d v):RDs K (L2.upd H p o') O d v:=RDs.map (upd_map (K:=K) hO hp hm).1 (upd_map (K:=K) hO hp hm).2.1 (upd_map (K:=K) hO hp hm).2.2 h
theorem RDk.updM {p:Addr} {o o':HO} (hO:O p) (hp:H p=some o) (hm:MutO o) {d:List (Sum Int Str×D)} {v:List (Key×V)} (h:RDk K H O d v):RDk K (L2.upd H p o') O d v:=RDk.map (upd_map (K:=K) hO hp hm).1 (upd_map (K:=K) hO hp hm).2.1 (upd_map (K:=K) hO hp hm).2.2 h
theorem RDt.updM {p:Addr} {o o':HO} (hO:O p) (hp:H p=some o) (hm:MutO o) {d:List (List (Sum Int Str)×D)} {v:List (List Key×V)} (h:RDt K H O d v):RDt K (L2.upd H p o') O d v:=RDt.map (upd_map (K:=K) hO hp hm).1 (upd_map (K:=K) hO hp hm).2.1 (upd_map (K:=K) hO hp hm).2.2 h
theorem RD.upd {p:Addr} {ys zs:List V} (hO:O p) (hp:H p=some (.lst ys)) {d:D} {v:V} (h:RD K H O d v):RD K (L2.upd H p (.lst zs)) O d v:=RD.updM hO hp trivial h
theorem RDs.upd {p:Addr} {ys zs:List V} (hO:O p) (hp:H p=some (.lst ys)) {d:List D} {v:List V} (h:RDs K H O d v):RDs K (L2.upd H p (.lst zs)) O d v:=RDs.updM hO hp trivial h
mutual
theorem RD.flat:∀ {d:D} {v:V},d.flat=true→RD K H O d v→RD K H O' d v
 | .non,_,_,h=>h
 | .bl _,_,_,h=>h
 | .int _,_,_,h=>h
 | .str _,_,_,h=>h
 | .tup ds,v,f,h=>by
  obtain⟨a,xs,e,s,r⟩:=h
  rw[D.flat] at f
  exact⟨a,xs,e,s,RDs.flat f r⟩
 | .lst ds,v,f,_=>by rw[D.flat] at f;cases f
 | .dct _,_,f,_=>by rw[D.flat] at f;cases f
 | .tdc _,_,f,_=>by rw[D.flat] at f;cases f
theorem RDs.flat:∀ {ds:List D} {vs:List V},D.flats ds=true→RDs K H O ds vs→RDs K H O' ds vs
 | [],_,_,h=>h
 | d::ds,vs,f,h=>by
  obtain⟨v,r,e,h1,h2⟩:=h
  rw[D.flats,Bool.and_eq_true] at f
  exact⟨v,r,e,RD.flat f.1 h1,RDs.flat f.2 h2⟩
end
theorem RDs.length:∀ {ds:List D} {vs:List V},RDs K H O ds vs→vs.length=ds.length
 | [],_,h=>by rw[RDs] at h;rw[h];rfl
 | d::ds,vs,h=>by
  obtain⟨v,r,e,_,h2⟩:=h
  rw[e,List.length_cons,List.length_cons,RDs.length h2]
theorem RDs.get:∀ {ds:List D} {vs:List V} {i:Nat} {d:D},RDs K H O ds vs→ds[i]?=some d→∃v,vs[i]?=some v∧RD K H O d v
 | [],_,_,_,_,e=>by simp at e
 | d::ds,vs,0,d',h,e=>by
  obtain⟨v,r,rfl,h1,_⟩:=h
  simp at e;subst e
  exact⟨v,rfl,h1⟩
 | d::ds,vs,i+1,d',h,e=>by
  obtain⟨v,r,rfl,_,h2⟩:=h
  obtain⟨w,h3,h4⟩:=RDs.get (i:=i) h2 (by simpa using e)
  exact⟨w,by simpa using h3,h4⟩
theorem RDs.append:∀ {ds es:List D} {vs ws:List V},RDs K H O ds vs→RDs K H O es ws→RDs K H O (ds++es) (vs++ws)
 | [],_,_,_,h,g=>by rw[RDs] at h;subst h;exact g
 | d::ds,es,vs,ws,h,g=>by
  obtain⟨v,r,rfl,h1,h2⟩:=h
  exact⟨v,r++ws,rfl,h1,RDs.append h2 g⟩
theorem RDs.drop:∀ {ds:List D} {vs:List V} (n:Nat),RDs K H O ds vs→RDs K H O (ds.drop n) (vs.drop n)
 | _,_,0,h=>h
 | [],_,n+1,h=>by rw[RDs] at h;subst h;exact rfl
 | d::ds,vs,n+1,h=>by
  obtain⟨v,r,rfl,_,h2⟩:=h
  exact RDs.drop n h2
theorem RDs.take:∀ {ds:List D} {vs:List V} (n:Nat),RDs K H O ds vs→RDs K H O (ds.take n) (vs.take n)
 | _,_,0,_=>by simp[RDs]
 | [],_,n+1,h=>by rw[RDs] at h;subst h;simp[RDs]
 | d::ds,vs,n+1,h=>by
  obtain⟨v,r,rfl,h1,h2⟩:=h
  exact⟨v,r.take n,rfl,h1,RDs.take n h2⟩
theorem RDs.reverse {ds:List D} {vs:List V} (h:RDs K H O ds vs):RDs K H O ds.reverse vs.reverse:=by
 induction ds generalizing vs with
 | nil=>rw[RDs] at h;subst h;exact rfl
 | cons d ds ih =>
  obtain⟨v,r,rfl,h1,h2⟩:=h
  rw[List.reverse_cons,List.reverse_cons]
  exact RDs.append (ih h2) ⟨v,[],rfl,h1,rfl⟩
theorem RDs.cut {ds:List D} {vs:List V} (lo hi:Option Int) (h:RDs K H O ds vs):RDs K H O (Tr.cut ds lo hi) (cutV vs lo hi):=by
 have e:=RDs.length h
 unfold Tr.cut cutV
 rw[e]
 exact RDs.take _ (RDs.drop _ h)
theorem RDs.cons {d:D} {v:V} {ds:List D} {vs:List V} (h:RD K H O d v) (r:RDs K H O ds vs):RDs K H O (d::ds) (v::vs):=⟨v,vs,rfl,h,r⟩
theorem RDs.nil:RDs K H O [] []:=rfl
theorem RDk.length:∀ {ds:List (Sum Int Str×D)} {vs:List (Key×V)},RDk K H O ds vs→vs.length=ds.length
 | [],_,h=>by rw[RDk] at h;rw[h];rfl
 | (k,d)::ds,vs,h=>by
  obtain⟨v,r,e,_,h2⟩:=h
  rw[e,List.length_cons,List.length_cons,RDk.length h2]
theorem RDt.length:∀ {ds:List (List (Sum Int Str)×D)} {vs:List (List Key×V)},RDt K H O ds vs→vs.length=ds.length
 | [],_,h=>by rw[RDt] at h;rw[h];rfl
 | (k,d)::ds,vs,h=>by
  obtain⟨v,r,e,_,h2⟩:=h
  rw[e,List.length_cons,List.length_cons,RDt.length h2]
theorem RD.rr {d:D} {v:V} (h:RD K H O d v):RR K H O d v:=.inl h
theorem RDs.rr:∀ {ds:List D} {vs:List V},RDs K H O ds vs→RRs K H O ds vs
 | [],_,h=>h
 | d::ds,vs,h=>by
  obtain⟨v,r,e,h1,h2⟩:=h
  exact⟨v,r,e,.inl h1,RDs.rr h2⟩
theorem OwnAt.map (hs:∀ {d v},RDs K H O d v→RDs K H' O' d v) (hk:∀ {d v},RDk K H O d v→RDk K H' O' d v) (hk2:∀ {d v},RDt K H O d v→RDt K H' O' d v) {a:Addr} (ho:∀o,MutO o→H a=some o→H' a=some o):∀ {d:D},OwnAt K H O a d→OwnAt K H' O' a d
 | .lst ds,⟨xs,h1,h2⟩=>⟨xs,ho _ trivial h1,hs h2⟩
 | .dct ds,⟨xs,h1,h2⟩=>⟨xs,ho _ trivial h1,hk h2⟩
 | .tdc ds,⟨xs,h1,h2⟩=>⟨xs,ho _ trivial h1,hk2 h2⟩
 | .non,h | .bl _,h | .int _,h | .str _,h | .tup _,h=>h.elim
theorem OwnAt.same (s:Same H H') {a:Addr} {d:D} (h:OwnAt K H O a d):OwnAt K H' O a d:=OwnAt.map (λq=>q.same s) (λq=>q.same s) (λq=>q.same s) (λ_ _ q=>s _ _ q) h
theorem OwnAt.new {p:Addr} (hp:H p=none) {a:Addr} {d:D} (h:OwnAt K H O a d):OwnAt K H (plus O p) a d:=OwnAt.map (λq=>q.new hp) (λq=>q.new hp) (λq=>q.new hp) (λ_ _ q=>q) h
theorem OwnAt.weak (s:∀a,O' a→O a) {a:Addr} {d:D} (h:OwnAt K H O a d):OwnAt K H O' a d:=OwnAt.map (λq=>q.weak s) (λq=>q.weak s) (λq=>q.weak s) (λ_ _ q=>q) h
theorem OwnAt.updM {p:Addr} {o o':HO} (hO:O p) (hp:H p=some o) (hm:MutO o) {a:Addr} (hne:a≠p) {d:D} (h:OwnAt K H O a d):OwnAt K (L2.upd H p o') O a d:=OwnAt.map (λq=>q.updM hO hp hm) (λq=>q.updM hO hp hm) (λq=>q.updM hO hp hm) (λ_ _ q=>by rw[upd_ne hne];exact q) h
theorem OwnAt.obj {a:Addr}:∀ {d:D},OwnAt K H O a d→∃o,H a=some o∧MutO o
 | .lst ds,⟨xs,h1,h2⟩=>⟨_,h1,trivial⟩
 | .dct ds,⟨xs,h1,h2⟩=>⟨_,h1,trivial⟩
 | .tdc ds,⟨xs,h1,h2⟩=>⟨_,h1,trivial⟩
 | .non,h | .bl _,h | .int _,h | .str _,h | .tup _,h=>h.elim
theorem OwnAt.rd {a:Addr} (hn:¬O a):∀ {d:D},d.isDct=false→OwnAt K H O a d→RD K H O d (.ref a)
 | .lst ds,_,⟨xs,h1,h2⟩=>⟨a,xs,rfl,.inl ⟨hn,.inl h1⟩,h2⟩
 | .dct ds,z,_=>by cases z
 | .tdc ds,z,_=>by cases z
 | .non,_,h | .bl _,_,h | .int _,_,h | .str _,_,h | .tup _,_,h=>h.elim
theorem RR.same (s:Same H H') {d:D} {v:V} (h:RR K H O d v):RR K H' O d v:=by
 rcases h with h | ⟨a,e,h⟩
 ·exact .inl (h.same s)
 ·exact .inr ⟨a,e,h.same s⟩
theorem RR.lst {ds:List D} {v:V} (h:RR K H O (.lst ds) v):∃a xs,v=.ref a∧SqL K H a xs∧RDs K H O ds xs:=by
 rcases h with ⟨a,xs,e,s,r⟩ | ⟨a,e,xs,h1,h2⟩
 ·refine⟨a,xs,e,?_,r⟩
  rcases s with ⟨_,s⟩ | s
  ·exact .inl s
  ·exact .inr s
 ·exact⟨a,xs,e,.of h1,h2⟩
theorem RR.dct {kvs:List (Sum Int Str×D)} {v:V} (h:RR K H O (.dct kvs) v):∃a ps,v=.ref a∧Rd H a (.dK ps)∧RDk K H O kvs ps:=by
 rcases h with ⟨a,ps,e,s,r⟩ | ⟨a,e,ps,h1,h2⟩
 ·exact⟨a,ps,e,.inr s,r⟩
 ·exact⟨a,ps,e,.inl h1,h2⟩
theorem RR.tdc {kvs:List (List (Sum Int Str)×D)} {v:V} (h:RR K H O (.tdc kvs) v):∃a ps,v=.ref a∧Rd H a (.dT ps)∧RDt K H O kvs ps:=by
 rcases h with ⟨a,ps,e,s,r⟩ | ⟨a,e,ps,h1,h2⟩
 ·exact⟨a,ps,e,.inr s,r⟩
 ·exact⟨a,ps,e,.inl h1,h2⟩
theorem RR.tupV {ds:List D} {v:V} (h:RR K H O (.tup ds) v):∃a xs,v=.ref a∧TupV K H a xs∧RDs K H O ds xs:=by
 rcases h with h | ⟨a,e,h⟩
 ·exact h
 ·exact h.elim
theorem RR.tup {ds:List D} {v:V} (h:RR K H O (.tup ds) v):∃a xs,v=.ref a∧SqT K H a xs∧RDs K H O ds xs:=by
 obtain⟨a,xs,e,q,r⟩:=h.tupV
 exact⟨a,xs,e,q.sq,r⟩
noncomputable def D.still:D→Bool
 | .lst _=>false
 | .dct _=>false
 | .tdc _=>false
 | _=>true
theorem RR.rd {d:D} {v:V} (h:RR K H O d v) (n:d.still=true):RD K H O d v:=by
 rcases h with h | ⟨a,e,h⟩
 ·exact h
 ·cases d with
  | lst _=>cases n
  | dct _=>cases n
  | tdc _=>cases n
  | non=>exact h.elim
  | bl _=>exact h.elim
  | int _=>exact h.elim
  | str _=>exact h.elim
  | tup _=>exact h.elim
end
noncomputable def NV (K:PySem.W.Frag) (H:Hp) (O:Addr→Prop) (d:D) (v:V):Prop:=(d=.non∧v=.non)∨∃ds a xs,d=.lst ds∧D.flats ds=true∧v=.ref a∧H a=some (.lst xs)∧¬O a∧RDs K H O ds xs
theorem NV.map {K:PySem.W.Frag} {H H':Hp} {O O':Addr→Prop} (hs:∀ {d v},RDs K H O d v→RDs K H' O' d v) (hn:∀a xs,¬O a→H a=some (.lst xs)→¬O' a∧H' a=some (.lst xs)) {d:D} {v:V} (h:NV K H O d v):NV K H' O' d v:=by
 rcases h with h | ⟨ds,a,xs,h1,h2,h3,h4,h5,h6⟩
 ·exact .inl h
 ·obtain⟨h7,h8⟩:=hn a xs h5 h4
  exact .inr ⟨ds,a,xs,h1,h2,h3,h8,h7,hs h6⟩
theorem NV.rd {K:PySem.W.Frag} {H:Hp} {O:Addr→Prop} {d:D} {v:V} (h:NV K H O d v):RD K H O d v:=by
 rcases h with ⟨rfl,rfl⟩ | ⟨ds,a,xs,rfl,h2,rfl,h4,h5,h6⟩
 ·exact rfl
 ·exact⟨a,xs,rfl,.inl ⟨h5,.inl h4⟩,h6⟩
noncomputable def RS (K:PySem.W.Frag) (H:Hp) (O:Addr→Prop) (own:Option Addr):Sl→Option V→Prop
 | .no,_=>True
 | .v d,ov=>∃v,ov=some v∧RD K H O d v
 | .o d,ov=>∃a,own=some a∧ov=some (.ref a)∧OwnAt K H O a d
 | .t ds,ov=>∃t p ys vs a r,own=some p∧ov=some (.ref t)∧(∃ks:List Int,ds=ks.map D.int++.lst a::r∧TupV K H t (ks.map V.int++.ref p::vs))∧H p=some (.lst ys)∧RDs K H O a ys∧RDs K H O r vs
 | .n d,ov=>∃v,ov=some v∧NV K H O d v
noncomputable def stAt (σ:L2.St) (i:Nat):Option V:=(σ[i]?).join
set_option genInjectivity false in
structure Fm (K:PySem.W.Frag) (H₀:Hp) (O₀:Addr→Prop) (H:Hp) (O:Addr→Prop) (own:Nat→Option Addr) (e:Nv) (σ:L2.St):Prop where
 len:e.length=σ.length
 sl:∀i,RS K H O (own i) (e.at i) (stAt σ i)
 inj:∀i j a,own i=some a→own j=some a→i=j
 same:Same H₀ H
 sub:∀a,O₀ a→O a
 trk0:∀a,O₀ a→∃o,H₀ a=some o
 trk:∀a,O a→∃o,H a=some o
 new:∀i a,own i=some a→O a∧H₀ a=none
 nw:∀i d a,e.at i=.n d→stAt σ i=some (.ref a)→H₀ a=none
section
variable {K:PySem.W.Frag} {H₀ H H':Hp} {O₀ O O':Addr→Prop} {own:Nat→Option Addr} {e:Nv} {σ:L2.St}
theorem RS.same (s:Same H H') {o:Option Addr} {x:Sl} {ov:Option V} (h:RS K H O o x ov):RS K H' O o x ov:=by
 cases x with
 | no=>trivial
 | v d=>obtain⟨v,e,r⟩:=h;exact⟨v,e,r.same s⟩
 | o d=>obtain⟨a,e1,e2,h⟩:=h;exact⟨a,e1,e2,h.same s⟩
 | t ds=>obtain⟨t,p,ys,vs,a,r,e1,e2,⟨ks,e3,h1⟩,h2,h3,h4⟩:=h;exact⟨t,p,ys,vs,a,r,e1,e2,⟨ks,e3,TupV.same s h1⟩,s _ _ h2,h3.same s,h4.same s⟩
 | n d=>obtain⟨v,e,r⟩:=h;exact⟨v,e,r.map (λq=>q.same s) λa xs z q=>⟨z,s _ _ q⟩⟩
theorem Fm.grow (F:Fm K H₀ O₀ H O own e σ) (s:Same H H'):Fm K H₀ O₀ H' O own e σ :=
 ⟨F.len,λi=>(F.sl i).same s,F.inj,F.same.trans s,F.sub,F.trk0,λa h=>let ⟨xs,q⟩:=F.trk a h;⟨xs,s _ _ q⟩,F.new,F.nw⟩
end
section
variable {K:PySem.W.Frag} {H₀ H H':Hp} {O₀ O O':Addr→Prop} {own:Nat→Option Addr} {e:Nv} {σ:L2.St}
theorem at_set_same {e:Nv} {i:Nat} {x:Sl} (h:i < e.length):Nv.at (e.set i x) i=x:=by
 unfold Nv.at;rw[List.getElem?_set_self h];rfl
theorem at_set_ne {e:Nv} {i j:Nat} {x:Sl} (h:i≠j):Nv.at (e.set i x) j=Nv.at e j:=by
 unfold Nv.at;rw[List.getElem?_set_ne h]
theorem at_out {e:Nv} {i:Nat} (h:¬i < e.length):Nv.at e i=.no:=by
 unfold Nv.at;rw[List.getElem?_eq_none (by lia)];rfl
theorem st_set_same {σ:L2.St} {i:Nat} {v:V} (h:i < σ.length):stAt (σ.set i (some v)) i=some v:=by
 unfold stAt;rw[List.getElem?_set_self h];rfl
theorem st_set_ne {σ:L2.St} {i j:Nat} {v:Option V} (h:i≠j):stAt (σ.set i v) j=stAt σ j:=by
 unfold stAt;rw[List.getElem?_set_ne h]
theorem nw_set {H₀:Hp} {e:Nv} {σ:L2.St} {i:Nat} {x:Sl} {ov:Option V} (hx:∀d,x≠.n d) (h:∀j d a,e.at j=.n d→stAt σ j=some (.ref a)→H₀ a=none):∀j d a,Nv.at (e.set i x) j=.n d→stAt (σ.set i ov) j=some (.ref a)→H₀ a=none:=λj d a h1 h2=>by
 by_cases z:i=j
 ·subst z
  by_cases hi:i < e.length
  ·rw[at_set_same hi] at h1;exact absurd h1 (hx d)
  ·rw[at_out (by rw[List.length_set];exact hi)] at h1;cases h1
 ·rw[at_set_ne z] at h1;rw[st_set_ne z] at h2;exact h j d a h1 h2
theorem nw_put {H₀:Hp} {e:Nv} {σ:L2.St} {i:Nat} {x:Sl} (hx:∀d,x≠.n d) (h:∀j d a,e.at j=.n d→stAt σ j=some (.ref a)→H₀ a=none):∀j d a,Nv.at (e.set i x) j=.n d→stAt σ j=some (.ref a)→H₀ a=none:=λj d a h1 h2=>by
 by_cases z:i=j
 ·subst z
  by_cases hi:i < e.length
  ·rw[at_set_same hi] at h1;exact absurd h1 (hx d)
  ·rw[at_out (by rw[List.length_set];exact hi)] at h1;cases h1
 ·rw[at_set_ne z] at h1;exact h j d a h1 h2
theorem st_get {σ:L2.St} {i:Nat} {v:V} (h:stAt σ i=some v):σ[i]?=some (some v):=by
 unfold stAt at h
 cases q:σ[i]? with
 | none=>rw[q] at h;cases h
 | some o=>rw[q] at h;cases o with
  | none=>cases h
  | some w=>cases h;rfl
theorem RS.map (ht:∀ {d v},RD K H O d v→RD K H' O' d v) (hs:∀ {d v},RDs K H O d v→RDs K H' O' d v) (hk:∀ {d v},RDk K H O d v→RDk K H' O' d v) (hk2:∀ {d v},RDt K H O d v→RDt K H' O' d v) {o:Option Addr} (ho:∀a u,o=some a→MutO u→H a=some u→H' a=some u) {x:Sl} {ov:Option V} (h:RS K H O o x ov) (hn:∀a xs,¬O a→H a=some (.lst xs)→¬O' a∧H' a=some (.lst xs)) (hq:∀a xs,TupV K H a xs→TupV K H' a xs:=by first | exact λ_ _ q=>q | exact λ_ _ q=>TupV.same (by assumption) q):RS K H' O' o x ov:=by
 cases x with
 | no=>trivial
 | v d=>obtain⟨v,e,r⟩:=h;exact⟨v,e,ht r⟩
 | o d=>obtain⟨a,e1,e2,h⟩:=h;exact⟨a,e1,e2,h.map hs hk hk2 λu hm q=>ho a u e1 hm q⟩
 | t ds=>obtain⟨t,p,ys,vs,a,r,e1,e2,⟨ks,e3,h1⟩,h2,h3,h4⟩:=h;exact⟨t,p,ys,vs,a,r,e1,e2,⟨ks,e3,hq _ _ h1⟩,ho p _ e1 trivial h2,hs h3,hs h4⟩
 | n d=>obtain⟨v,e,r⟩:=h;exact⟨v,e,r.map hs hn⟩
theorem nn_new {p:Addr} (hp:H p=none) (s:Same H H'):∀a xs,¬O a→H a=some (.lst xs)→¬plus O p a∧H' a=some (.lst xs):=λa xs n q=>⟨λz=>z.elim n (ne_of_none q hp),s _ _ q⟩
theorem nn_upd {p:Addr} {o':HO} (hO:O p):∀a xs,¬O a→H a=some (.lst xs)→¬O a∧upd H p o' a=some (.lst xs):=λa xs n q=>⟨n,by
 have ne:a≠p:=λz=>n (z▸hO)
 rw[upd_ne ne];exact q⟩
theorem nn_weak (w:∀a,O' a→O a):∀a xs,¬O a→H a=some (.lst xs)→¬O' a∧H a=some (.lst xs):=λa xs n q=>⟨λz=>n (w a z),q⟩
theorem Fm.setV (F:Fm K H₀ O₀ H O own e σ) (i:Nat) {d:D} {v:V} (r:RD K H O d v):Fm K H₀ O₀ H O (λj=>if j=i then none else own j) (e.set i (.v d)) (σ.set i (some v)) where
 len:=by rw[List.length_set,List.length_set];exact F.len
 sl:=λj=>by
  by_cases h:i=j
  ·subst h
   by_cases hi:i < e.length
   ·rw[at_set_same hi,st_set_same (by rw[←F.len];exact hi)];exact⟨v,rfl,r⟩
   ·rw[at_out (by rw[List.length_set];exact hi)];trivial
  ·rw[at_set_ne h,st_set_ne h,if_neg (Ne.symm h)];exact F.sl j
 inj:=λj k a h1 h2=>by
  by_cases h:j=i
  ·rw[if_pos h] at h1;cases h1
  ·by_cases h':k=i
   ·rw[if_pos h'] at h2;cases h2
   ·rw[if_neg h] at h1;rw[if_neg h'] at h2;exact F.inj j k a h1 h2
 same:=F.same
 sub:=F.sub
 trk0:=F.trk0
 trk:=F.trk
 new:=λj a h1=>by
  by_cases h:j=i
  ·rw[if_pos h] at h1;cases h1
  ·rw[if_neg h] at h1;exact F.new j a h1
 nw:=nw_set (λ_ z=>by cases z) F.nw
theorem Fm.setN (F:Fm K H₀ O₀ H O own e σ) (i:Nat) {d:D} {v:V} (r:NV K H O d v) (h0:∀a,v=.ref a→H₀ a=none):Fm K H₀ O₀ H O (λj=>if j=i then none else own j) (e.set i (.n d)) (σ.set i (some v)) where
 len:=by rw[List.length_set,List.length_set];exact F.len
 sl:=λj=>by
  by_cases h:i=j
  ·subst h
   by_cases hi:i < e.length
   ·rw[at_set_same hi,st_set_same (by rw[←F.len];exact hi)];exact⟨v,rfl,r⟩
   ·rw[at_out (by rw[List.length_set];exact hi)];trivial
  ·rw[at_set_ne h,st_set_ne h,if_neg (Ne.symm h)];exact F.sl j
 inj:=(F.setV i r.rd).inj
 same:=F.same
 sub:=F.sub
 trk0:=F.trk0
 trk:=F.trk
 new:=(F.setV i r.rd).new
 nw:=λj d' a h1 h2=>by
  by_cases z:i=j
  ·subst z
   by_cases hi:i < e.length
   ·rw[st_set_same (by rw[←F.len];exact hi)] at h2
    exact h0 a (Option.some.inj h2)
   ·rw[at_out (by rw[List.length_set];exact hi)] at h1;cases h1
  ·rw[at_set_ne z] at h1;rw[st_set_ne z] at h2;exact F.nw j d' a h1 h2
theorem Fm.setO (F:Fm K H₀ O₀ H O own e σ) (s:Same H H') (i:Nat) {d:D} {p:Addr} (hp:H p=none) (r:OwnAt K H' (plus O p) p d) :
 Fm K H₀ O₀ H' (plus O p) (λj=>if j=i then some p else own j) (e.set i (.o d)) (σ.set i (some (.ref p))) where
 len:=by rw[List.length_set,List.length_set];exact F.len
 sl:=λj=>by
  by_cases h:i=j
  ·subst h
   rw[if_pos rfl]
   by_cases hi:i < e.length
   ·rw[at_set_same hi,st_set_same (by rw[←F.len];exact hi)];exact⟨p,rfl,rfl,r⟩
   ·rw[at_out (by rw[List.length_set];exact hi)];trivial
  ·rw[at_set_ne h,st_set_ne h,if_neg (Ne.symm h)]
   exact RS.map (λq=>(q.new hp).same s) (λq=>(q.new hp).same s) (λq=>(q.new hp).same s) (λq=>(q.new hp).same s) (λa u _ _ q=>s _ _ q) (F.sl j) (nn_new hp s)
 inj:=λj k a h1 h2=>by
  have no:∀j,own j≠some p:=λj q=>by
   obtain⟨xs,w⟩:=F.trk p (F.new j p q).1
   rw[hp] at w;cases w
  by_cases h:j=i
  ·rw[if_pos h] at h1
   cases h1
   by_cases h':k=i
   ·rw[h,h']
   ·rw[if_neg h'] at h2;exact absurd h2 (no k)
  ·rw[if_neg h] at h1
   by_cases h':k=i
   ·rw[if_pos h'] at h2;cases h2;exact absurd h1 (no j)
   ·rw[if_neg h'] at h2;exact F.inj j k a h1 h2
 same:=F.same.trans s
 sub:=λa h=>.inl (F.sub a h)
 trk0:=F.trk0
 trk:=λa h=>by
  rcases h with h | h
  ·obtain⟨ys,q⟩:=F.trk a h
   exact⟨ys,s _ _ q⟩
  ·subst h
   obtain⟨o,h1,_⟩:=r.obj
   exact⟨o,h1⟩
 new:=λj a h1=>by
  by_cases h:j=i
  ·rw[if_pos h] at h1;cases h1;exact⟨.inr rfl,F.same.free hp⟩
  ·rw[if_neg h] at h1;exact⟨.inl (F.new j a h1).1,(F.new j a h1).2⟩
 nw:=nw_set (λ_ z=>by cases z) F.nw
theorem Fm.mutA (F:Fm K H₀ O₀ H O own e σ) (i:Nat) {d:D} (hi:e.at i=.o d):∃p,stAt σ i=some (.ref p)∧OwnAt K H O p d∧O p ∧
 ∀d' o',(∀o,H p=some o→OwnAt K (upd H p o') O p d')→Fm K H₀ O₀ (upd H p o') O own (e.set i (.o d')) σ:=by
 have q:=F.sl i
 rw[hi] at q
 obtain⟨p,e1,e2,h1⟩:=q
 obtain⟨o,ho,hm⟩:=h1.obj
 have hn:=F.new i p e1
 refine⟨p,e2,h1,hn.1,λd' o' r=>?_⟩
 have hlen:i < e.length:=by
  by_cases h:i < e.length
  ·exact h
  ·rw[at_out h] at hi;cases hi
 refine⟨by rw[List.length_set];exact F.len,λj=>?_,F.inj,λb u hb=>?_,F.sub,F.trk0,λa ha=>?_,F.new,nw_put (λ_ z=>by cases z) F.nw⟩
 ·by_cases h:i=j
  ·subst h
   rw[at_set_same hlen,e2]
   exact⟨p,e1,rfl,r o ho⟩
  ·rw[at_set_ne h]
   refine RS.map (λq=>q.updM hn.1 ho hm) (λq=>q.updM hn.1 ho hm) (λq=>q.updM hn.1 ho hm) (λq=>q.updM hn.1 ho hm) (λa u ea _ q=>?_) (F.sl j) (nn_upd hn.1) (upd_map (K:=K) hn.1 ho hm).1
   have:a≠p:=λz=>h (F.inj i j p e1 (z▸ea))
   rw[upd_ne this];exact q
 ·rw[upd_ne (λz=>by rw[z,hn.2] at hb;cases hb)];exact F.same b u hb
 ·by_cases h:a=p
  ·subst h;exact⟨_,upd_same⟩
  ·obtain⟨ys,q⟩:=F.trk a ha
   exact⟨ys,by rw[upd_ne h];exact q⟩
theorem Fm.mut (F:Fm K H₀ O₀ H O own e σ) (i:Nat) {ds:List D} (hi:e.at i=.o (.lst ds)):∃p xs,stAt σ i=some (.ref p)∧H p=some (.lst xs)∧RDs K H O ds xs∧O p ∧
 ∀ds' xs',RDs K H O ds' xs'→Fm K H₀ O₀ (upd H p (.lst xs')) O own (e.set i (.o (.lst ds'))) σ:=by
 obtain⟨p,e2,⟨xs,h1,h2⟩,hO,k⟩:=F.mutA i hi
 exact⟨p,xs,e2,h1,h2,hO,λds' xs' r=>k (.lst ds') (.lst xs') λ_ _=>⟨xs',upd_same,r.upd hO h1⟩⟩
theorem Fm.mutD (F:Fm K H₀ O₀ H O own e σ) (i:Nat) {ds:List (Sum Int Str×D)} (hi:e.at i=.o (.dct ds)):∃p xs,stAt σ i=some (.ref p)∧H p=some (.dK xs)∧RDk K H O ds xs∧O p ∧
 ∀ds' xs',RDk K H O ds' xs'→Fm K H₀ O₀ (upd H p (.dK xs')) O own (e.set i (.o (.dct ds'))) σ:=by
 obtain⟨p,e2,⟨xs,h1,h2⟩,hO,k⟩:=F.mutA i hi
 exact⟨p,xs,e2,h1,h2,hO,λds' xs' r=>k (.dct ds') (.dK xs') λ_ _=>⟨xs',upd_same,r.updM hO h1 trivial⟩⟩
theorem Fm.mutT (F:Fm K H₀ O₀ H O own e σ) (i:Nat) {ds:List (List (Sum Int Str)×D)} (hi:e.at i=.o (.tdc ds)):∃p xs,stAt σ i=some (.ref p)∧H p=some (.dT xs)∧RDt K H O ds xs∧O p ∧
 ∀ds' xs',RDt K H O ds' xs'→Fm K H₀ O₀ (upd H p (.dT xs')) O own (e.set i (.o (.tdc ds'))) σ:=by
 obtain⟨p,e2,⟨xs,h1,h2⟩,hO,k⟩:=F.mutA i hi
 exact⟨p,xs,e2,h1,h2,hO,λds' xs' r=>k (.tdc ds') (.dT xs') λ_ _=>⟨xs',upd_same,r.updM hO h1 trivial⟩⟩
theorem Fm.seal (F:Fm K H₀ O₀ H O own e σ) (i:Nat) {d:D} (hi:e.at i=.o d) (hd:d.isDct=false):∃O' own',Fm K H₀ O₀ H O' own' (e.set i (.v d)) σ∧∀a,O' a→O a:=by
 have q:=F.sl i
 rw[hi] at q
 obtain⟨p,e1,e2,h1⟩:=q
 have hn:=F.new i p e1
 have hlen:i < e.length:=by
  by_cases h:i < e.length
  ·exact h
  ·rw[at_out h] at hi;cases hi
 refine⟨minus O p,λj=>if j=i then none else own j,⟨by rw[List.length_set];exact F.len,λj=>?_,λj k a q1 q2=>?_,F.same,λa ha=>⟨F.sub a ha,λz=>?_⟩,F.trk0,λa ha=>F.trk a ha.1,λj a q1=>?_,nw_put (λ_ z=>by cases z) F.nw⟩,λa ha=>ha.1⟩
 ·by_cases h:i=j
  ·subst h
   rw[at_set_same hlen,e2]
   exact⟨.ref p,rfl,OwnAt.rd (λz=>z.2 rfl) hd (h1.weak λ_ z=>z.1)⟩
  ·rw[at_set_ne h,if_neg (Ne.symm h)]
   exact RS.map (λq=>q.weak λ_ z=>z.1) (λq=>q.weak λ_ z=>z.1) (λq=>q.weak λ_ z=>z.1) (λq=>q.weak λ_ z=>z.1) (λa ys _ _ q=>q) (F.sl j) (nn_weak λ_ z=>z.1)
 ·by_cases h:j=i
  ·rw[if_pos h] at q1;cases q1
  ·by_cases h':k=i
   ·rw[if_pos h'] at q2;cases q2
   ·rw[if_neg h] at q1;rw[if_neg h'] at q2;exact F.inj j k a q1 q2
 ·obtain⟨o,w⟩:=F.trk0 a ha
  rw[z,hn.2] at w;cases w
 ·by_cases h:j=i
  ·rw[if_pos h] at q1;cases q1
  ·rw[if_neg h] at q1
   exact⟨⟨(F.new j a q1).1,λz=>h (F.inj j i p (z▸q1) e1)⟩,(F.new j a q1).2⟩
theorem Fm.sealD (F:Fm K H₀ O₀ H O own e σ) (i:Nat) {d:D} (hi:e.at i=.o d) (hd:d.isDct=true):∃p u,H p=some u∧((∃ps,u=.dK ps)∨∃ps,u=.dT ps)∧stAt σ i=some (.ref p)∧(O p∧MutO u) ∧
 ∀ob,(∃own',Fm K H₀ O₀ (upd H p (.frz ob u)) (minus O p) own' (e.set i (.v d)) σ)∧RD K (upd H p (.frz ob u)) (minus O p) d (.ref p):=by
 have q:=F.sl i
 rw[hi] at q
 obtain⟨p,e1,e2,h1⟩:=q
 have hn:=F.new i p e1
 have hlen:i < e.length:=by
  by_cases h:i < e.length
  ·exact h
  ·rw[at_out h] at hi;cases hi
 obtain⟨u,hu,hm⟩:=h1.obj
 have hk:((∃ps,u=.dK ps)∨∃ps,u=.dT ps)∧∀ob,RD K (upd H p (.frz ob u)) (minus O p) d (.ref p):=by
  cases d with
  | dct kvs =>
   obtain⟨ps,g1,g2⟩:=h1
   rw[g1] at hu
   cases hu
   exact⟨.inl ⟨ps,rfl⟩,λob=>⟨p,ps,rfl,⟨ob,upd_same⟩,(g2.updM hn.1 g1 trivial).weak λ_ z=>z.1⟩⟩
  | tdc kvs =>
   obtain⟨ps,g1,g2⟩:=h1
   rw[g1] at hu
   cases hu
   exact⟨.inr ⟨ps,rfl⟩,λob=>⟨p,ps,rfl,⟨ob,upd_same⟩,(g2.updM hn.1 g1 trivial).weak λ_ z=>z.1⟩⟩
  | _=>cases hd
 refine⟨p,u,hu,hk.1,e2,⟨hn.1,hm⟩,λob=>⟨⟨λj=>if j=i then none else own j,⟨by rw[List.length_set];exact F.len,λj=>?_,λj k a q1 q2=>?_,λb w hb=>?_,λa ha=>⟨F.sub a ha,λz=>?_⟩,F.trk0,λa ha=>?_,λj a q1=>?_,nw_put (λ_ z=>by cases z) F.nw⟩⟩,hk.2 ob⟩⟩
 ·by_cases h:i=j
  ·subst h
   rw[at_set_same hlen,e2]
   exact⟨.ref p,rfl,hk.2 ob⟩
  ·rw[at_set_ne h,if_neg (Ne.symm h)]
   refine RS.map (λq=>(q.updM hn.1 hu hm).weak λ_ z=>z.1) (λq=>(q.updM hn.1 hu hm).weak λ_ z=>z.1) (λq=>(q.updM hn.1 hu hm).weak λ_ z=>z.1) (λq=>(q.updM hn.1 hu hm).weak λ_ z=>z.1) (λa w ea _ q=>?_) (F.sl j) (λa xs n q=>?_) (upd_map (K:=K) hn.1 hu hm).1
   ·have:a≠p:=λz=>h (F.inj i j p e1 (z▸ea))
    rw[upd_ne this];exact q
   ·obtain⟨_,z2⟩:=nn_upd (o':=.frz ob u) hn.1 a xs n q
    exact⟨λz=>n z.1,z2⟩
 ·by_cases h:j=i
  ·rw[if_pos h] at q1;cases q1
  ·by_cases h':k=i
   ·rw[if_pos h'] at q2;cases q2
   ·rw[if_neg h] at q1;rw[if_neg h'] at q2;exact F.inj j k a q1 q2
 ·rw[upd_ne (λz=>by rw[z,hn.2] at hb;cases hb)];exact F.same b w hb
 ·obtain⟨o,w⟩:=F.trk0 a ha
  rw[z,hn.2] at w;cases w
 ·obtain⟨o,w⟩:=F.trk a ha.1
  exact⟨o,by rw[upd_ne ha.2];exact w⟩
 ·by_cases h:j=i
  ·rw[if_pos h] at q1;cases q1
  ·rw[if_neg h] at q1
   exact⟨⟨(F.new j a q1).1,λz=>h (F.inj j i p (z▸q1) e1)⟩,(F.new j a q1).2⟩
theorem Fm.val (F:Fm K H₀ O₀ H O own e σ) {i:Nat} {d:D} (h:(e.at i).val=.ok d):∃v,σ[i]?=some (some v)∧RD K H O d v:=by
 have q:=F.sl i
 cases z:e.at i with
 | no=>rw[z] at h;cases h
 | o d=>rw[z] at h;cases h
 | t d=>rw[z] at h;cases h
 | n d' =>
  rw[z] at h q
  cases h
  obtain⟨v,e1,r⟩:=q
  exact⟨v,st_get e1,r.rd⟩
 | v d' =>
  rw[z] at h q
  cases h
  obtain⟨v,e1,r⟩:=q
  exact⟨v,st_get e1,r⟩
theorem Fm.any (F:Fm K H₀ O₀ H O own e σ) {i:Nat} {d:D} (h:(e.at i).any=.ok d):∃v,σ[i]?=some (some v)∧RR K H O d v:=by
 have q:=F.sl i
 cases z:e.at i with
 | no=>rw[z] at h;cases h
 | t d=>rw[z] at h;cases h
 | o d' =>
  rw[z] at h q
  cases h
  obtain⟨a,e1,e2,h1⟩:=q
  exact⟨.ref a,st_get e2,.inr ⟨a,rfl,h1⟩⟩
 | n d' =>
  rw[z] at h q
  cases h
  obtain⟨v,e1,r⟩:=q
  exact⟨v,st_get e1,.inl r.rd⟩
 | v d' =>
  rw[z] at h q
  cases h
  obtain⟨v,e1,r⟩:=q
  exact⟨v,st_get e1,.inl r⟩
theorem Sl.own_ok {x:Sl} {a:List D} (h:x.own=.ok a):x=.o (.lst a):=by
 unfold Sl.own at h
 split at h
 ·cases h;rfl
 ·cases h
theorem Sl.ownD_ok {x:Sl} {a:List (Sum Int Str×D)} (h:x.ownD=.ok a):x=.o (.dct a):=by
 unfold Sl.ownD at h
 split at h
 ·cases h;rfl
 ·cases h
theorem Sl.ownT_ok {x:Sl} {a:List (List (Sum Int Str)×D)} (h:x.ownT=.ok a):x=.o (.tdc a):=by
 unfold Sl.ownT at h
 split at h
 ·cases h;rfl
 ·cases h
theorem Sl.ownA_ok {x:Sl} {a:D} (h:x.ownA=.ok a):x=.o a:=by
 unfold Sl.ownA at h
 split at h
 ·cases h;rfl
 ·cases h
end
noncomputable def NewL (K:PySem.W.Frag) (H H':Hp) (O:Addr→Prop) (d:D) (v:V):Prop:=d.still=false→∃a,v=.ref a∧H a=none∧OwnAt K H' (plus O a) a d
theorem NewL.back {K:PySem.W.Frag} {H1 H H':Hp} {O:Addr→Prop} {d:D} {v:V} (s:Same H1 H) (n:NewL K H H' O d v):NewL K H1 H' O d v:=λz=>by
 obtain⟨a,h1,h2,h3⟩:=n z
 exact⟨a,h1,s.free h2,h3⟩
theorem NewL.same {K:PySem.W.Frag} {H H1 H':Hp} {O:Addr→Prop} {d:D} {v:V} (s:Same H1 H') (n:NewL K H H1 O d v):NewL K H H' O d v:=λz=>by
 obtain⟨a,h1,h2,h3⟩:=n z
 exact⟨a,h1,h2,h3.same s⟩
theorem NewL.weak {K:PySem.W.Frag} {H H':Hp} {O O':Addr→Prop} {d:D} {v:V} (s:∀a,O' a→O a) (n:NewL K H H' O d v):NewL K H H' O' d v:=λz=>by
 obtain⟨a,h1,h2,h3⟩:=n z
 exact⟨a,h1,h2,h3.weak λb hb=>hb.imp (s b) id⟩
theorem NewL.still {K:PySem.W.Frag} {H H':Hp} {O:Addr→Prop} {d:D} {v:V} (h:d.still=true):NewL K H H' O d v:=λz=>by rw[h] at z;cases z
noncomputable def NewR (K:PySem.W.Frag) (H H':Hp) (O:Addr→Prop) (d:D) (v:V):Prop:=NewL K H H' O d v∧∀(ks:List Int) (a r:List D),d=.tup (ks.map D.int++.lst a::r)→∃t p ys vs,v=.ref t∧TupV K H' t (ks.map V.int++.ref p::vs)∧H p=none∧H' p=some (.lst ys)∧RDs K H' (plus O p) a ys∧RDs K H' (plus O p) r vs
theorem hasL_of (ks:List Int) (a r:List D):hasL (ks.map D.int++.lst a::r)=true:=by
 induction ks with
 | nil=>rfl
 | cons k ks ih=>exact ih
theorem NewR.of {K:PySem.W.Frag} {H H':Hp} {O:Addr→Prop} {d:D} {v:V} (n:NewL K H H' O d v) (h:tupL d=false):NewR K H H' O d v:=⟨n,λks a r z=>by
 subst z
 have h:hasL _=false:=h
 rw[hasL_of] at h;cases h⟩
section
variable (T:Tab) (cf:Nat→List D→Res D) (K:PySem.W.Frag) (H₀:Hp) (O₀:Addr→Prop)
noncomputable def tE (x:E):TE:=λσ H Q=>∃O own e d,Fm K H₀ O₀ H O own e σ∧evE T cf x e=.ok d∧∀v H',Same H H'→RD K H' O d v→(freshE T x=true→NewL K H H' O d v)→Q v H'
noncomputable def tR (x:E):TE:=λσ H Q=>∃O own e d,Fm K H₀ O₀ H O own e σ∧evE T cf x e=.ok d∧∀v H',Same H H'→RR K H' O d v→Q v H'
noncomputable def tT (x:E):TT:=λσ H Q=>∃O own e d k,Fm K H₀ O₀ H O own e σ∧evE T cf x e=.ok d∧d.truth=.ok k∧∀H',Same H H'→Q k H'
noncomputable def NewAs (H H':Hp) (O:Addr→Prop) (x:E) (ds:List D) (vs:List V):Prop:=∀j d v,freshE T (argAt x j)=true→ds[j]?=some d→vs[j]?=some v→NewL K H H' O d v
noncomputable def tAv (x:E):TA:=λσ H Q=>∃O own e ds,Fm K H₀ O₀ H O own e σ∧evA T cf x e=.ok ds∧∀vs H',Same H H'→RDs K H' O ds vs→NewAs T K H H' O x ds vs→Q vs H'
noncomputable def tAr (x:E):TA:=λσ H Q=>∃O own e ds,Fm K H₀ O₀ H O own e σ∧evA T cf x e=.ok ds∧∀vs H',Same H H'→RRs K H' O ds vs→Q vs H'
end
section
variable (T:Tab) (cf:Nat→List D→Res D) (X:Cx)
noncomputable def SE (x:E) (p:Expr):Prop:=∀H₀ O₀,PE X p (tE T cf X.K H₀ O₀ x)
noncomputable def SR (x:E) (p:Expr):Prop:=∀H₀ O₀,PE X p (tR T cf X.K H₀ O₀ x)
noncomputable def ST (x:E) (p:Expr):Prop:=∀H₀ O₀,PT X p (tT T cf X.K H₀ O₀ x)
noncomputable def SAv (x:E) (p:List Expr):Prop:=∀H₀ O₀,PA X p (tAv T cf X.K H₀ O₀ x)
noncomputable def SAr (x:E) (p:List Expr):Prop:=∀H₀ O₀,PA X p (tAr T cf X.K H₀ O₀ x)
end
section
variable {T:Tab} {cf:Nat→List D→Res D} {X:Cx} {x y z:E} {p q r:Expr} {pos:Pos}
theorem PE.imp {t t':TE} (h:∀σ H Q,t' σ H Q→t σ H Q) (hp:PE X p t):PE X p t':=λpins s σ H Q I q=>hp pins s σ H Q I (h σ H Q q)
theorem PT.imp {t t':TT} (h:∀σ H Q,t' σ H Q→t σ H Q) (hp:PT X p t):PT X p t':=λpins s σ H Q I q=>hp pins s σ H Q I (h σ H Q q)
theorem SE.sr (h:SE T cf X x p):SR T cf X x p:=λH₀ O₀=>PE.imp (λσ H Q ⟨O,own,e,d,F,ev,q⟩=>⟨O,own,e,d,F,ev,λv H' s r _=>q v H' s r.rr⟩) (h H₀ O₀)
theorem SAv.sr {ps:List Expr} (h:SAv T cf X x ps):SAr T cf X x ps:=λH₀ O₀ pos pins s σ H Q I ⟨O,own,e,ds,F,ev,q⟩=>h H₀ O₀ pos pins s σ H Q I ⟨O,own,e,ds,F,ev,λvs H' s r _=>q vs H' s r.rr⟩
theorem se_var {i:Nat} {n:Str} (hN:X.N[i]?=some n) (hv:Vis X.env.scope n) (hd:(n==("__debug__" : Str))=false) (hc:(n==("__classdict__" : Str))=false):SE T cf X (.var i) (.Name n pos):=λH₀ O₀ =>
 PE.imp (λσ H Q ⟨O,own,e,d,F,ev,q⟩=>by
  obtain⟨v,h1,h2⟩:=F.val (i:=i) (by rw[xE_var] at ev;exact ev)
  exact⟨v,h1,q v H (Same.refl H) h2 (λz=>by cases z)⟩) (pe_var hN hv hd hc)
theorem sr_rd {i:Nat} {n:Str} (hN:X.N[i]?=some n) (hv:Vis X.env.scope n) (hd:(n==("__debug__" : Str))=false) (hc:(n==("__classdict__" : Str))=false):SR T cf X (.rd i) (.Name n pos):=λH₀ O₀ =>
 PE.imp (λσ H Q ⟨O,own,e,d,F,ev,q⟩=>by
  obtain⟨v,h1,h2⟩:=F.any (i:=i) (by rw[xE_rd] at ev;exact ev)
  exact⟨v,h1,q v H (Same.refl H) h2⟩) (pe_var hN hv hd hc)
noncomputable def cstIs:D→Const→Bool
 | .non,.none=>true
 | .bl a,.bool b=>a==b
 | .int i,.int j=>i==j
 | .str a,.str b=>a==b
 | _,_=>false
theorem se_con {d:D} {c:Const} {k:Nat} (h:cstIs d c=true):SE T cf X (.con d) (.Constant c k pos):=λH₀ O₀=>by
 have fin:∀ {v:V} {σ:L2.St} {H:Hp} {Q:VK},(∀H O,RD X.K H O d v)→tE T cf X.K H₀ O₀ (.con d) σ H Q→Q v H:=λhv ⟨O,own,e,d',F,ev,q⟩=>by
  rw[xE_con] at ev;cases ev
  exact q _ _ (Same.refl _) (hv _ _) (λz=>by cases z)
 cases d<;>cases c<;>first
  | (exact absurd (show false=true from h) Bool.false_ne_true)
  | (exact PE.imp (λσ H Q w=>fin (v:=.non) (λ_ _=>rfl) w) pe_non)
  | (have e:=eq_of_beq (show _==_ from h);subst e;first
   | exact PE.imp (λσ H Q w=>fin (λ_ _=>rfl) w) pe_bl
   | exact PE.imp (λσ H Q w=>fin (λ_ _=>rfl) w) pe_int
   | exact PE.imp (λσ H Q w=>fin (λ_ _=>rfl) w) pe_str)
noncomputable def GlobIs (X:Cx) (n:Str) (d:D):Prop:=∃v u,X.mg n=some u∧RelV v u∧∀H O,RD X.K H O d v
theorem se_glob {g:Nat} {n:Str} (hg:Gl X n) (h:GlobIs X n (T.glob g)) (hd:(n==("__debug__" : Str))=false):SE T cf X (.glob g) (.Name n pos):=λH₀ O₀=>by
 obtain⟨v,u,hm,r,hv⟩:=h
 refine PE.imp (λσ H Q hq=>?_) (pe_glob (v:=v) hg hm r hd)
 obtain⟨O,own,e,d,F,ev,q⟩:=hq
 rw[xE_glob] at ev;cases ev
 exact q v H (Same.refl H) (hv H O) (λz=>by cases z)
noncomputable def rD2 (K:PySem.W.Frag) (f:D→D→Res D) (fr:Bool):R2:=λx y H Q=>∃O d1 d2 d,RR K H O d1 x∧RR K H O d2 y∧f d1 d2=.ok d∧(∀a,O a→∃o,H a=some o)∧∀v H',Same H H'→RD K H' O d v→(fr=true→NewL K H H' O d v)→Q v H'
theorem se_op2 {w:E} {pe:Expr} {f:D→D→Res D} (hw:∀e,evE T cf w e=(do let a ←evE T cf x e;let b ←evE T cf y e;f a b))
 (hop:∀ {ta tb:TE},PE X p ta→PE X q tb→PE X pe (tOp (rD2 X.K f (freshE T w)) ta tb)) (ha:SR T cf X x p) (hb:SR T cf X y q):SE T cf X w pe:=λH₀ O₀=>by
 refine PE.imp (λσ H Q hq=>?_) (hop (ha H₀ O₀) (hb H₀ O₀))
 obtain⟨O,own,e,d,F,ev,k⟩:=hq
 rw[hw] at ev
 obtain⟨d1,e1,ev⟩:=Res.bind_ok ev
 obtain⟨d2,e2,ev⟩:=Res.bind_ok ev
 refine⟨O,own,e,d1,F,e1,λv1 H1 s1 r1=>?_⟩
 refine⟨O,own,e,d2,F.grow s1,e2,λv2 H2 s2 r2=>?_⟩
 refine⟨O,d1,d2,d,r1.same s2,r2,ev,λa ha=>?_,λv H' s3 r3 n3=>?_⟩
 ·exact (F.grow (s1.trans s2)).trk a ha
 ·exact k v H' ((s1.trans s2).trans s3) r3 λfr=>(n3 fr).back (s1.trans s2)
end
noncomputable abbrev no:Addr→Prop:=λ_=>False
section
variable {X:Cx} {pins:List (Addr×Obj)} {σ:L2.St} {H:Hp} {s:Shared}
theorem sq_apart (I:Inv X pins σ H s) {a:Addr} {xs ys:List V} (h1:SqL X.K H a xs) (h2:SqT X.K H a ys):False:=by
 obtain⟨its,_,pl,_⟩:=I.list h1
 obtain⟨its',_,pt,_⟩:=I.tuple h2
 exact SeqAt.ne_of_list_tuple pl.isList pt rfl
theorem RD.sql {K:PySem.W.Frag} {O:Addr→Prop} {ds:List D} {v:V} (h:RD K H O (.lst ds) v):∃a xs,v=.ref a∧SqL K H a xs∧RDs K H O ds xs:=RR.lst (.inl h)
theorem dk_class (I:Inv X pins σ H s) {a:Addr} {ps:List (Key×V)} (h:Rd H a (.dK ps)):∃o,s.heap.get? a=some o∧o.cls=.type "dict" := by
 obtain⟨_,_,vs,_,o,es,ep,e,c,_⟩:=(show ObjOk X.prog X.w H s.heap a (.dK ps) from rd_of I.hok h)
 exact⟨o,e,c.1⟩
theorem dk_lst (I:Inv X pins σ H s) {a:Addr} {ps:List (Key×V)} {xs:List V} (h:Rd H a (.dK ps)) (h2:SqL X.K H a xs):False:=by
 obtain⟨its,_,pl,_⟩:=I.list h2
 obtain⟨o,e,c⟩:=dk_class I h
 obtain⟨o',e',c',_⟩:=pl.isList
 rw[e] at e';cases e'
 rw[c] at c'
 injection c' with z
 exact absurd z (by decide)
theorem dk_tup (I:Inv X pins σ H s) {a:Addr} {ps:List (Key×V)} {xs:List V} (h:Rd H a (.dK ps)) (h2:SqT X.K H a xs):False:=by
 obtain⟨its,_,pl,_⟩:=I.tuple h2
 obtain⟨o,e,c⟩:=dk_class I h
 obtain⟨o',e',c',_⟩:=pl
 rw[e] at e';cases e'
 rw[c] at c'
 injection c' with z
 exact absurd z (by decide)
theorem dt_class (I:Inv X pins σ H s) {a:Addr} {ps:List (List Key×V)} (h:Rd H a (.dT ps)):∃o,s.heap.get? a=some o∧o.cls=.type "dict" := by
 obtain⟨_,_,vs,_,o,es,ep,e,c,_⟩:=(show ObjOk X.prog X.w H s.heap a (.dT ps) from rd_of I.hok h)
 exact⟨o,e,c.1⟩
theorem dt_lst (I:Inv X pins σ H s) {a:Addr} {ps:List (List Key×V)} {xs:List V} (h:Rd H a (.dT ps)) (h2:SqL X.K H a xs):False:=by
 obtain⟨its,_,pl,_⟩:=I.list h2
 obtain⟨o,e,c⟩:=dt_class I h
 obtain⟨o',e',c',_⟩:=pl.isList
 rw[e] at e';cases e'
 rw[c] at c'
 injection c' with z
 exact absurd z (by decide)
theorem dt_tup (I:Inv X pins σ H s) {a:Addr} {ps:List (List Key×V)} {xs:List V} (h:Rd H a (.dT ps)) (h2:SqT X.K H a xs):False:=by
 obtain⟨its,_,pl,_⟩:=I.tuple h2
 obtain⟨o,e,c⟩:=dt_class I h
 obtain⟨o',e',c',_⟩:=pl
 rw[e] at e';cases e'
 rw[c] at c'
 injection c' with z
 exact absurd z (by decide)
mutual
theorem RD.inj (I:Inv X pins σ H s):∀ {d d':D} {v:V},RD X.K H no d v→RD X.K H no d' v→d=d'
 | .non,d',v,h,h'=>by cases (show v=.non from h);cases d'<;>first | (obtain⟨a,xs,e,_⟩:=h';cases e;done) | rfl | (cases h';done)
 | .bl b,d',v,h,h'=>by cases (show v=.bl b from h);cases d'<;>first | (obtain⟨a,xs,e,_⟩:=h';cases e;done) | rfl | (cases h';rfl) | (cases h';done)
 | .int b,d',v,h,h'=>by cases (show v=.int b from h);cases d'<;>first | (obtain⟨a,xs,e,_⟩:=h';cases e;done) | rfl | (cases h';rfl) | (cases h';done)
 | .str b,d',v,h,h'=>by cases (show v=.str b from h);cases d'<;>first | (obtain⟨a,xs,e,_⟩:=h';cases e;done) | rfl | (cases h';rfl) | (cases h';done)
 | .tup ds,d',v,h,h'=>by
  obtain⟨a,xs,e,q,r⟩:=h
  subst e
  cases d' with
  | tup ds' =>
   obtain⟨a',xs',e,q',r'⟩:=h'
   cases e
   have:=I.tuple_inj q.sq q'.sq
   subst this
   rw[RDs.inj I r r']
  | lst ds' =>
   obtain⟨a',xs',e,q',r'⟩:=RD.sql h'
   cases e
   exact (sq_apart I q' q.sq).elim
  | non=>cases h'
  | bl _=>cases h'
  | int _=>cases h'
  | str _=>cases h'
  | dct _ =>
   obtain⟨a',xs',e,q',r'⟩:=h'
   cases e
   exact (dk_tup I (.inr q') q.sq).elim
  | tdc _ =>
   obtain⟨a',xs',e,q',r'⟩:=h'
   cases e
   exact (dt_tup I (.inr q') q.sq).elim
 | .lst ds,d',v,h,h'=>by
  obtain⟨a,xs,e,q,r⟩:=RD.sql h
  subst e
  cases d' with
  | lst ds' =>
   obtain⟨a',xs',e,q',r'⟩:=RD.sql h'
   cases e
   have:=I.list_inj q q'
   subst this
   rw[RDs.inj I r r']
  | tup ds' =>
   obtain⟨a',xs',e,q',r'⟩:=h'
   cases e
   exact (sq_apart I q q'.sq).elim
  | non=>cases h'
  | bl _=>cases h'
  | int _=>cases h'
  | str _=>cases h'
  | dct _ =>
   obtain⟨a',xs',e,q',r'⟩:=h'
   cases e
   exact (dk_lst I (.inr q') q).elim
  | tdc _ =>
   obtain⟨a',xs',e,q',r'⟩:=h'
   cases e
   exact (dt_lst I (.inr q') q).elim
 | .dct kvs,d',v,h,h'=>by
  obtain⟨a,xs,e,q,r⟩:=h
  subst e
  cases d' with
  | dct kvs' =>
   obtain⟨a',xs',e,q',r'⟩:=h'
   cases e
   obtain⟨o1,q⟩:=q
   obtain⟨o2,q'⟩:=q'
   have:=q.symm.trans q'
   cases this
   rw[RDk.inj I r r']
  | tup ds' =>
   obtain⟨a',xs',e,q',r'⟩:=h'
   cases e
   exact (dk_tup I (.inr q) q'.sq).elim
  | lst ds' =>
   obtain⟨a',xs',e,q',r'⟩:=RD.sql h'
   cases e
   exact (dk_lst I (.inr q) q').elim
  | non=>cases h'
  | bl _=>cases h'
  | int _=>cases h'
  | str _=>cases h'
  | tdc _ =>
   obtain⟨a',xs',e,q',r'⟩:=h'
   cases e
   obtain⟨o1,q⟩:=q
   obtain⟨o2,q'⟩:=q'
   have:=q.symm.trans q'
   cases this
 | .tdc kvs,d',v,h,h'=>by
  obtain⟨a,xs,e,q,r⟩:=h
  subst e
  cases d' with
  | tdc kvs' =>
   obtain⟨a',xs',e,q',r'⟩:=h'
   cases e
   obtain⟨o1,q⟩:=q
   obtain⟨o2,q'⟩:=q'
   have:=q.symm.trans q'
   cases this
   rw[RDt.inj I r r']
  | tup ds' =>
   obtain⟨a',xs',e,q',r'⟩:=h'
   cases e
   exact (dt_tup I (.inr q) q'.sq).elim
  | lst ds' =>
   obtain⟨a',xs',e,q',r'⟩:=RD.sql h'
   cases e
   exact (dt_lst I (.inr q) q').elim
  | non=>cases h'
  | bl _=>cases h'
  | int _=>cases h'
  | str _=>cases h'
  | dct _ =>
   obtain⟨a',xs',e,q',r'⟩:=h'
   cases e
   obtain⟨o1,q⟩:=q
   obtain⟨o2,q'⟩:=q'
   have:=q.symm.trans q'
   cases this
theorem RDs.inj (I:Inv X pins σ H s):∀ {ds ds':List D} {vs:List V},RDs X.K H no ds vs→RDs X.K H no ds' vs→ds=ds'
 | [],[],_,_,_=>rfl
 | [],_::_,_,h,h'=>by
  rw[RDs] at h;subst h
  obtain⟨_,_,e,_⟩:=h';cases e
 | _::_,[],_,h,h'=>by
  rw[RDs] at h';subst h'
  obtain⟨_,_,e,_⟩:=h;cases e
 | d::ds,d'::ds',vs,h,h'=>by
  obtain⟨v,r,rfl,h1,h2⟩:=h
  obtain⟨v',r',e,h1',h2'⟩:=h'
  cases e
  rw[RD.inj I h1 h1',RDs.inj I h2 h2']
theorem RDk.inj (I:Inv X pins σ H s):∀ {ds ds':List (Sum Int Str×D)} {vs:List (Key×V)},RDk X.K H no ds vs→RDk X.K H no ds' vs→ds=ds'
 | [],[],_,_,_=>rfl
 | [],_::_,_,h,h'=>by
  rw[RDk] at h;subst h
  obtain⟨_,_,e,_⟩:=h';cases e
 | _::_,[],_,h,h'=>by
  rw[RDk] at h';subst h'
  obtain⟨_,_,e,_⟩:=h;cases e
 | (k,d)::ds,(k',d')::ds',vs,h,h'=>by
  obtain⟨v,r,rfl,h1,h2⟩:=h
  obtain⟨v',r',e,h1',h2'⟩:=h'
  cases e
  rw[RD.inj I h1 h1',RDk.inj I h2 h2']
theorem RDt.inj (I:Inv X pins σ H s):∀ {ds ds':List (List (Sum Int Str)×D)} {vs:List (List Key×V)},RDt X.K H no ds vs→RDt X.K H no ds' vs→ds=ds'
 | [],[],_,_,_=>rfl
 | [],_::_,_,h,h'=>by
  rw[RDt] at h;subst h
  obtain⟨_,_,e,_⟩:=h';cases e
 | _::_,[],_,h,h'=>by
  rw[RDt] at h';subst h'
  obtain⟨_,_,e,_⟩:=h;cases e
 | (k,d)::ds,(k',d')::ds',vs,h,h'=>by
  obtain⟨v,r,rfl,h1,h2⟩:=h
  obtain⟨v',r',e,h1',h2'⟩:=h'
  cases e
  rw[RD.inj I h1 h1',RDt.inj I h2 h2']
end
noncomputable def pairEq (xs ys:List D) (j:Nat):Bool:=match xs[j]?,ys[j]? with
 | some x,some y=>D.eqb x y
 | _,_=>false
theorem pairEq_succ (x y:D) (xs ys:List D) (j:Nat):pairEq (x::xs) (y::ys) (j+1)=pairEq xs ys j:=by simp[pairEq]
theorem eqs_all:∀xs ys:List D,xs.length=ys.length→(List.range xs.length).all (pairEq xs ys)=D.eqs xs ys
 | [],[],_=>by simp[D.eqs]
 | [],_::_,h=>by simp at h
 | _::_,[],h=>by simp at h
 | x::xs,y::ys,h=>by
  rw[List.length_cons,List.range_succ_eq_map,List.all_cons,List.all_map,D.eqs,←eqs_all xs ys (by simpa using h)]
  congr 1
theorem eqs_len:∀xs ys:List D,xs.length≠ys.length→D.eqs xs ys=false
 | [],[],h=>by simp at h
 | [],_::_,_=>by simp[D.eqs]
 | _::_,[],_=>by simp[D.eqs]
 | x::xs,y::ys,h=>by rw[D.eqs,eqs_len xs ys (by simpa using h),Bool.and_false]
theorem min_len {xs ys:List D}:((List.range (min xs.length ys.length)).all (pairEq xs ys)&&xs.length==ys.length)=D.eqs xs ys:=by
 by_cases h:xs.length=ys.length
 ·rw[←eqs_all xs ys h,h,Nat.min_self];simp
 ·rw[eqs_len xs ys h];simp[h]
class Fr1 (u:HO):Prop where
 no:∀o v,u≠.frz o v
noncomputable instance {ps:List (Key×V)}:Fr1 (.dK ps):=⟨λo v z=>by cases z⟩
noncomputable instance {ps:List (List Key×V)}:Fr1 (.dT ps):=⟨λo v z=>by cases z⟩
inductive Sees (X:Cx) (H:Hp) (s:Shared):D→Value→Prop
 | non:Sees X H s .non .none
 | bl (b):Sees X H s (.bl b) (.bool b)
 | int (i t):Sees X H s (.int i) (.int i t)
 | str (x t):Sees X H s (.str x) (.str x t)
 | tup (ds:List D) (a:Addr) (xs:List V) (its:List Value):SqT X.K H a xs→RDs X.K H no ds xs→Vals xs its→IsTup s.heap a its.toArray→Sees X H s (.tup ds) (.ref a)
 | lst (ds:List D) (a:Addr) (xs:List V) (its:List Value):SqL X.K H a xs→RDs X.K H no ds xs→Vals xs its→PlainL s.heap a its.toArray→Sees X H s (.lst ds) (.ref a)
 | dct (ds:List (Sum Int Str×D)) (a:Addr) (ps:List (Key×V)):Rd H a (.dK ps)→RDk X.K H no ds ps→Sees X H s (.dct ds) (.ref a)
 | tdc (ds:List (List (Sum Int Str)×D)) (a:Addr) (ps:List (List Key×V)):Rd H a (.dT ps)→RDt X.K H no ds ps→Sees X H s (.tdc ds) (.ref a)
theorem sees (I:Inv X pins σ H s) {d:D} {v:V} {u:Value} (h:RD X.K H no d v) (r:RelV v u):Sees X H s d u:=by
 cases d with
 | non=>cases (show v=.non from h);cases r;exact .non
 | bl b=>cases (show v=.bl b from h);cases r;exact .bl b
 | int i=>cases (show v=.int i from h);obtain⟨t,rfl⟩:=r;exact .int i t
 | str x=>cases (show v=.str x from h);obtain⟨t,rfl⟩:=r;exact .str x t
 | tup ds =>
  obtain⟨a,xs,rfl,q,w⟩:=h
  cases r
  obtain⟨its,r1,p1,_⟩:=I.tuple q.sq
  exact .tup ds a xs its q.sq w r1 p1
 | lst ds =>
  obtain⟨a,xs,rfl,q,w⟩:=RD.sql h
  cases r
  obtain⟨its,r1,p1,_⟩:=I.list q
  exact .lst ds a xs its q w r1 p1
 | dct ds =>
  obtain⟨a,ps,rfl,q,w⟩:=h
  cases r
  exact .dct ds a ps (.inr q) w
 | tdc ds =>
  obtain⟨a,ps,rfl,q,w⟩:=h
  cases r
  exact .tdc ds a ps (.inr q) w
theorem seesR (I:Inv X pins σ H s) {O:Addr→Prop} {d:D} {v:V} {u:Value} (h:RR X.K H O d v) (r:RelV v u):Sees X H s d u:=by
 have w:∀ {a:Addr},no a→O a:=λz=>z.elim
 rcases h with h | ⟨a,rfl,h⟩
 ·exact sees I (h.weak λ_ z=>z.elim) r
 ·cases r
  cases d with
  | lst ds=>exact sees I (OwnAt.rd (O:=no) (λz=>z) rfl (h.weak λ_ z=>z.elim)) rfl
  | dct ds =>
   obtain⟨ps,h1,h2⟩:=h
   exact .dct ds a ps (.inl h1) (h2.weak λ_ z=>z.elim)
  | tdc ds =>
   obtain⟨ps,h1,h2⟩:=h
   exact .tdc ds a ps (.inl h1) (h2.weak λ_ z=>z.elim)
  | _=>exact h.elim
theorem rd_one {a:Addr} {u u':HO} [Fr1 u] [Fr1 u'] (h:Rd H a u) (h':Rd H a u'):u=u':=by
 rcases h with h | ⟨o,h⟩
 ·rcases h' with h' | ⟨o',h'⟩
  ·exact Option.some.inj (h.symm.trans h')
  ·have e:=Option.some.inj (h.symm.trans h')
   exact (Fr1.no (u:=u) o' u' e).elim
 ·rcases h' with h' | ⟨o',h'⟩
  ·have e:=Option.some.inj (h'.symm.trans h)
   exact (Fr1.no (u:=u') o u e).elim
  ·have e:=Option.some.inj (h.symm.trans h')
   cases e;rfl
theorem rds_at {ds:List D} {xs:List V} {its:List Value} (w:RDs X.K H no ds xs) (r:Vals xs its):its.length=ds.length:=by rw[←r.length,w.length]
noncomputable def EqItems (X:Cx) (H:Hp) (s:Shared) (n:Nat):Prop:=∀(ds1 ds2:List D) (A:Around) (us1 us2:List Value) (xs1 xs2:List V),RDs X.K H no ds1 xs1→Vals xs1 us1→RDs X.K H no ds2 xs2→Vals xs2 us2→D.pls n ds1=true→D.pls n ds2=true→A.units+n < cLine →
 ∀j (h1:j < us1.length) (h2:j < us2.length),SeqAt.EqAt A.in1 s us1[j] us2[j] (pairEq ds1 ds2 j)
noncomputable def EqData (X:Cx) (H:Hp) (s:Shared) (n:Nat):Prop:=∀(d1 d2:D) (A:Around) (u1 u2:Value),Sees X H s d1 u1→Sees X H s d2 u2→D.pl n d1=true→D.pl n d2=true→A.units+n < cLine→SeqAt.EqAt A s u1 u2 (D.eqb d1 d2)
theorem eqData_of (I:Inv X pins σ H s) {n:Nat} (it:EqItems X H s n):EqData X H s n:=by
 intro d1 d2 A u1 u2 h1 h2 f1 f2 hu
 have hu':A.units < cLine:=by lia
 have nd2:∀ds,d2≠.dct ds:=λds z=>by rw[z,D.pl] at f2;cases f2
 have nt2:∀ds,d2≠.tdc ds:=λds z=>by rw[z,D.pl] at f2;cases f2
 cases h1 with
 | dct ds a ps q w=>rw[D.pl] at f1;cases f1
 | tdc ds a ps q w=>rw[D.pl] at f1;cases f1
 | non=>cases h2 with
  | non=>exact SeqAt.EqAt.same _
  | bl b=>exact SeqAt.EqAt.none_bool b
  | int b t=>exact SeqAt.EqAt.none_int b t
  | str b t=>exact SeqAt.EqAt.none_str b t
  | tup ds a xs its q w r p=>exact SeqAt.EqAt.none_tuple p hu'
  | lst ds a xs its q w r p=>exact SeqAt.EqAt.none_list p.isList hu'
  | dct ds a ps q w=>exact absurd rfl (nd2 ds)
  | tdc ds a ps q w=>exact absurd rfl (nt2 ds)
 | bl x=>cases h2 with
  | non=>exact SeqAt.EqAt.bool_none x
  | bl b=>exact SeqAt.EqAt.bool_bool x b
  | int b t=>exact SeqAt.EqAt.bool_int x b t
  | str b t=>exact SeqAt.EqAt.bool_str x b t
  | tup ds a xs its q w r p=>exact SeqAt.EqAt.bool_tuple x p hu'
  | lst ds a xs its q w r p=>exact SeqAt.EqAt.bool_list x p.isList hu'
  | dct ds a ps q w=>exact absurd rfl (nd2 ds)
  | tdc ds a ps q w=>exact absurd rfl (nt2 ds)
 | int x t'=>cases h2 with
  | non=>exact SeqAt.EqAt.int_none x t'
  | bl b=>exact SeqAt.EqAt.int_bool x t' b
  | int b t=>exact SeqAt.EqAt.int_int x t' b t
  | str b t=>exact SeqAt.EqAt.int_str x t' b t
  | tup ds a xs its q w r p=>exact SeqAt.EqAt.int_tuple x t' p hu'
  | lst ds a xs its q w r p=>exact SeqAt.EqAt.int_list x t' p.isList hu'
  | dct ds a ps q w=>exact absurd rfl (nd2 ds)
  | tdc ds a ps q w=>exact absurd rfl (nt2 ds)
 | str x t'=>cases h2 with
  | non=>exact SeqAt.EqAt.str_none x t'
  | bl b=>exact SeqAt.EqAt.str_bool x t' b
  | int b t=>exact SeqAt.EqAt.str_int x t' b t
  | str b t=>exact SeqAt.EqAt.str_str x t' b t
  | tup ds a xs its q w r p=>exact SeqAt.EqAt.str_tuple x t' p hu'
  | lst ds a xs its q w r p=>exact SeqAt.EqAt.str_list x t' p.isList hu'
  | dct ds a ps q w=>exact absurd rfl (nd2 ds)
  | tdc ds a ps q w=>exact absurd rfl (nt2 ds)
 | tup ds1 a1 xs1 its1 q1 w1 r1 p1=>cases h2 with
  | non=>exact SeqAt.EqAt.tuple_none p1 hu'
  | bl b=>exact SeqAt.EqAt.tuple_bool b p1 hu'
  | int b t=>exact SeqAt.EqAt.tuple_int b t p1 hu'
  | str b t=>exact SeqAt.EqAt.tuple_str b t p1 hu'
  | lst ds a xs its q w r p=>exact SeqAt.EqAt.tuple_list p1 p.isList hu'
  | dct ds a ps q w=>exact absurd rfl (nd2 ds)
  | tdc ds a ps q w=>exact absurd rfl (nt2 ds)
  | tup ds2 a2 xs2 its2 q2 w2 r2 p2 =>
   by_cases ha:a1=a2
   ·subst ha
    have:=I.tuple_inj q1 q2
    subst this
    have:=RDs.inj I w1 w2
    subst this
    rw[D.eqb_refl n _ f1]
    exact SeqAt.EqAt.same _
   ·rw[D.eqb,←min_len,←rds_at w1 r1,←rds_at w2 r2]
    have z:=SeqAt.EqAt.of_refs ha (SeqAt.RcAt.tuples (A:=A) (e:=pairEq ds1 ds2) p1 p2 hu' λj j1 j2=>by
     have:=it ds1 ds2 A its1 its2 xs1 xs2 w1 r1 w2 r2 (by rw[D.pl] at f1;exact f1) (by rw[D.pl] at f2;exact f2) hu j (by simpa using j1) (by simpa using j2)
     simpa using this)
    simpa using z
 | lst ds1 a1 xs1 its1 q1 w1 r1 p1=>cases h2 with
  | non=>exact SeqAt.EqAt.list_none p1.isList hu'
  | bl b=>exact SeqAt.EqAt.list_bool b p1.isList hu'
  | int b t=>exact SeqAt.EqAt.list_int b t p1.isList hu'
  | str b t=>exact SeqAt.EqAt.list_str b t p1.isList hu'
  | tup ds a xs its q w r p=>exact SeqAt.EqAt.list_tuple p1.isList p hu'
  | dct ds a ps q w=>exact absurd rfl (nd2 ds)
  | tdc ds a ps q w=>exact absurd rfl (nt2 ds)
  | lst ds2 a2 xs2 its2 q2 w2 r2 p2 =>
   by_cases ha:a1=a2
   ·subst ha
    have:=I.list_inj q1 q2
    subst this
    have:=RDs.inj I w1 w2
    subst this
    rw[D.eqb_refl n _ f1]
    exact SeqAt.EqAt.same _
   ·have l1:=rds_at w1 r1
    have l2:=rds_at w2 r2
    rw[D.eqb]
    by_cases hl:ds1.length=ds2.length
    ·rw[←eqs_all ds1 ds2 hl,←l1]
     have z:=SeqAt.EqAt.of_refs ha (SeqAt.RcAt.lists (A:=A) (e:=pairEq ds1 ds2) p1.isList p2.isList (by simp only[List.size_toArray];lia) hu' λj j1 j2=>by
      have:=it ds1 ds2 A its1 its2 xs1 xs2 w1 r1 w2 r2 (by rw[D.pl] at f1;exact f1) (by rw[D.pl] at f2;exact f2) hu j (by simpa using j1) (by simpa using j2)
      simpa using this)
     simpa using z
    ·rw[eqs_len ds1 ds2 hl]
     exact SeqAt.EqAt.of_refs ha (SeqAt.RcAt.lists_lengths p1.isList p2.isList (by simp only[List.size_toArray,bne_iff_ne,ne_eq];lia) hu')
theorem eqItems_zero:EqItems X H s 0:=by
 intro ds1 ds2 A us1 us2 xs1 xs2 w1 r1 w2 r2 f1 f2 hu j h1 h2
 cases ds1 with
 | nil =>
  rw[RDs] at w1;subst w1
  cases r1
  exact absurd h1 (Nat.not_lt_zero _)
 | cons d ds=>rw[D.pls] at f1;cases f1
theorem eqItems_succ (I:Inv X pins σ H s) {n:Nat} (ih:EqData X H s n):EqItems X H s (n+1):=by
 intro ds1
 induction ds1 with
 | nil =>
  intro ds2 A us1 us2 xs1 xs2 w1 r1 w2 r2 f1 f2 hu j h1 h2
  rw[RDs] at w1;subst w1
  cases r1
  exact absurd h1 (Nat.not_lt_zero _)
 | cons d1 ds1 ih2 =>
  intro ds2 A us1 us2 xs1 xs2 w1 r1 w2 r2 f1 f2 hu j h1 h2
  cases ds2 with
  | nil =>
   rw[RDs] at w2;subst w2
   cases r2
   exact absurd h2 (Nat.not_lt_zero _)
  | cons d2 ds2 =>
   obtain⟨v1,y1,rfl,e1,w1⟩:=w1
   obtain⟨v2,y2,rfl,e2,w2⟩:=w2
   cases r1 with
   | cons a1 r1 =>
    cases r2 with
    | cons a2 r2 =>
     rw[D.pls,Bool.and_eq_true] at f1 f2
     cases j with
     | zero=>exact ih d1 d2 A.in1 _ _ (sees I e1 a1) (sees I e2 a2) f1.1 f2.1 (by show A.units+1+n < cLine;lia)
     | succ j =>
      rw[pairEq_succ]
      exact ih2 ds2 A _ _ _ _ w1 r1 w2 r2 f1.2 f2.2 hu j (Nat.lt_of_succ_lt_succ h1) (Nat.lt_of_succ_lt_succ h2)
theorem eqItems (I:Inv X pins σ H s):∀n,EqItems X H s n
 | 0=>eqItems_zero
 | n+1=>eqItems_succ I (eqData_of I (eqItems I n))
theorem eqAt_D (I:Inv X pins σ H s) (n:Nat):EqData X H s n:=eqData_of I (eqItems I n)
theorem eqAt_Ds (I:Inv X pins σ H s) (n:Nat):EqItems X H s n:=eqItems I n
end
theorem same_upd {H:Hp} {p:Addr} (h:H p=none) (o:HO):Same H (upd H p o):=λb u q=>by rw[upd_ne (ne_of_none q h)];exact q
section
variable {K:PySem.W.Frag} {H:Hp} {O:Addr→Prop} {p:Addr} {ds:List D} {xs:List V}
theorem new_lst (w:RDs K H O ds xs) (hp:H p=none) (tr:∀a,O a→∃o,H a=some o):RD K (upd H p (.lst xs)) O (.lst ds) (.ref p)∧NewL K H (upd H p (.lst xs)) O (.lst ds) (.ref p):=by
 have nO:¬O p:=λz=>by
  obtain⟨o,q⟩:=tr p z
  rw[hp] at q;cases q
 exact⟨⟨p,xs,rfl,.inl ⟨nO,.inl upd_same⟩,w.same (same_upd hp _)⟩,λ_=>⟨p,rfl,hp,xs,upd_same,(w.new hp).same (same_upd hp _)⟩⟩
theorem new_dct {ds:List (Sum Int Str×D)} {ps:List (Key×V)} (w:RDk K H O ds ps) (hp:H p=none):OwnAt K (upd H p (.dK ps)) (plus O p) p (.dct ds):=⟨ps,upd_same,(w.new hp).same (same_upd hp _)⟩
theorem new_tdc {ds:List (List (Sum Int Str)×D)} {ps:List (List Key×V)} (w:RDt K H O ds ps) (hp:H p=none):OwnAt K (upd H p (.dT ps)) (plus O p) p (.tdc ds):=⟨ps,upd_same,(w.new hp).same (same_upd hp _)⟩
theorem new_tup (w:RDs K H O ds xs) (hp:H p=none):RD K (upd H p (.tup xs)) O (.tup ds) (.ref p):=⟨p,xs,rfl,.inl upd_same,w.same (same_upd hp _)⟩
end
section
variable {X:Cx} {pins:List (Addr×Obj)} {σ:L2.St} {H:Hp} {s:Shared}
theorem rcAt_D (I:Inv X pins σ H s) {n:Nat} {d1 d2:D} {A:Around} {u1 u2:Value} (h1:Sees X H s d1 u1) (h2:Sees X H s d2 u2) (f1:D.pl n d1=true) (f2:D.pl n d2=true) (hu:A.units+n < cLine):SeqAt.RcAt A s u1 u2 (D.eqb d1 d2):=by
 have hu':A.units < cLine:=by lia
 have nd2:∀ds,d2≠.dct ds:=λds z=>by rw[z,D.pl] at f2;cases f2
 have nt2:∀ds,d2≠.tdc ds:=λds z=>by rw[z,D.pl] at f2;cases f2
 cases h1 with
 | dct ds a ps q w=>rw[D.pl] at f1;cases f1
 | tdc ds a ps q w=>rw[D.pl] at f1;cases f1
 | non=>cases h2 with
  | non=>exact SeqAt.RcAt.none_none
  | bl b=>exact SeqAt.RcAt.none_bool b
  | int b t=>exact SeqAt.RcAt.none_int b t
  | str b t=>exact SeqAt.RcAt.none_str b t
  | tup ds a xs its q w r p=>exact SeqAt.RcAt.none_tuple p hu'
  | lst ds a xs its q w r p=>exact SeqAt.RcAt.none_list p.isList hu'
  | dct ds a ps q w=>exact absurd rfl (nd2 ds)
  | tdc ds a ps q w=>exact absurd rfl (nt2 ds)
 | bl x=>cases h2 with
  | non=>exact SeqAt.RcAt.bool_none x
  | bl b=>exact SeqAt.RcAt.bool_bool x b
  | int b t=>exact SeqAt.RcAt.bool_int x b t
  | str b t=>exact SeqAt.RcAt.bool_str x b t
  | tup ds a xs its q w r p=>exact SeqAt.RcAt.bool_tuple x p hu'
  | lst ds a xs its q w r p=>exact SeqAt.RcAt.bool_list x p.isList hu'
  | dct ds a ps q w=>exact absurd rfl (nd2 ds)
  | tdc ds a ps q w=>exact absurd rfl (nt2 ds)
 | int x t'=>cases h2 with
  | non=>exact SeqAt.RcAt.int_none x t'
  | bl b=>exact SeqAt.RcAt.int_bool x t' b
  | int b t=>exact SeqAt.RcAt.int_int x t' b t
  | str b t=>exact SeqAt.RcAt.int_str x t' b t
  | tup ds a xs its q w r p=>exact SeqAt.RcAt.int_tuple x t' p hu'
  | lst ds a xs its q w r p=>exact SeqAt.RcAt.int_list x t' p.isList hu'
  | dct ds a ps q w=>exact absurd rfl (nd2 ds)
  | tdc ds a ps q w=>exact absurd rfl (nt2 ds)
 | str x t'=>cases h2 with
  | non=>exact SeqAt.RcAt.str_none x t'
  | bl b=>exact SeqAt.RcAt.str_bool x t' b
  | int b t=>exact SeqAt.RcAt.str_int x t' b t
  | str b t=>exact SeqAt.RcAt.str_str x t' b t
  | tup ds a xs its q w r p=>exact SeqAt.RcAt.str_tuple x t' p hu'
  | lst ds a xs its q w r p=>exact SeqAt.RcAt.str_list x t' p.isList hu'
  | dct ds a ps q w=>exact absurd rfl (nd2 ds)
  | tdc ds a ps q w=>exact absurd rfl (nt2 ds)
 | tup ds1 a1 xs1 its1 q1 w1 r1 p1=>cases h2 with
  | non=>exact SeqAt.RcAt.tuple_none p1 hu'
  | bl b=>exact SeqAt.RcAt.tuple_bool b p1 hu'
  | int b t=>exact SeqAt.RcAt.tuple_int b t p1 hu'
  | str b t=>exact SeqAt.RcAt.tuple_str b t p1 hu'
  | lst ds a xs its q w r p=>exact SeqAt.RcAt.tuple_list p1 p.isList hu'
  | dct ds a ps q w=>exact absurd rfl (nd2 ds)
  | tdc ds a ps q w=>exact absurd rfl (nt2 ds)
  | tup ds2 a2 xs2 its2 q2 w2 r2 p2 =>
   rw[D.eqb,←min_len,←rds_at w1 r1,←rds_at w2 r2]
   have z:=SeqAt.RcAt.tuples (A:=A) (e:=pairEq ds1 ds2) p1 p2 hu' λj j1 j2=>by
    have:=eqAt_Ds I n ds1 ds2 A its1 its2 xs1 xs2 w1 r1 w2 r2 (by rw[D.pl] at f1;exact f1) (by rw[D.pl] at f2;exact f2) hu j (by simpa using j1) (by simpa using j2)
    simpa using this
   simpa using z
 | lst ds1 a1 xs1 its1 q1 w1 r1 p1=>cases h2 with
  | non=>exact SeqAt.RcAt.list_none p1.isList hu'
  | bl b=>exact SeqAt.RcAt.list_bool b p1.isList hu'
  | int b t=>exact SeqAt.RcAt.list_int b t p1.isList hu'
  | str b t=>exact SeqAt.RcAt.list_str b t p1.isList hu'
  | tup ds a xs its q w r p=>exact SeqAt.RcAt.list_tuple p1.isList p hu'
  | dct ds a ps q w=>exact absurd rfl (nd2 ds)
  | tdc ds a ps q w=>exact absurd rfl (nt2 ds)
  | lst ds2 a2 xs2 its2 q2 w2 r2 p2 =>
   have l1:=rds_at w1 r1
   have l2:=rds_at w2 r2
   rw[D.eqb]
   by_cases hl:ds1.length=ds2.length
   ·rw[←eqs_all ds1 ds2 hl,←l1]
    have z:=SeqAt.RcAt.lists (A:=A) (e:=pairEq ds1 ds2) p1.isList p2.isList (by simp only[List.size_toArray];lia) hu' λj j1 j2=>by
     have:=eqAt_Ds I n ds1 ds2 A its1 its2 xs1 xs2 w1 r1 w2 r2 (by rw[D.pl] at f1;exact f1) (by rw[D.pl] at f2;exact f2) hu j (by simpa using j1) (by simpa using j2)
     simpa using this
    simpa using z
   ·rw[eqs_len ds1 ds2 hl]
    exact SeqAt.RcAt.lists_lengths p1.isList p2.isList (by simp only[List.size_toArray,bne_iff_ne,ne_eq];lia) hu'
theorem rcNeAt_D (I:Inv X pins σ H s) {n:Nat} {d1 d2:D} {A:Around} {u1 u2:Value} (h1:Sees X H s d1 u1) (h2:Sees X H s d2 u2) (f1:D.pl n d1=true) (f2:D.pl n d2=true) (hu:A.units+n < cLine):SeqAt.RcNeAt A s u1 u2 (!D.eqb d1 d2):=by
 have hu':A.units < cLine:=by lia
 have nd2:∀ds,d2≠.dct ds:=λds z=>by rw[z,D.pl] at f2;cases f2
 have nt2:∀ds,d2≠.tdc ds:=λds z=>by rw[z,D.pl] at f2;cases f2
 cases h1 with
 | dct ds a ps q w=>rw[D.pl] at f1;cases f1
 | tdc ds a ps q w=>rw[D.pl] at f1;cases f1
 | non=>cases h2 with
  | non=>exact SeqAt.RcNeAt.none_none
  | bl b=>exact SeqAt.RcNeAt.none_bool b
  | int b t=>exact SeqAt.RcNeAt.none_int b t
  | str b t=>exact SeqAt.RcNeAt.none_str b t
  | tup ds a xs its q w r p=>exact SeqAt.RcNeAt.none_tuple p hu'
  | lst ds a xs its q w r p=>exact SeqAt.RcNeAt.none_list p.isList hu'
  | dct ds a ps q w=>exact absurd rfl (nd2 ds)
  | tdc ds a ps q w=>exact absurd rfl (nt2 ds)
 | bl x=>cases h2 with
  | non=>exact SeqAt.RcNeAt.bool_none x
  | bl b=>exact SeqAt.RcNeAt.bool_bool x b
  | int b t=>exact SeqAt.RcNeAt.bool_int x b t
  | str b t=>exact SeqAt.RcNeAt.bool_str x b t
  | tup ds a xs its q w r p=>exact SeqAt.RcNeAt.bool_tuple x p hu'
  | lst ds a xs its q w r p=>exact SeqAt.RcNeAt.bool_list x p.isList hu'
  | dct ds a ps q w=>exact absurd rfl (nd2 ds)
  | tdc ds a ps q w=>exact absurd rfl (nt2 ds)
 | int x t'=>cases h2 with
  | non=>exact SeqAt.RcNeAt.int_none x t'
  | bl b=>exact SeqAt.RcNeAt.int_bool x t' b
  | int b t=>exact SeqAt.RcNeAt.int_int x t' b t
  | str b t=>exact SeqAt.RcNeAt.int_str x t' b t
  | tup ds a xs its q w r p=>exact SeqAt.RcNeAt.int_tuple x t' p hu'
  | lst ds a xs its q w r p=>exact SeqAt.RcNeAt.int_list x t' p.isList hu'
  | dct ds a ps q w=>exact absurd rfl (nd2 ds)
  | tdc ds a ps q w=>exact absurd rfl (nt2 ds)
 | str x t'=>cases h2 with
  | non=>exact SeqAt.RcNeAt.str_none x t'
  | bl b=>exact SeqAt.RcNeAt.str_bool x t' b
  | int b t=>exact SeqAt.RcNeAt.str_int x t' b t
  | str b t=>exact SeqAt.RcNeAt.str_str x t' b t
  | tup ds a xs its q w r p=>exact SeqAt.RcNeAt.str_tuple x t' p hu'
  | lst ds a xs its q w r p=>exact SeqAt.RcNeAt.str_list x t' p.isList hu'
  | dct ds a ps q w=>exact absurd rfl (nd2 ds)
  | tdc ds a ps q w=>exact absurd rfl (nt2 ds)
 | tup ds1 a1 xs1 its1 q1 w1 r1 p1=>cases h2 with
  | non=>exact SeqAt.RcNeAt.tuple_none p1 hu'
  | bl b=>exact SeqAt.RcNeAt.tuple_bool b p1 hu'
  | int b t=>exact SeqAt.RcNeAt.tuple_int b t p1 hu'
  | str b t=>exact SeqAt.RcNeAt.tuple_str b t p1 hu'
  | lst ds a xs its q w r p=>exact SeqAt.RcNeAt.tuple_list p1 p.isList hu'
  | dct ds a ps q w=>exact absurd rfl (nd2 ds)
  | tdc ds a ps q w=>exact absurd rfl (nt2 ds)
  | tup ds2 a2 xs2 its2 q2 w2 r2 p2 =>
   rw[D.eqb,←min_len,←rds_at w1 r1,←rds_at w2 r2]
   have z:=SeqAt.RcNeAt.tuples (A:=A) (e:=pairEq ds1 ds2) p1 p2 hu' λj j1 j2=>by
    have:=eqAt_Ds I n ds1 ds2 A its1 its2 xs1 xs2 w1 r1 w2 r2 (by rw[D.pl] at f1;exact f1) (by rw[D.pl] at f2;exact f2) hu j (by simpa using j1) (by simpa using j2)
    simpa using this
   simpa using z
 | lst ds1 a1 xs1 its1 q1 w1 r1 p1=>cases h2 with
  | non=>exact SeqAt.RcNeAt.list_none p1.isList hu'
  | bl b=>exact SeqAt.RcNeAt.list_bool b p1.isList hu'
  | int b t=>exact SeqAt.RcNeAt.list_int b t p1.isList hu'
  | str b t=>exact SeqAt.RcNeAt.list_str b t p1.isList hu'
  | tup ds a xs its q w r p=>exact SeqAt.RcNeAt.list_tuple p1.isList p hu'
  | dct ds a ps q w=>exact absurd rfl (nd2 ds)
  | tdc ds a ps q w=>exact absurd rfl (nt2 ds)
  | lst ds2 a2 xs2 its2 q2 w2 r2 p2 =>
   have l1:=rds_at w1 r1
   have l2:=rds_at w2 r2
   rw[D.eqb]
   by_cases hl:ds1.length=ds2.length
   ·rw[←eqs_all ds1 ds2 hl,←l1]
    have z:=SeqAt.RcNeAt.lists (A:=A) (e:=pairEq ds1 ds2) p1.isList p2.isList (by simp only[List.size_toArray];lia) hu' λj j1 j2=>by
     have:=eqAt_Ds I n ds1 ds2 A its1 its2 xs1 xs2 w1 r1 w2 r2 (by rw[D.pl] at f1;exact f1) (by rw[D.pl] at f2;exact f2) hu j (by simpa using j1) (by simpa using j2)
     simpa using this
    simpa using z
   ·rw[eqs_len ds1 ds2 hl]
    exact SeqAt.RcNeAt.lists_lengths p1.isList p2.isList (by simp only[List.size_toArray,bne_iff_ne,ne_eq];lia) hu'
end
section
variable {X:Cx}
theorem big_line:big=sizeLine:=by rw[sizeLine_eq];rfl
theorem op_catS:OpR X (binaryOp .Add) (λx y H Q=>∃l b xs zs,x=.ref l∧y=.ref b∧SqL X.K H l xs∧SqL X.K H b zs∧xs.length+zs.length≤sizeLine∧∀p,H p=none→Q (.ref p) (upd H p (.lst (xs++zs)))):=by
 intro pins s σ H x y v u Q I rx ry h
 obtain⟨l,b,xs,zs,rfl,rfl,hH,hB,hz,q⟩:=h
 cases rx
 cases ry
 obtain⟨its,r,pl,z⟩:=I.list hH
 obtain⟨its2,r2,pl2,z2⟩:=I.list hB
 have hl:=r.length
 have hl2:=r2.length
 obtain⟨⟨cls,dd,data,sl⟩,ho,hc,n,hd⟩:=pl.isList
 obtain⟨⟨cls2,dd2,data2,sl2⟩,ho2,hc2,n2,hd2⟩:=pl2.isList
 simp only at hc hd hc2 hd2
 subst hc hd hc2 hd2
 have ea:its.toArray++its2.toArray=(its++its2).toArray:=by simp
 refine concat_meets ⟨_,ho,rfl⟩ ⟨_,ho2,rfl⟩ noFill_list_add seq_list_add PySem.F.slot_list_add PySem.F.entry_list_add (PySem.F.args_list_add_2 _ _) (list_addW l b its.toArray its2.toArray n n2 dd dd2 sl sl2 (by simp only[List.size_toArray];lia)) ⟨ho,ho2,?_⟩
 rw[ea]
 exact⟨.ref _,_,I.lnew (t':=s.toks) (r.append r2) (by rw[List.length_append];lia),rfl,q _ I.fresh⟩
theorem op_catT0:OpR X (binaryOp .Add) (λx y H Q=>∃a b xs ys,x=.ref a∧y=.ref b∧SqT X.K H a xs∧SqT X.K H b ys∧xs.length+ys.length≤sizeLine ∧
 (xs=[]→Q (.ref b) H)∧(ys=[]→Q (.ref a) H)∧∀p,H p=none→Q (.ref p) (upd H p (.tup (xs++ys)))):=by
 intro pins s σ H x y v u Q I rx ry h
 obtain⟨a,b,xs,ys,rfl,rfl,ha,hb,hz,q0,q1,q2⟩:=h
 by_cases hx:xs=[]
 ·cases rx
  cases ry
  obtain⟨its,r1,p1,_⟩:=I.tuple ha
  obtain⟨its2,r2,p2,_⟩:=I.tuple hb
  obtain⟨⟨cls,dd,data,sl⟩,ho,hc,n,hd⟩:=id p1
  obtain⟨⟨cls2,dd2,data2,sl2⟩,ho2,hc2,n2,hd2⟩:=id p2
  simp only at hc hd hc2 hd2
  subst hc hd hc2 hd2
  have hv:its=[]:=r1.nil_iff.mpr hx
  exact concat_meets ⟨_,ho,rfl⟩ ⟨_,ho2,rfl⟩ noFill_tuple_add seq_tuple_add PySem.F.slot_tuple_add PySem.F.entry_tuple_add (PySem.F.args_tuple_add_2 _ _)
   (tuple_addW0 a b its.toArray its2.toArray n n2 dd dd2 sl sl2 (by simp[hv])) ⟨ho,ho2,⟨.ref b,H,I,rfl,q0 hx⟩⟩
 ·exact op_catT pins s σ H _ _ v u Q I rx ry ⟨a,b,xs,ys,rfl,rfl,ha,hb,hx,hz,q1,λ_=>q2⟩
end
section
variable {X:Cx}
noncomputable def Roomy (X:Cx):Prop:=X.A.units+64 < cLine
theorem RDs.rep {K:PySem.W.Frag} {H:Hp} {O:Addr→Prop} {ds:List D} {vs:List V} (h:RDs K H O ds vs):∀n:Nat,RDs K H O (List.replicate n ds).flatten (List.replicate n vs).flatten
 | 0=>rfl
 | n+1=>by
  rw[List.replicate_succ,List.replicate_succ,List.flatten_cons,List.flatten_cons]
  exact RDs.append h (RDs.rep h n)
theorem opr_bin (o:Operator) (fr:Bool) (hfr:fr=true→o=.Add):OpR X (binaryOp o) (rD2 X.K (D.bin o) fr):=by
 intro pins s σ H x y v u Q I rx ry h
 obtain⟨O,d1,d2,d,r1,r2,ev,tr,k⟩:=h
 have kk:∀w,d.still=true→RD X.K H O d w→Q w H:=λw n r=>k w H (Same.refl H) r λ_=>NewL.still n
 unfold D.bin at ev
 split at ev
 ·cases ev
  cases (show x=_ from r1.rd rfl)
  cases (show y=_ from r2.rd rfl)
  exact op_add pins s σ H _ _ v u Q I rx ry ⟨_,_,rfl,rfl,kk _ rfl rfl⟩
 ·obtain⟨c,ev⟩:=when_ok ev
  cases ev
  cases (show x=_ from r1.rd rfl)
  cases (show y=_ from r2.rd rfl)
  exact op_add_str pins s σ H _ _ v u Q I rx ry ⟨_,_,rfl,rfl,by rw[←big_line];exact of_decide_eq_true c,kk _ rfl rfl⟩
 ·obtain⟨c,ev⟩:=when_ok ev
  cases ev
  obtain⟨a1,xs1,rfl,q1,w1⟩:=r1.lst
  obtain⟨a2,xs2,rfl,q2,w2⟩:=r2.lst
  refine op_catS pins s σ H _ _ v u Q I rx ry ⟨a1,a2,xs1,xs2,rfl,rfl,q1,q2,by rw[←big_line,w1.length,w2.length];exact of_decide_eq_true c,λp hp=>?_⟩
  have z:=new_lst (w1.append w2) hp tr
  exact k _ _ (same_upd hp _) z.1 λ_=>z.2
 ·obtain⟨c,ev⟩:=when_ok ev
  cases ev
  obtain⟨a1,xs1,rfl,q1,w1⟩:=r1.tupV
  obtain⟨a2,xs2,rfl,q2,w2⟩:=r2.tupV
  refine op_catT0 pins s σ H _ _ v u Q I rx ry ⟨a1,a2,xs1,xs2,rfl,rfl,q1.sq,q2.sq,by rw[←big_line,w1.length,w2.length];exact of_decide_eq_true c,λz=>?_,λz=>?_,λp hp=>?_⟩
  ·subst z
   have e:=w1.length
   have e':_=[]:=List.eq_nil_of_length_eq_zero e.symm
   subst e'
   exact kk _ rfl ⟨a2,xs2,rfl,q2,by simpa using w2⟩
  ·subst z
   have e:=w2.length
   have e':_=[]:=List.eq_nil_of_length_eq_zero e.symm
   subst e'
   exact kk _ rfl ⟨a1,xs1,rfl,q1,by simpa using w1⟩
  ·have z:=new_tup (w1.append w2) hp
   exact k _ _ (same_upd hp _) z λ_=>NewL.still rfl
 ·cases ev
  cases (show x=_ from r1.rd rfl)
  cases (show y=_ from r2.rd rfl)
  exact op_sub pins s σ H _ _ v u Q I rx ry ⟨_,_,rfl,rfl,kk _ rfl rfl⟩
 ·obtain⟨c,ev⟩:=when_ok ev
  cases ev
  cases (show x=_ from r1.rd rfl)
  cases (show y=_ from r2.rd rfl)
  refine op_mul pins s σ H _ _ v u Q I rx ry ⟨_,_,rfl,rfl,?_,kk _ rfl rfl⟩
  simp only[small64,Bool.or_eq_true,Bool.and_eq_true,decide_eq_true_eq] at c
  exact c
 ·rename_i aa jj
  obtain⟨c,ev⟩:=when_ok ev
  cases ev
  simp only[Bool.and_eq_true,decide_eq_true_eq] at c
  obtain⟨a1,xs1,rfl,q1,w1⟩:=r1.lst
  cases (show y=_ from r2.rd rfl)
  cases rx
  obtain⟨t,rfl⟩:=ry
  obtain⟨its,r,⟨⟨cls0,dd0,dat0,sl0⟩,n0,pl,pc,_,pd⟩,hz⟩:=I.list q1
  dsimp only at pc pd
  subst pc pd
  have hl1:its.length=1:=by rw[←r.length,w1.length];exact c.1.1
  refine mul_listP pl hl1 ⟨c.1.2,c.2⟩ ?_
  have hp:=I.hok.fresh (Nat.le_refl s.heap.objs.size)
  have hlen:(List.replicate jj.toNat xs1).flatten.length≤sizeLine:=by
   rw[len_rep,w1.length,c.1.1,sizeLine_eq]
   have:=c.2
   lia
  refine⟨.ref s.heap.objs.size,_,I.laid (o:=.lst (List.replicate jj.toNat xs1).flatten) (t':=s.toks) (λb u e=>Heap.get?_push_of_some _ e) (Nat.le_refl _) ⟨hlen,_,0,r.rep _,Heap.get?_push_size _ rfl⟩,rfl,?_⟩
  have z:=new_lst (w1.rep jj.toNat) hp tr
  exact k _ _ (same_upd hp _) z.1 λ_=>z.2
 ·rename_i aa jj
  obtain⟨c,ev⟩:=when_ok ev
  cases ev
  simp only[Bool.and_eq_true,decide_eq_true_eq] at c
  obtain⟨a1,xs1,rfl,q1,w1⟩:=r1.tupV
  cases (show y=_ from r2.rd rfl)
  cases rx
  obtain⟨t,rfl⟩:=ry
  obtain⟨its,r,pl,hz⟩:=I.tuple q1.sq
  have hl1:its.length=1:=by rw[←r.length,w1.length];exact c.1.1
  refine mul_tuple pl hl1 ⟨c.1.2,c.2⟩ (λz=>?_) (λz=>?_)
  ·subst z
   refine⟨.ref a1,H,I,rfl,kk _ rfl ⟨a1,xs1,rfl,q1,?_⟩⟩
   simpa using w1
  ·have hp:=I.hok.fresh (Nat.le_refl s.heap.objs.size)
   have hlen:(List.replicate jj.toNat xs1).flatten.length≤sizeLine:=by
    rw[len_rep,w1.length,c.1.1,sizeLine_eq]
    have:=c.2
    lia
   refine⟨.ref s.heap.objs.size,_,I.laid (o:=.tup (List.replicate jj.toNat xs1).flatten) (t':=s.toks) (λb u e=>Heap.get?_push_of_some _ e) (Nat.le_refl _) ⟨hlen,_,r.rep _,⟨_,Heap.get?_push_size _ rfl,rfl,_,rfl⟩⟩,rfl,?_⟩
   exact k _ _ (same_upd hp _) (new_tup (w1.rep _) hp) λ_=>NewL.still rfl
 ·obtain⟨c,ev⟩:=when_ok ev
  cases ev
  cases (show x=_ from r1.rd rfl)
  cases (show y=_ from r2.rd rfl)
  refine op_fdiv pins s σ H _ _ v u Q I rx ry ⟨_,_,rfl,rfl,?_,kk _ rfl rfl⟩
  simp only[Bool.and_eq_true,decide_eq_true_eq] at c
  exact c
 ·obtain⟨c,ev⟩:=when_ok ev
  cases ev
  cases (show x=_ from r1.rd rfl)
  cases (show y=_ from r2.rd rfl)
  exact op_mod pins s σ H _ _ v u Q I rx ry ⟨_,_,rfl,rfl,of_decide_eq_true c,kk _ rfl rfl⟩
 ·obtain⟨c,ev⟩:=when_ok ev
  cases ev
  cases (show x=_ from r1.rd rfl)
  cases (show y=_ from r2.rd rfl)
  refine op_pow pins s σ H _ _ v u Q I rx ry ⟨_,_,rfl,rfl,?_,kk _ rfl rfl⟩
  simp only[Bool.and_eq_true,decide_eq_true_eq] at c
  exact⟨c.1.1,c.1.2,c.2⟩
 ·cases ev
theorem rdk_val {K:PySem.W.Frag} {H:Hp} {O:Addr→Prop} {k:Key}:∀ {ds:List (Sum Int Str×D)} {ps:List (Key×V)},RDk K H O ds ps→(∀d,valK ds k=some d→∃v,valV ps k=some v∧RD K H O d v)∧(valK ds k).isSome=(valV ps k).isSome
 | [],ps,h=>by
  rw[RDk] at h;subst h
  exact⟨λd e=>(by cases e),rfl⟩
 | (k',d')::ds,ps,h=>by
  obtain⟨v,r,rfl,h1,h2⟩:=h
  have ih:=rdk_val (k:=k) h2
  by_cases e:k'=k
  ·subst e
   have e1:valK ((k',d')::ds) k'=some d':=by simp[valK,List.find?_cons]
   rw[e1,valV_pos (p:=(k',v)) rfl]
   exact⟨λd z=>(by cases z;exact⟨v,rfl,h1⟩),rfl⟩
  ·have e1:valK ((k',d')::ds) k=valK ds k:=by simp[valK,List.find?_cons,e]
   rw[e1,valV_neg (p:=(k',v)) e]
   exact ih
theorem rdk_put {K:PySem.W.Frag} {H:Hp} {O:Addr→Prop} {k:Key} {d:D} {v:V} (hv:RD K H O d v) {ds:List (Sum Int Str×D)} {ps:List (Key×V)} (h:RDk K H O ds ps):RDk K H O (putKD ds k d) (putK ps k v):=by
 have any:∀ {ds:List (Sum Int Str×D)} {ps:List (Key×V)},RDk K H O ds ps→(ds.any λkv=>decide (kv.1=k))=(ps.any λkv=>decide (kv.1=k)):=by
  intro ds
  induction ds with
  | nil=>intro ps h;rw[RDk] at h;subst h;rfl
  | cons p ds ih =>
   intro ps h
   obtain⟨k',d'⟩:=p
   obtain⟨v',r,rfl,h1,h2⟩:=h
   rw[List.any_cons,List.any_cons,ih h2]
 have mp:∀ {ds:List (Sum Int Str×D)} {ps:List (Key×V)},RDk K H O ds ps→RDk K H O (ds.map (λkv=>if kv.1=k then (kv.1,d) else kv)) (ps.map (λkv=>if kv.1=k then (kv.1,v) else kv)):=by
  intro ds
  induction ds with
  | nil=>intro ps h;rw[RDk] at h;subst h;exact rfl
  | cons p ds ih =>
   intro ps h
   obtain⟨k',d'⟩:=p
   obtain⟨v',r,rfl,h1,h2⟩:=h
   rw[List.map_cons,List.map_cons]
   by_cases e:k'=k
   ·rw[if_pos e,if_pos e];exact⟨v,_,rfl,hv,ih h2⟩
   ·rw[if_neg e,if_neg e];exact⟨v',_,rfl,h1,ih h2⟩
 have ap:∀ {ds:List (Sum Int Str×D)} {ps:List (Key×V)},RDk K H O ds ps→RDk K H O (ds++[(k,d)]) (ps++[(k,v)]):=by
  intro ds
  induction ds with
  | nil=>intro ps h;rw[RDk] at h;subst h;exact⟨v,[],rfl,hv,rfl⟩
  | cons p ds ih =>
   intro ps h
   obtain⟨k',d'⟩:=p
   obtain⟨v',r,rfl,h1,h2⟩:=h
   exact⟨v',_,rfl,h1,ih h2⟩
 unfold putKD putK
 rw[any h]
 split
 ·exact mp h
 ·exact ap h
theorem rdt_val {K:PySem.W.Frag} {H:Hp} {O:Addr→Prop} {k:List Key}:∀ {ds:List (List (Sum Int Str)×D)} {ps:List (List Key×V)},RDt K H O ds ps→(∀d,valT ds k=some d→∃v,valV ps k=some v∧RD K H O d v)∧(valT ds k).isSome=(valV ps k).isSome
 | [],ps,h=>by
  rw[RDt] at h;subst h
  exact⟨λd e=>(by cases e),rfl⟩
 | (k',d')::ds,ps,h=>by
  obtain⟨v,r,rfl,h1,h2⟩:=h
  have ih:=rdt_val (k:=k) h2
  by_cases e:k'=k
  ·subst e
   have e1:valT ((k',d')::ds) k'=some d':=by simp[valT,List.find?_cons]
   rw[e1,valV_pos (p:=(k',v)) rfl]
   exact⟨λd z=>(by cases z;exact⟨v,rfl,h1⟩),rfl⟩
  ·have e1:valT ((k',d')::ds) k=valT ds k:=by simp[valT,List.find?_cons,e]
   rw[e1,valV_neg (p:=(k',v)) e]
   exact ih
theorem rdt_put {K:PySem.W.Frag} {H:Hp} {O:Addr→Prop} {k:List Key} {d:D} {v:V} (hv:RD K H O d v) {ds:List (List (Sum Int Str)×D)} {ps:List (List Key×V)} (h:RDt K H O ds ps):RDt K H O (putTD ds k d) (putK ps k v):=by
 have any:∀ {ds:List (List (Sum Int Str)×D)} {ps:List (List Key×V)},RDt K H O ds ps→(ds.any λkv=>decide (kv.1=k))=(ps.any λkv=>decide (kv.1=k)):=by
  intro ds
  induction ds with
  | nil=>intro ps h;rw[RDt] at h;subst h;rfl
  | cons p ds ih =>
   intro ps h
   obtain⟨k',d'⟩:=p
   obtain⟨v',r,rfl,h1,h2⟩:=h
   rw[List.any_cons,List.any_cons,ih h2]
 have mp:∀ {ds:List (List (Sum Int Str)×D)} {ps:List (List Key×V)},RDt K H O ds ps→RDt K H O (ds.map (λkv=>if kv.1=k then (kv.1,d) else kv)) (ps.map (λkv=>if kv.1=k then (kv.1,v) else kv)):=by
  intro ds
  induction ds with
  | nil=>intro ps h;rw[RDt] at h;subst h;exact rfl
  | cons p ds ih =>
   intro ps h
   obtain⟨k',d'⟩:=p
   obtain⟨v',r,rfl,h1,h2⟩:=h
   rw[List.map_cons,List.map_cons]
   by_cases e:k'=k
   ·rw[if_pos e,if_pos e];exact⟨v,_,rfl,hv,ih h2⟩
   ·rw[if_neg e,if_neg e];exact⟨v',_,rfl,h1,ih h2⟩
 have ap:∀ {ds:List (List (Sum Int Str)×D)} {ps:List (List Key×V)},RDt K H O ds ps→RDt K H O (ds++[(k,d)]) (ps++[(k,v)]):=by
  intro ds
  induction ds with
  | nil=>intro ps h;rw[RDt] at h;subst h;exact⟨v,[],rfl,hv,rfl⟩
  | cons p ds ih =>
   intro ps h
   obtain⟨k',d'⟩:=p
   obtain⟨v',r,rfl,h1,h2⟩:=h
   exact⟨v',_,rfl,h1,ih h2⟩
 unfold putTD putK
 rw[any h]
 split
 ·exact mp h
 ·exact ap h
theorem key_val {K:PySem.W.Frag} {H:Hp} {O:Addr→Prop} {d:D} {v:V} {k:Key} (h:keyOf d=some k) (r:RR K H O d v):v=kV k:=by
 cases d with
 | int i=>cases h;exact r.rd rfl
 | str i=>cases h;exact r.rd rfl
 | non=>cases h
 | bl _=>cases h
 | tup _=>cases h
 | lst _=>cases h
 | dct _=>cases h
 | tdc _=>cases h
theorem keysI_T:∀ {ds:List D} {ks:List Key},keysI ds=some ks→keysT ds=some ks∧∀k∈ks,∃i,k=.inl i
 | [],ks,h=>by cases h;exact⟨rfl,λk hk=>by cases hk⟩
 | .int i::r,ks,h=>by
  rw[keysI] at h
  cases e:keysI r with
  | none=>rw[e] at h;cases h
  | some q =>
   rw[e] at h
   cases h
   obtain⟨h1,h2⟩:=keysI_T e
   refine⟨by rw[keysT,h1];rfl,λk hk=>?_⟩
   rcases List.mem_cons.mp hk with rfl | hk
   ·exact⟨i,rfl⟩
   ·exact h2 k hk
 | .non::_,_,h | .bl _::_,_,h | .str _::_,_,h | .tup _::_,_,h | .lst _::_,_,h | .dct _::_,_,h | .tdc _::_,_,h=>by cases h
theorem keys_valT {K:PySem.W.Frag} {H:Hp} {O:Addr→Prop}:∀ {ds:List D} {ks:List Key} {vs:List V},keysT ds=some ks→RDs K H O ds vs→vs=ks.map kV
 | [],ks,vs,h,r=>by
  cases h
  rw[RDs] at r;subst r;rfl
 | d::ds,ks,vs,h,r=>by
  obtain⟨v,q,rfl,r1,r2⟩:=r
  rw[keysT] at h
  cases e1:keyOf d with
  | none=>rw[e1] at h;cases h
  | some k =>
   rw[e1] at h
   cases e2:keysT ds with
   | none=>rw[e2] at h;cases h
   | some ks' =>
    rw[e2] at h
    cases h
    rw[key_val e1 r1.rr,keys_valT e2 r2];rfl
theorem tup_key {K:PySem.W.Frag} {H:Hp} {O:Addr→Prop} {ds:List D} {ks:List Key} {xs:List V} {b:Addr} (h:keysI ds=some ks) (w:RDs K H O ds xs) (q:TupV K H b xs):H b=some (.tup (ks.map kV)):=by
 obtain⟨h1,h2⟩:=keysI_T h
 have e:=keys_valT h1 w
 subst e
 rcases q with q | ⟨⟨ss,hne,e⟩,_⟩
 ·exact q
 ·exfalso
  cases ss with
  | nil=>exact hne rfl
  | cons x ss =>
   cases ks with
   | nil=>cases e
   | cons k ks =>
    obtain⟨i,rfl⟩:=h2 k List.mem_cons_self
    injection e with e _
    cases e
theorem of_ok {α:Type} {o:Option α} {a:α} (h:Res.of o=.ok a):o=some a:=by
 cases o with
 | none=>cases h
 | some b=>cases h;rfl
theorem Sees.inj {H:Hp} {s:Shared} {pins:List (Addr×Obj)} {σ:L2.St} (I:Inv X pins σ H s) {d d':D} {w:Value} (h:Sees X H s d w) (h':Sees X H s d' w):d=d':=by
 cases h with
 | non=>cases h';rfl
 | bl b=>cases h';rfl
 | int i t=>cases h';rfl
 | str x t=>cases h';rfl
 | tup ds a xs its q w r p =>
  cases h' with
  | tup ds' _ xs' its' q' w' r' p'=>have:=I.tuple_inj q q';subst this;rw[RDs.inj I w w']
  | lst ds' _ xs' its' q' w' r' p'=>exact (sq_apart I q' q).elim
  | dct ds' _ ps' q' w'=>exact (dk_tup I q' q).elim
  | tdc ds' _ ps' q' w'=>exact (dt_tup I q' q).elim
 | dct ds a ps q w =>
  cases h' with
  | dct ds' _ ps' q' w'=>have:=rd_one q q';cases this;rw[RDk.inj I w w']
  | tup ds' _ xs' its' q' w' r' p'=>exact (dk_tup I q q').elim
  | lst ds' _ xs' its' q' w' r' p'=>exact (dk_lst I q q').elim
  | tdc ds' _ ps' q' w'=>have:=rd_one q q';cases this
 | tdc ds a ps q w =>
  cases h' with
  | tdc ds' _ ps' q' w'=>have:=rd_one q q';cases this;rw[RDt.inj I w w']
  | tup ds' _ xs' its' q' w' r' p'=>exact (dt_tup I q q').elim
  | lst ds' _ xs' its' q' w' r' p'=>exact (dt_lst I q q').elim
  | dct ds' _ ps' q' w'=>have:=rd_one q q';cases this
 | lst ds a xs its q w r p =>
  cases h' with
  | lst ds' _ xs' its' q' w' r' p'=>have:=I.list_inj q q';subst this;rw[RDs.inj I w w']
  | tup ds' _ xs' its' q' w' r' p'=>exact (sq_apart I q q').elim
  | dct ds' _ ps' q' w'=>exact (dk_lst I q' q).elim
  | tdc ds' _ ps' q' w'=>exact (dt_lst I q' q).elim
open Classical in
noncomputable def seen (X:Cx) (H:Hp) (s:Shared) (x:D) (w:Value):Bool:=decide (∃d,Sees X H s d w∧D.eqb d x=true)
theorem seen_eq {H:Hp} {s:Shared} {pins:List (Addr×Obj)} {σ:L2.St} (I:Inv X pins σ H s) {d x:D} {w:Value} (sd:Sees X H s d w):seen X H s x w=D.eqb d x:=by
 classical
 unfold seen
 by_cases h:D.eqb d x=true
 ·rw[h];simp only[decide_eq_true_eq];exact⟨d,sd,h⟩
 ·have h':D.eqb d x=false:=by simpa using h
  rw[h']
  simp only[decide_eq_false_iff_not]
  rintro⟨d',sd',h''⟩
  rw[Sees.inj I sd' sd] at h''
  exact h h''
theorem in_tab {H:Hp} {s:Shared} {pins:List (Addr×Obj)} {σ:L2.St} (I:Inv X pins σ H s) {x:D} {ux:Value} {n:Nat} {A:Around} (hx:Sees X H s x ux) (fx:D.pl n x=true) (hu:A.units+n < cLine) :
 ∀ {ds:List D} {xs:List V} {us:List Value},RDs X.K H no ds xs→Vals xs us→D.pls (n+1) ds=true→(∀w∈us,SeqAt.EqAt A s w ux (seen X H s x w))∧us.any (seen X H s x)=D.mem x ds
 | [],xs,us,w,r,f=>by
  rw[RDs] at w;subst w;cases r
  exact⟨λw h=>absurd h List.not_mem_nil,rfl⟩
 | d::ds,xs,us,w,r,f=>by
  obtain⟨v,ys,rfl,e1,e2⟩:=w
  rw[D.pls,Bool.and_eq_true] at f
  cases r with
  | cons a1 r1 =>
   have ih:=in_tab I hx fx hu e2 r1 f.2
   have sd:=sees I e1 a1
   refine⟨λw hw=>?_,?_⟩
   ·rcases List.mem_cons.mp hw with rfl | hw
    ·rw[seen_eq I sd]
     exact eqAt_D I n d x A w ux sd hx f.1 fx hu
    ·exact ih.1 w hw
   ·rw[List.any_cons,D.mem,ih.2,seen_eq I sd]
theorem isNon_eq {K:PySem.W.Frag} {H:Hp} {d:D} {x:V} (r:RD K H no d x):decide (x=.non)=D.isNon d:=by
 cases d with
 | non=>cases (show x=.non from r);rfl
 | bl b=>cases (show x=.bl b from r);rfl
 | int b=>cases (show x=.int b from r);rfl
 | str b=>cases (show x=.str b from r);rfl
 | tup ds=>obtain⟨a,xs,rfl,_⟩:=r;rfl
 | lst ds=>obtain⟨a,xs,rfl,_⟩:=r;rfl
 | dct ds=>obtain⟨a,xs,rfl,_⟩:=r;rfl
 | tdc ds=>obtain⟨a,xs,rfl,_⟩:=r;rfl
theorem isNon_eqR {K:PySem.W.Frag} {H:Hp} {O:Addr→Prop} {d:D} {x:V} (r:RR K H O d x):decide (x=.non)=D.isNon d:=by
 rcases r with r | ⟨a,rfl,h⟩
 ·exact isNon_eq (r.weak λ_ z=>z.elim)
 ·cases d<;>first | rfl | exact h.elim
theorem opr_cmp (o:CmpOp) (hroom:Roomy X):OpR X (compareOp o) (rD2 X.K (D.cmp o) false):=by
 intro pins s σ H x y v u Q I rx ry h
 obtain⟨O,d1,d2,d,r1,r2,ev,tr,k⟩:=h
 have hroom':X.A.units+64 < cLine:=hroom
 have kk:∀b,d=.bl b→Q (.bl b) H:=λb e=>k _ H (Same.refl H) (by subst e;exact rfl) λz=>by cases z
 have s1:=seesR I r1 rx
 have s2:=seesR I r2 ry
 unfold D.cmp at ev
 split at ev
 ·obtain⟨c,ev⟩:=when_ok ev
  cases ev
  unfold D.eqOk at c
  rw[Bool.and_eq_true] at c
  exact rcAt_D I s1 s2 c.1 c.2 (by lia) X.prog X.w X.xe _ ⟨.bl _,H,I,rfl,kk _ rfl⟩
 ·obtain⟨c,ev⟩:=when_ok ev
  cases ev
  unfold D.eqOk at c
  rw[Bool.and_eq_true] at c
  exact rcNeAt_D I s1 s2 c.1 c.2 (by lia) X.prog X.w X.xe _ ⟨.bl _,H,I,rfl,kk _ rfl⟩
 ·cases ev
  cases (show x=_ from r1.rd rfl)
  cases (show y=_ from r2.rd rfl)
  exact op_lt pins s σ H _ _ v u Q I rx ry ⟨_,_,rfl,rfl,kk _ rfl⟩
 ·cases ev
  cases (show x=_ from r1.rd rfl)
  cases (show y=_ from r2.rd rfl)
  exact op_le pins s σ H _ _ v u Q I rx ry ⟨_,_,rfl,rfl,kk _ rfl⟩
 ·cases ev
  cases (show x=_ from r1.rd rfl)
  cases (show y=_ from r2.rd rfl)
  exact op_gt pins s σ H _ _ v u Q I rx ry ⟨_,_,rfl,rfl,kk _ rfl⟩
 ·cases ev
  cases (show x=_ from r1.rd rfl)
  cases (show y=_ from r2.rd rfl)
  exact op_ge pins s σ H _ _ v u Q I rx ry ⟨_,_,rfl,rfl,kk _ rfl⟩
 ·cases ev
  cases (show y=_ from r2.rd rfl)
  have e:decide (x=.non)=D.isNon d1:=isNon_eqR r1
  exact op_isN pins s σ H _ _ v u Q I rx ry ⟨rfl,by rw[e];exact kk _ rfl⟩
 ·cases ev
  cases (show y=_ from r2.rd rfl)
  have e:decide (x=.non)=D.isNon d1:=isNon_eqR r1
  exact op_notN pins s σ H _ _ v u Q I rx ry ⟨rfl,by rw[e];exact kk _ rfl⟩
 ·cases ev
  cases (show x=_ from r1.rd rfl)
  cases (show y=_ from r2.rd rfl)
  cases rx
  cases ry
  exact is_bool (fin_bl I (kk _ rfl) rfl)
 ·cases ev
  cases (show x=_ from r1.rd rfl)
  cases (show y=_ from r2.rd rfl)
  cases rx
  cases ry
  exact isnot_bool (fin_bl I (kk _ rfl) rfl)
 ·obtain⟨b,e1,ev⟩:=Res.bind_ok ev
  cases ev
  unfold D.inn at e1
  split at e1
  ·obtain⟨c,e1⟩:=when_ok e1
   cases e1
   rw[Bool.and_eq_true] at c
   cases s2 with
   | lst ds a xs its q w r p =>
    have t:=in_tab I (n:=29) (A:=X.A.in1) s1 c.2 (by show X.A.units+1+29 < cLine;lia) w r c.1
    refine SeqAt.in_listAt (seen X H s d1) p.isList (λw hw=>t.1 w (by simpa using hw)) ⟨.bl _,H,I,rfl,?_⟩
    rw[show its.toArray.any (seen X H s d1)=its.any (seen X H s d1) by simp,t.2]
    exact kk _ rfl
  ·obtain⟨c,e1⟩:=when_ok e1
   cases e1
   rw[Bool.and_eq_true] at c
   cases s2 with
   | tup ds a xs its q w r p =>
    have t:=in_tab I (n:=29) (A:=X.A.in1) s1 c.2 (by show X.A.units+1+29 < cLine;lia) w r c.1
    refine SeqAt.in_tupleAt (seen X H s d1) p (λw hw=>t.1 w (by simpa using hw)) ⟨.bl _,H,I,rfl,?_⟩
    rw[show its.toArray.any (seen X H s d1)=its.any (seen X H s d1) by simp,t.2]
    exact kk _ rfl
  ·obtain⟨key,e2,e1⟩:=Res.bind_ok e1
   cases e1
   obtain⟨a,ps,rfl,q,w⟩:=r2.dct
   cases ry
   have ex:=key_val (of_ok e2) r1
   subst ex
   refine d_in (by lia) I (.inl ⟨ps,key,q,rfl,rfl⟩) rx λs' I'=>⟨.bl _,H,I',rfl,?_⟩
   rw[←(rdk_val (k:=key) w).2]
   exact kk _ rfl
  ·split at e1
   ·obtain⟨key,e2,e1⟩:=Res.bind_ok e1
    cases e1
    obtain⟨a,ps,rfl,q,w⟩:=r2.tdc
    cases ry
    obtain⟨b',xs,rfl,tq,w1⟩:=r1.tupV
    refine d_in (by lia) I (.inr ⟨ps,key,b',q,rfl,tup_key (of_ok e2) w1 tq,rfl⟩) rx λs' I'=>⟨.bl _,H,I',rfl,?_⟩
    rw[←(rdt_val (k:=key) w).2]
    exact kk _ rfl
   ·cases e1
  ·split at e1
   ·cases (show x=_ from r1.rd rfl)
    cases (show y=_ from r2.rd rfl)
    exact op_in_str pins s σ H _ _ v u Q I rx ry ⟨_,_,rfl,rfl,by rw[oneIn_ok e1];exact kk _ rfl⟩
   ·cases e1
  ·cases e1
 ·obtain⟨b,e1,ev⟩:=Res.bind_ok ev
  cases ev
  unfold D.inn at e1
  split at e1
  ·obtain⟨c,e1⟩:=when_ok e1
   cases e1
   rw[Bool.and_eq_true] at c
   cases s2 with
   | lst ds a xs its q w r p =>
    have t:=in_tab I (n:=29) (A:=X.A.in1) s1 c.2 (by show X.A.units+1+29 < cLine;lia) w r c.1
    refine SeqAt.notIn_listAt (seen X H s d1) p.isList (λw hw=>t.1 w (by simpa using hw)) ⟨.bl _,H,I,rfl,?_⟩
    rw[show its.toArray.any (seen X H s d1)=its.any (seen X H s d1) by simp,t.2]
    exact kk _ rfl
  ·obtain⟨c,e1⟩:=when_ok e1
   cases e1
   rw[Bool.and_eq_true] at c
   cases s2 with
   | tup ds a xs its q w r p =>
    have t:=in_tab I (n:=29) (A:=X.A.in1) s1 c.2 (by show X.A.units+1+29 < cLine;lia) w r c.1
    refine SeqAt.notIn_tupleAt (seen X H s d1) p (λw hw=>t.1 w (by simpa using hw)) ⟨.bl _,H,I,rfl,?_⟩
    rw[show its.toArray.any (seen X H s d1)=its.any (seen X H s d1) by simp,t.2]
    exact kk _ rfl
  ·obtain⟨key,e2,e1⟩:=Res.bind_ok e1
   cases e1
   obtain⟨a,ps,rfl,q,w⟩:=r2.dct
   cases ry
   have ex:=key_val (of_ok e2) r1
   subst ex
   refine d_notIn (by lia) I (.inl ⟨ps,key,q,rfl,rfl⟩) rx λs' I'=>⟨.bl _,H,I',rfl,?_⟩
   rw[←(rdk_val (k:=key) w).2]
   exact kk _ rfl
  ·split at e1
   ·obtain⟨key,e2,e1⟩:=Res.bind_ok e1
    cases e1
    obtain⟨a,ps,rfl,q,w⟩:=r2.tdc
    cases ry
    obtain⟨b',xs,rfl,tq,w1⟩:=r1.tupV
    refine d_notIn (by lia) I (.inr ⟨ps,key,b',q,rfl,tup_key (of_ok e2) w1 tq,rfl⟩) rx λs' I'=>⟨.bl _,H,I',rfl,?_⟩
    rw[←(rdt_val (k:=key) w).2]
    exact kk _ rfl
   ·cases e1
  ·split at e1
   ·cases (show x=_ from r1.rd rfl)
    cases (show y=_ from r2.rd rfl)
    exact op_notin_str pins s σ H _ _ v u Q I rx ry ⟨_,_,rfl,rfl,by rw[oneIn_ok e1];exact kk _ rfl⟩
   ·cases e1
  ·cases e1
 ·cases ev
theorem ixN_eq (n:Nat) (i:Int):Tr.ixN n i=L2.ixN n i:=rfl
theorem rds_atI {K:PySem.W.Frag} {H:Hp} {O:Addr→Prop} {ds:List D} {xs:List V} {i:Int} {d:D} (w:RDs K H O ds xs) (h:Tr.atI ds i=some d):∃v,L2.atI xs i=some v∧RD K H O d v:=by
 unfold Tr.atI at h
 unfold L2.atI
 rw[w.length]
 rw[ixN_eq] at h
 cases e:L2.ixN ds.length i with
 | none=>rw[e] at h;cases h
 | some j =>
  rw[e] at h
  exact w.get h
theorem d_ix {value slice:Expr} {pins:List (Addr×Obj)} {s:Shared} {σ:L2.St} {H:Hp} {a:Addr} {y v0:V} {u:Value} {Q:VK} (I:Inv X pins σ H s) (g:DGet H a y (some v0)) (ry:RelV y u) (hroom:Roomy X) (q:Q v0 H)
 (hs:subscripted slice false (.ref a) u=operate [.ref a,u] (getItem (.ref a) u)):wpAny (model X.prog X.w) X.A (subscriptTail value slice (.ref a) u) (EP X pins σ Q) X.xe s:=by
 have hroom':X.A.units+64 < cLine:=hroom
 have hT:=dict_typeIs I g
 unfold subscriptTail
 refine wpAny_bind ?_
 rw[getitemInPython_of_ne hT.not_modules]
 refine wpAny_bind (wpAny_specialOf hT PySem.F.slot_dict_getitem.lookup ?_)
 have fin:wpAny (model X.prog X.w) X.A (subscripted slice false (.ref a) u) (λr s₃=>wpAny (model X.prog X.w) X.A (letTemporaryGo value (.ref a) r>>=λ_=>pure r) (EP X pins σ Q) X.xe s₃) X.xe s:=by
  rw[hs]
  exact wpAny_operating (d_getItem (by lia) I g ry λw' s3 I3 rw'=>wpAny_bind (wpAny_letTemporaryGo (wpAny_pure ⟨v0,H,I3,rw',q⟩)))
 first
  | exact wpAny_pure (wpAny_bind fin)
  | exact wpAny_bind (wpAny_pure (wpAny_bind fin))
  | exact wpAny_bind fin
theorem ixr (hroom:Roomy X):IxR X (rD2 X.K D.ix false):=by
 intro value slice pins s σ H x y v u Q I rx ry h hs
 obtain⟨O,d1,d2,d,r1,r2,ev,tr,k⟩:=h
 have kk:∀w,RD X.K H O d w→Q w H:=λw r=>k w H (Same.refl H) r λz=>by cases z
 unfold D.ix at ev
 split at ev
 ·obtain⟨a1,xs1,rfl,q1,w1⟩:=r1.lst
  cases (show y=_ from r2.rd rfl)
  rename_i ds i
  cases e:Tr.atI ds i with
  | none=>rw[e] at ev;cases ev
  | some d0 =>
   rw[e] at ev;cases ev
   obtain⟨w,h1,h2⟩:=rds_atI w1 e
   exact ix_list value slice pins s σ H _ _ v u Q I rx ry ⟨a1,xs1,_,w,rfl,rfl,q1,h1,kk w h2⟩ hs
 ·obtain⟨a1,xs1,rfl,q1,w1⟩:=r1.tup
  cases (show y=_ from r2.rd rfl)
  rename_i ds i
  cases e:Tr.atI ds i with
  | none=>rw[e] at ev;cases ev
  | some d0 =>
   rw[e] at ev;cases ev
   obtain⟨w,h1,h2⟩:=rds_atI w1 e
   exact ix_tup value slice pins s σ H _ _ v u Q I rx ry ⟨a1,xs1,_,w,rfl,rfl,q1,h1,kk w h2⟩ hs
 ·rename_i z i
  obtain⟨c,ev⟩:=when_ok ev
  cases (show x=.str z from r1.rd rfl)
  cases (show y=.int i from r2.rd rfl)
  cases e:Tr.atI z.cps.toList i with
  | none=>rw[e] at ev;cases ev
  | some c0 =>
   rw[e] at ev;cases ev
   exact ix_str value slice pins s σ H _ _ v u Q I rx ry ⟨z,i,c0,rfl,rfl,by rw[←big_line];exact of_decide_eq_true c,e,kk _ rfl⟩ hs
 ·rename_i kvs y0
  obtain⟨key,e2,ev⟩:=Res.bind_ok ev
  obtain⟨a,ps,rfl,q,w⟩:=r1.dct
  cases rx
  have ex:=key_val (of_ok e2) r2
  subst ex
  have hroom':X.A.units+64 < cLine:=hroom
  obtain⟨v0,h1,h2⟩:=(rdk_val (k:=key) w).1 _ (of_ok ev)
  have g:DGet H a (kV key) (some v0):=.inl ⟨ps,key,q,rfl,h1.symm⟩
  exact d_ix I g ry hroom (kk v0 h2) hs
 ·rename_i kvs ks
  obtain⟨key,e2,ev⟩:=Res.bind_ok ev
  obtain⟨a,ps,rfl,q,w⟩:=r1.tdc
  cases rx
  obtain⟨b',xs,rfl,tq,w1⟩:=r2.tupV
  obtain⟨v0,h1,h2⟩:=(rdt_val (k:=key) w).1 _ (of_ok ev)
  have g:DGet H a (.ref b') (some v0):=.inr ⟨ps,key,b',q,rfl,tup_key (of_ok e2) w1 tq,h1.symm⟩
  exact d_ix I g ry hroom (kk v0 h2) hs
 ·cases ev
end
noncomputable def plainX:Expr→Bool
 | .Starred _ _=>false
 | .Slice _ _ _ _=>false
 | .Set _ _ _=>false
 | _=>true
theorem plain_ix {e:Expr} (h:plainX e=true):PlainIx e:=by
 intro o i
 cases e<;>first | rfl | (cases h)
theorem plain_star {e:Expr} {es:List Expr} {env:Env} (h:plainX e=true):starEach (e::es) env=(false,eval e env)::starEach es env:=by
 cases e<;>first | rfl | (cases h)
theorem plain_any {pos:Pos} {env:Env}:∀ {es:List Expr},es.all plainX=true→(backTo pos (starEach es env)).any (·.1)=false
 | [],_=>rfl
 | e::es,h=>by
  rw[List.all_cons,Bool.and_eq_true] at h
  have ih:=plain_any (pos:=pos) (env:=env) h.2
  rw[plain_star h.1]
  show (false||(backTo pos (starEach es env)).any (·.1))=false
  rw[ih];rfl
theorem plain_mark {o:CmpOp} {e:Expr} (h:plainX e=true):behindInMarks o e=false:=by
 cases e<;>first | rfl | (cases h)
theorem plain_fold {e:Expr} {env:Env} (h:plainX e=true):∀x,foldedSetIterable e env x=pure x:=by
 intro x
 cases e<;>first | rfl | (cases h)
section
variable {T:Tab} {cf:Nat→List D→Res D} {X:Cx} {x y z:E} {p q r:Expr} {pos:Pos} {es:List Expr}
theorem se_bin {o:Operator} (ha:SR T cf X x p) (hb:SR T cf X y q):SE T cf X (.bin o x y) (.BinOp p o q pos) :=
 se_op2 (f:=D.bin o) (λe=>rfl) (λh1 h2=>pe_op (opr_bin o _ (by cases o<;>first | (intro _;rfl) | (intro z;cases z))) h1 h2) ha hb
theorem se_cmp {o:CmpOp} (hR:Roomy X) (hm:plainX q=true) (ha:SR T cf X x p) (hb:SR T cf X y q):SE T cf X (.cmp o x y) (.Compare p [o] [q] pos) :=
 se_op2 (f:=D.cmp o) (λe=>rfl) (λh1 h2=>pe_cmpR (opr_cmp o hR) h1 h2 (plain_mark hm)) ha hb
theorem se_ix (hR:Roomy X) (hm:plainX q=true) (ha:SR T cf X x p) (hb:SR T cf X y q):SE T cf X (.ix x y) (.Subscript p q pos) :=
 se_op2 (f:=D.ix) (λe=>rfl) (λh1 h2=>pe_ix (ixr hR) h1 h2 (plain_ix hm)) ha hb
theorem sl_whole {X:Cx}:SlR X (λx lo hi H Q=>∃a xs,x=.ref a∧SqT X.K H a xs∧(HT.sIx xs.length 0 lo=0∧HT.sIx xs.length xs.length hi=xs.length)∧Q (.ref a) H):=by
 intro pins s σ H x v vl vu lo hi sl Q I rx hs pl pu h
 obtain⟨a,xs,rfl,hx,hw,q⟩:=h
 cases rx
 obtain⟨its,r,ht,hz⟩:=I.tuple hx
 have hlen:its.toArray.size=xs.length:=by rw[List.size_toArray];exact r.length.symm
 refine⟨"tuple", _,PyProof.Rows.slot_tuple_getitem.lookup,ht.typeIs,?_⟩
 obtain⟨os,hos,hcs,hds⟩:=id hs
 have hTs:s.TypeIs (.ref sl) "slice" := ⟨os,hos,hcs⟩
 have fin:EP X pins σ Q (.ref a) s:=⟨.ref a,H,I,rfl,q⟩
 unfold getItem
 try with_reducible refine wpAny_holding ?_
 first | refine wpAny_bind (wpAny_pure ?_) | skip
 refine wpAny_bind (wpAny_sequenceKey ht.typeIs (by decide) ?_)
 refine wpAny_bind (wpAny_callSpecial?_slot (name:=Str.ofString "__getitem__") ht.typeIs PyProof.Rows.slot_tuple_getitem
  (wpAny_call_entry PyProof.Rows.slot_tuple_getitem ht.typeIs entry_tuple_getitem ?_ (args_tuple_getitem _ _)))
 show wpAny _ _ (Builtin.Tuple.tupleItemsOf (.ref a)>>=_) _ _ s
 refine wpAny_bind (tupleItemsOf_ ht ?_)
 refine wpAny_bind (wpAny_typeOf hTs ?_)
 rw[if_pos (by decide)]
 refine wpAny_bind (HT.sliceApplied_gen hs pl pu ?_)
 have hyes:(((HT.sIx its.toArray.size 0 lo:Nat):Int)==0&&(1:Int)==1&&(HT.sIx its.toArray.size its.toArray.size hi - HT.sIx its.toArray.size 0 lo)==its.toArray.size)=true:=by
  rw[hlen,hw.1,hw.2];simp
 show wpAny _ _ (if (((HT.sIx its.toArray.size 0 lo:Nat):Int)==0&&(1:Int)==1&&(HT.sIx its.toArray.size its.toArray.size hi - HT.sIx its.toArray.size 0 lo)==its.toArray.size)=true then _ else _) _ _ s
 rw[if_pos hyes]
 refine wpAny_bind (m:=Builtin.Tuple.tupleIsExact (.ref a)) ?_
 unfold Builtin.Tuple.tupleIsExact
 refine wpAny_bind (wpAny_typeOf ht.typeIs (wpAny_pure ?_))
 rw[if_pos (by decide)]
 refine wpAny_bind (wpAny_rule ?_)
 first
  | exact wpAny_pure ⟨_,rfl,wpAny_pure fin⟩
  | exact wpAny_bind (wpAny_pure ⟨_,rfl,wpAny_pure fin⟩)
  | exact wpAny_bind (wpAny_pure (wpAny_pure ⟨_,rfl,wpAny_pure fin⟩))
  | trace_state
end
section
variable {T:Tab} {cf:Nat→List D→Res D} {X:Cx} {x y z:E} {p q r:Expr} {pos pos':Pos} {es:List Expr}
theorem sIx_eq (n d:Nat) (o:Option Int):Tr.sIx n d o=HT.sIx n d o:=by cases o<;>rfl
theorem slr:SlR X (λv lo hi H Q=>∃O d0 d,RR X.K H O d0 v∧D.sl d0 lo hi=.ok d∧(∀a,O a→∃o,H a=some o)∧∀w H',Same H H'→RD X.K H' O d w→NewL X.K H H' O d w→Q w H'):=by
 intro pins s σ H x v vl vu lo hi sl Q I rx hs pl pu h
 obtain⟨O,d0,d,r0,ev,tr,k⟩:=h
 unfold D.sl at ev
 split at ev
 ·cases ev
  obtain⟨a,xs,rfl,q0,w0⟩:=r0.lst
  refine sl_list pins s σ H _ v vl vu _ _ sl Q I rx hs pl pu ⟨a,xs,rfl,q0,λp hp=>?_⟩
  have z:=new_lst (w0.cut lo hi) hp tr
  exact k _ _ (same_upd hp _) z.1 z.2
 ·cases ev
  obtain⟨a,xs,rfl,qv,w0⟩:=r0.tupV
  have q0:=qv.sq
  by_cases hw:HT.sIx xs.length 0 lo=0∧HT.sIx xs.length xs.length hi=xs.length
  ·refine sl_whole pins s σ H _ v vl vu _ _ sl Q I rx hs pl pu ⟨a,xs,rfl,q0,hw,?_⟩
   refine k _ _ (Same.refl H) ⟨a,xs,rfl,qv,?_⟩ (NewL.still rfl)
   unfold Tr.cut
   rw[←w0.length,sIx_eq,sIx_eq,hw.1,hw.2,List.drop_zero,Nat.sub_zero,List.take_of_length_le (by rw[w0.length];exact Nat.le_refl _)]
   exact w0
  ·refine sl_tup pins s σ H _ v vl vu _ _ sl Q I rx hs pl pu ⟨a,xs,rfl,q0,hw,λp hp=>?_⟩
   exact k _ _ (same_upd hp _) (new_tup (w0.cut lo hi) hp) (NewL.still rfl)
 ·obtain⟨c,ev⟩:=when_ok ev
  cases ev
  cases (show x=_ from r0.rd rfl)
  exact sl_str pins s σ H _ v vl vu _ _ sl Q I rx hs pl pu ⟨_,rfl,by rw[←big_line];exact of_decide_eq_true c,k _ H (Same.refl H) rfl (NewL.still rfl)⟩
 ·cases ev
noncomputable def SO (T:Tab) (cf:Nat→List D→Res D) (X:Cx) (x:E) (p:Option Expr):Prop:=∀H₀ O₀,PO X p (λσ H Q=>∃O own e d o,Fm X.K H₀ O₀ H O own e σ∧evE T cf x e=.ok d∧d.part=.ok o∧∀H',Same H H'→Q o H')
theorem so_omit:SO T cf X .omit none:=λH₀ O₀ pins s σ H Q I ⟨O,own,e,d,o,F,ev,ep,k⟩=>by
 rw[xE_omit] at ev;cases ev;cases ep
 exact po_none pins s σ H Q I (k H (Same.refl H))
theorem so_some (h:SE T cf X x p):SO T cf X x (some p):=λH₀ O₀ pins s σ H Q I ⟨O,own,e,d,o,F,ev,ep,k⟩=>by
 rw[evalPart_some]
 refine thn (h H₀ O₀ pins s σ H (λv H'=>Same H H'∧RD X.K H' O d v) I ⟨O,own,e,d,F,ev,λv H' s' r _=>⟨s',r⟩⟩) λu s1 ⟨v,H1,I1,r1,s',r⟩=>?_
 unfold D.part at ep
 split at ep
 ·cases ep
  cases (show v=_ from r)
  cases r1
  exact⟨none,H1,I1,.none,k H1 s'⟩
 ·cases ep
  cases (show v=_ from r)
  obtain⟨t,rfl⟩:=r1
  exact⟨_,H1,I1,.int _ t,k H1 s'⟩
 ·cases ep
theorem se_sl {lo hi:Option Expr} (ha:SR T cf X x p) (hl:SO T cf X y lo) (hh:SO T cf X z hi):SE T cf X (.sl x y z) (.Subscript p (.Slice lo hi none pos') pos):=λH₀ O₀=>by
 refine PE.imp (λσ H Q hq=>?_) (pe_slice slr (ha H₀ O₀) (hl H₀ O₀) (hh H₀ O₀))
 obtain⟨O,own,e,d,F,ev,k⟩:=hq
 rw[xE_sl] at ev
 obtain⟨d1,e1,ev⟩:=Res.bind_ok ev
 obtain⟨d2,e2,ev⟩:=Res.bind_ok ev
 obtain⟨o2,e2',ev⟩:=Res.bind_ok ev
 obtain⟨d3,e3,ev⟩:=Res.bind_ok ev
 obtain⟨o3,e3',ev⟩:=Res.bind_ok ev
 refine⟨O,own,e,d1,F,e1,λv1 H1 s1 r1=>⟨O,own,e,d2,o2,F.grow s1,e2,e2',λH2 s2=>⟨O,own,e,d3,o3,(F.grow s1).grow s2,e3,e3',λH3 s3=>?_⟩⟩⟩
 refine⟨O,d1,d,(r1.same s2).same s3,ev,((F.grow s1).grow (s2.trans s3)).trk,λw H' s4 r4 n4=>?_⟩
 exact k w H' ((s1.trans (s2.trans s3)).trans s4) r4 λ_=>n4.back (s1.trans (s2.trans s3))
theorem evA_len {a:E} {e:Nv} {ds:List D} (h:evA T cf a e=.ok ds):ds.length≤1000:=by
 cases a with
 | anil=>(first | rw[xA_anil] at h | rw[xA_acons] at h);cases h;exact Nat.zero_le _
 | acons a r =>
  (first | rw[xA_anil] at h | rw[xA_acons] at h)
  obtain⟨d1,e1,h⟩:=Res.bind_ok h
  obtain⟨d2,e2,h⟩:=Res.bind_ok h
  obtain⟨c,h⟩:=when_ok h
  cases h
  have:=of_decide_eq_true c
  rw[List.length_cons];lia
 | _=>exact absurd (show (Res.no:Res (List D))=Res.ok ds from h) (λz=>by cases z)
theorem sav_nil:SAv T cf X .anil []:=λH₀ O₀ pos pins s σ H Q I ⟨O,own,e,ds,F,ev,k⟩=>by
 rw[xA_anil] at ev;cases ev
 exact pa_nil pos pins s σ H Q I (k [] H (Same.refl H) rfl λj d v _ z=>by cases z)
theorem sav_cons (hp:plainX p=true) (ha:SE T cf X x p) (hr:SAv T cf X y es):SAv T cf X (.acons x y) (p::es):=λH₀ O₀ pos pins s σ H Q I ⟨O,own,e,ds,F,ev,k⟩=>by
 rw[xA_acons] at ev
 obtain⟨d1,e1,ev⟩:=Res.bind_ok ev
 obtain⟨d2,e2,ev⟩:=Res.bind_ok ev
 obtain⟨c,ev⟩:=when_ok ev
 cases ev
 refine pa_cons (ha H₀ O₀) (hr H₀ O₀) (plain_star hp) pos pins s σ H Q I ⟨O,own,e,d1,F,e1,λv1 H1 s1 r1 n1=>⟨O,own,e,d2,F.grow s1,e2,λvs H2 s2 r2 n2=>?_⟩⟩
 refine k (v1::vs) H2 (s1.trans s2) ⟨v1,vs,rfl,r1.same s2,r2⟩ λj d v hf hd hv=>?_
 cases j with
 | zero=>cases hd;cases hv;exact (n1 hf).same s2
 | succ j=>exact (n2 j d v hf hd hv).back s1
theorem sar_nil:SAr T cf X .anil []:=sav_nil.sr
theorem sar_cons (hp:plainX p=true) (ha:SR T cf X x p) (hr:SAr T cf X y es):SAr T cf X (.acons x y) (p::es):=λH₀ O₀ pos pins s σ H Q I ⟨O,own,e,ds,F,ev,k⟩=>by
 rw[xA_acons] at ev
 obtain⟨d1,e1,ev⟩:=Res.bind_ok ev
 obtain⟨d2,e2,ev⟩:=Res.bind_ok ev
 obtain⟨c,ev⟩:=when_ok ev
 cases ev
 refine pa_cons (ha H₀ O₀) (hr H₀ O₀) (plain_star hp) pos pins s σ H Q I ⟨O,own,e,d1,F,e1,λv1 H1 s1 r1=>⟨O,own,e,d2,F.grow s1,e2,λvs H2 s2 r2=>?_⟩⟩
 exact k (v1::vs) H2 (s1.trans s2) ⟨v1,vs,rfl,r1.same s2,r2⟩
theorem len_line {n:Nat} (h:n≤1000):n≤sizeLine:=Nat.le_of_lt (small1000 h)
theorem se_tup {k:Nat} (ha:SAv T cf X x es):SE T cf X (.tup x) (.Tuple es k pos):=λH₀ O₀=>by
 refine PE.imp (λσ H Q hq=>?_) (pe_tup (ha H₀ O₀))
 obtain⟨O,own,e,d,F,ev,k⟩:=hq
 rw[xE_tup] at ev
 obtain⟨ds,e1,ev⟩:=Res.bind_ok ev
 cases ev
 refine⟨O,own,e,ds,F,e1,λvs H1 s1 r1 _=>⟨by rw[r1.length];exact len_line (evA_len e1),λp hp=>?_⟩⟩
 exact k _ _ (s1.trans (same_upd hp _)) (new_tup r1 hp) (λz=>by cases z)
theorem se_lst (ha:SAv T cf X x es):SE T cf X (.lst x) (.List es pos):=λH₀ O₀=>by
 refine PE.imp (λσ H Q hq=>?_) (pe_lst (ha H₀ O₀))
 obtain⟨O,own,e,d,F,ev,k⟩:=hq
 rw[xE_lst] at ev
 obtain⟨ds,e1,ev⟩:=Res.bind_ok ev
 cases ev
 refine⟨O,own,e,ds,F,e1,λvs H1 s1 r1 _=>⟨by rw[r1.length];exact len_line (evA_len e1),λp hp=>?_⟩⟩
 have z:=new_lst r1 hp (F.grow s1).trk
 exact k _ _ (s1.trans (same_upd hp _)) z.1 λ_=>z.2.back s1
theorem empty_len {α β:Type} {xs:List α} {ds:List β} (h:xs.length=ds.length):(!ds.isEmpty)=!xs.isEmpty:=by
 cases xs<;>cases ds<;>first | rfl | (simp at h)
theorem tru_D {K:PySem.W.Frag} {H:Hp} {O:Addr→Prop} {d:D} {v:V} {k:Bool} (r:RR K H O d v) (h:d.truth=.ok k):TruV K v H k:=by
 unfold D.truth at h
 split at h
 ·cases h;cases (show v=_ from r.rd rfl);exact (rfl:false=false)
 ·cases h;cases (show v=_ from r.rd rfl);exact (rfl:k=k)
 ·cases h;cases (show v=_ from r.rd rfl);exact rfl
 ·obtain⟨c,h⟩:=when_ok h
  cases h;cases (show v=_ from r.rd rfl);exact⟨by rw[←big_line];exact of_decide_eq_true c,rfl⟩
 ·cases h
  obtain⟨a,xs,rfl,q,w⟩:=r.tup
  refine .inr (.inl ⟨xs,q,?_⟩)
  exact empty_len w.length
 ·cases h
  obtain⟨a,xs,rfl,q,w⟩:=r.lst
  refine .inl ⟨xs,q,?_⟩
  exact empty_len w.length
 ·cases h
 ·cases h
theorem st_gen (ha:SR T cf X x p) (he:∀whole,isTrue p X.env whole=(do let v ←whole;standAt p.pos;holding [v] (truthy v))):ST T cf X x p:=λH₀ O₀ =>
 PT.imp (λσ H Q ⟨O,own,e,d,k,F,ev,et,q⟩=>⟨O,own,e,d,F,ev,λv H' s r=>⟨k,tru_D r et,q H' s⟩⟩) (pt_truth (ha H₀ O₀) he)
theorem cmp_bl {o:CmpOp} {a b d:D} (h:D.cmp o a b=.ok d):∃k,d=.bl k:=by
 unfold D.cmp at h
 split at h<;>first
  | (obtain⟨_,h⟩:=when_ok h;cases h;exact⟨_,rfl⟩)
  | (cases h;exact⟨_,rfl⟩)
  | (obtain⟨_,_,h⟩:=Res.bind_ok h;cases h;exact⟨_,rfl⟩)
  | cases h
theorem st_cmp {o:CmpOp} (hR:Roomy X) (hm:plainX q=true) (ha:SR T cf X x p) (hb:SR T cf X y q):ST T cf X (.cmp o x y) (.Compare p [o] [q] pos):=λH₀ O₀=>by
 refine PT.imp (λσ H Q hq=>?_) (pt_cmpR (opr_cmp o hR) (ha H₀ O₀) (hb H₀ O₀) (plain_mark hm))
 obtain⟨O,own,e,d,k,F,ev,et,qk⟩:=hq
 rw[xE_cmp] at ev
 obtain⟨d1,e1,ev⟩:=Res.bind_ok ev
 obtain⟨d2,e2,ev⟩:=Res.bind_ok ev
 obtain⟨k',rfl⟩:=cmp_bl ev
 cases et
 refine⟨O,own,e,d1,F,e1,λv1 H1 s1 r1=>⟨O,own,e,d2,F.grow s1,e2,λv2 H2 s2 r2=>?_⟩⟩
 refine⟨O,d1,d2,_,r1.same s2,r2,ev,(F.grow (s1.trans s2)).trk,λv H' s3 r3 _=>?_⟩
 exact⟨k,r3,qk H' ((s1.trans s2).trans s3)⟩
theorem pe_andV {a b:Expr} {rest:List Expr} {ta tb:TE} (ha:PE X a ta) (hb:PE X (.BoolOp .And (b::rest) pos) tb) :
 PE X (.BoolOp .And (a::b::rest) pos) (λσ H Q=>ta σ H λx H1=>∃c,TruV X.K x H1 c∧if c=true then tb σ H1 Q else Q x H1):=by
 intro pins s σ H Q I h
 refine BoolOp_and (thn (ha pins s σ H _ I h) λv s1 ⟨x,H1,I1,r1,c,tc,q1⟩=>?_)
 refine thn (tru_ok pins s1 σ H1 x v (λb H2=>b=c∧H2=H1) I1 r1 ⟨c,tc,rfl,rfl⟩) λb s2 ⟨H2,I2,e1,e2⟩=>?_
 subst e1 e2
 cases b with
 | true=>exact hb pins s2 σ H2 Q I2 q1
 | false=>exact⟨x,H2,I2,r1,q1⟩
theorem pe_orV {a b:Expr} {rest:List Expr} {ta tb:TE} (ha:PE X a ta) (hb:PE X (.BoolOp .Or (b::rest) pos) tb) :
 PE X (.BoolOp .Or (a::b::rest) pos) (λσ H Q=>ta σ H λx H1=>∃c,TruV X.K x H1 c∧if c=true then Q x H1 else tb σ H1 Q):=by
 intro pins s σ H Q I h
 refine BoolOp_or (thn (ha pins s σ H _ I h) λv s1 ⟨x,H1,I1,r1,c,tc,q1⟩=>?_)
 refine thn (tru_ok pins s1 σ H1 x v (λb H2=>b=c∧H2=H1) I1 r1 ⟨c,tc,rfl,rfl⟩) λb s2 ⟨H2,I2,e1,e2⟩=>?_
 subst e1 e2
 cases b with
 | false=>exact hb pins s2 σ H2 Q I2 q1
 | true=>exact⟨x,H2,I2,r1,q1⟩
theorem se_and {rest:List Expr} (ha:SE T cf X x p) (hb:SE T cf X y (.BoolOp .And (q::rest) pos)):SE T cf X (.and x y) (.BoolOp .And (p::q::rest) pos):=λH₀ O₀=>by
 refine PE.imp (λσ H Q hq=>?_) (pe_andV (ha H₀ O₀) (hb H₀ O₀))
 obtain⟨O,own,e,d,F,ev,k⟩:=hq
 rw[xE_and] at ev
 obtain⟨d1,e1,ev⟩:=Res.bind_ok ev
 obtain⟨c,e2,ev⟩:=Res.bind_ok ev
 refine⟨O,own,e,d1,F,e1,λv1 H1 s1 r1 _=>⟨c,tru_D r1.rr e2,?_⟩⟩
 cases c with
 | true =>
  rw[if_pos rfl] at ev ⊢
  exact⟨O,own,e,d,F.grow s1,ev,λv H' s' r _=>k v H' (s1.trans s') r (λz=>by cases z)⟩
 | false =>
  rw[if_neg Bool.false_ne_true] at ev ⊢
  cases ev
  exact k v1 H1 s1 r1 (λz=>by cases z)
theorem se_or {rest:List Expr} (ha:SE T cf X x p) (hb:SE T cf X y (.BoolOp .Or (q::rest) pos)):SE T cf X (.or x y) (.BoolOp .Or (p::q::rest) pos):=λH₀ O₀=>by
 refine PE.imp (λσ H Q hq=>?_) (pe_orV (ha H₀ O₀) (hb H₀ O₀))
 obtain⟨O,own,e,d,F,ev,k⟩:=hq
 rw[xE_or] at ev
 obtain⟨d1,e1,ev⟩:=Res.bind_ok ev
 obtain⟨c,e2,ev⟩:=Res.bind_ok ev
 refine⟨O,own,e,d1,F,e1,λv1 H1 s1 r1 _=>⟨c,tru_D r1.rr e2,?_⟩⟩
 cases c with
 | false =>
  rw[if_neg Bool.false_ne_true] at ev ⊢
  exact⟨O,own,e,d,F.grow s1,ev,λv H' s' r _=>k v H' (s1.trans s') r (λz=>by cases z)⟩
 | true =>
  rw[if_pos rfl] at ev ⊢
  cases ev
  exact k v1 H1 s1 r1 (λz=>by cases z)
theorem se_one {op:BoolOp} (h:SE T cf X x p):SE T cf X x (.BoolOp op [p] pos):=λH₀ O₀=>pe_one (h H₀ O₀)
theorem se_not (ha:ST T cf X x p) (hv:SR T cf X x p):SE T cf X (.not x) (.UnaryOp .Not p pos):=λH₀ O₀=>by
 intro pins s σ H Q I ⟨O,own,e,d,F,ev,k⟩
 rw[xE_not] at ev
 obtain⟨d1,e1,ev⟩:=Res.bind_ok ev
 obtain⟨c,e2,ev⟩:=Res.bind_ok ev
 cases ev
 refine UnaryOp_ (thn (hv H₀ O₀ pins s σ H (λv1 H1=>Same H H1∧RR X.K H1 O d1 v1) I ⟨O,own,e,d1,F,e1,λv1 H1 s1 r1=>⟨s1,r1⟩⟩) λv s1 ⟨x1,H1,I1,r1,s1',rr⟩=>?_)
 refine not_of ?_
 exact thn (tru_ok pins s1 σ H1 x1 v (λb H2=>b=c∧H2=H1) I1 r1 ⟨c,tru_D rr e2,rfl,rfl⟩) λb s2 ⟨H2,I2,e3,e4⟩=>by
  subst e3 e4
  exact⟨.bl (!b),H2,I2,rfl,k _ H2 s1' rfl (λz=>by cases z)⟩
theorem st_not (ha:ST T cf X x p):ST T cf X (.not x) (.UnaryOp .Not p pos):=λH₀ O₀=>by
 refine PT.imp (λσ H Q hq=>?_) (pt_not (ha H₀ O₀))
 obtain⟨O,own,e,d,k,F,ev,et,qk⟩:=hq
 rw[xE_not] at ev
 obtain⟨d1,e1,ev⟩:=Res.bind_ok ev
 obtain⟨c,e2,ev⟩:=Res.bind_ok ev
 cases ev
 cases et
 exact⟨O,own,e,d1,c,F,e1,e2,λH' s=>qk H' s⟩
noncomputable def SW (T:Tab) (cf:Nat→List D→Res D) (X:Cx) (x:E) (p:Expr):Prop:=∀H₀ O₀,PW X p (tT T cf X.K H₀ O₀ x)
theorem SW.st (h:SW T cf X x p):ST T cf X x p:=λH₀ O₀=>(h H₀ O₀).pt
theorem PW.imp {t t':TT} (h:∀σ H Q,t' σ H Q→t σ H Q) (hp:PW X p t):PW X p t':=λw pins s σ H Q I q=>hp w pins s σ H Q I (h σ H Q q)
theorem sw_and1 (ha:ST T cf X x p):SW T cf X x (.BoolOp .And [p] pos):=λH₀ O₀=>pw_and1 (ha H₀ O₀)
theorem sw_or1 (ha:ST T cf X x p):SW T cf X x (.BoolOp .Or [p] pos):=λH₀ O₀=>pw_or1 (ha H₀ O₀)
theorem sw_and {rest:List Expr} (ha:ST T cf X x p) (hb:SW T cf X y (.BoolOp .And (q::rest) pos)):SW T cf X (.and x y) (.BoolOp .And (p::q::rest) pos):=λH₀ O₀=>by
 refine PW.imp (λσ H Q hq=>?_) (pw_and (ha H₀ O₀) (hb H₀ O₀))
 obtain⟨O,own,e,d,k,F,ev,et,qk⟩:=hq
 rw[xE_and] at ev
 obtain⟨d1,e1,ev⟩:=Res.bind_ok ev
 obtain⟨c,e2,ev⟩:=Res.bind_ok ev
 refine⟨O,own,e,d1,c,F,e1,e2,λH1 s1=>?_⟩
 cases c with
 | true =>
  rw[if_pos rfl] at ev ⊢
  exact⟨O,own,e,d,k,F.grow s1,ev,et,λH' s'=>qk H' (s1.trans s')⟩
 | false =>
  rw[if_neg Bool.false_ne_true] at ev ⊢
  cases ev
  rw[e2] at et;cases et
  exact qk H1 s1
theorem sw_or {rest:List Expr} (ha:ST T cf X x p) (hb:SW T cf X y (.BoolOp .Or (q::rest) pos)):SW T cf X (.or x y) (.BoolOp .Or (p::q::rest) pos):=λH₀ O₀=>by
 refine PW.imp (λσ H Q hq=>?_) (pw_or (ha H₀ O₀) (hb H₀ O₀))
 obtain⟨O,own,e,d,k,F,ev,et,qk⟩:=hq
 rw[xE_or] at ev
 obtain⟨d1,e1,ev⟩:=Res.bind_ok ev
 obtain⟨c,e2,ev⟩:=Res.bind_ok ev
 refine⟨O,own,e,d1,c,F,e1,e2,λH1 s1=>?_⟩
 cases c with
 | false =>
  rw[if_neg Bool.false_ne_true] at ev ⊢
  exact⟨O,own,e,d,k,F.grow s1,ev,et,λH' s'=>qk H' (s1.trans s')⟩
 | true =>
  rw[if_pos rfl] at ev ⊢
  cases ev
  rw[e2] at et;cases et
  exact qk H1 s1
theorem se_ife (hc:ST T cf X x p) (ha:SE T cf X y q) (hb:SE T cf X z r):SE T cf X (.ife x y z) (.IfExp p q r pos):=λH₀ O₀=>by
 refine PE.imp (λσ H Q hq=>?_) (pe_ifExp (hc H₀ O₀) (ha H₀ O₀) (hb H₀ O₀))
 obtain⟨O,own,e,d,F,ev,k⟩:=hq
 rw[xE_ife] at ev
 obtain⟨d1,e1,ev⟩:=Res.bind_ok ev
 obtain⟨c,e2,ev⟩:=Res.bind_ok ev
 refine⟨O,own,e,d1,c,F,e1,e2,λH1 s1=>?_⟩
 cases c with
 | true =>
  rw[if_pos rfl] at ev ⊢
  exact⟨O,own,e,d,F.grow s1,ev,λv H' s' r _=>k v H' (s1.trans s') r (λz=>by cases z)⟩
 | false =>
  rw[if_neg Bool.false_ne_true] at ev ⊢
  exact⟨O,own,e,d,F.grow s1,ev,λv H' s' r _=>k v H' (s1.trans s') r (λz=>by cases z)⟩
theorem pt_ifExp {c a b:Expr} {tA ta tb:TT} (hc:PT X c tA) (ha:PT X a ta) (hb:PT X b tb):PT X (.IfExp c a b pos) (λσ H Q=>tA σ H λk H1=>if k=true then ta σ H1 Q else tb σ H1 Q):=by
 intro pins s σ H Q I h
 show wpAny _ _ (isTrue c X.env (eval c X.env)>>=λk=>if k=true then isTrue a X.env (eval a X.env) else isTrue b X.env (eval b X.env)) _ _ s
 refine wpAny_bind (thn (hc pins s σ H _ I h) λk s1 ⟨H1,I1,q1⟩=>?_)
 cases k with
 | true=>exact ha pins s1 σ H1 Q I1 q1
 | false=>exact hb pins s1 σ H1 Q I1 q1
theorem st_ife (hc:ST T cf X x p) (ha:ST T cf X y q) (hb:ST T cf X z r):ST T cf X (.ife x y z) (.IfExp p q r pos):=λH₀ O₀=>by
 refine PT.imp (λσ H Q hq=>?_) (pt_ifExp (hc H₀ O₀) (ha H₀ O₀) (hb H₀ O₀))
 obtain⟨O,own,e,d,k,F,ev,et,qk⟩:=hq
 rw[xE_ife] at ev
 obtain⟨d1,e1,ev⟩:=Res.bind_ok ev
 obtain⟨c,e2,ev⟩:=Res.bind_ok ev
 refine⟨O,own,e,d1,c,F,e1,e2,λH1 s1=>?_⟩
 cases c with
 | true =>
  rw[if_pos rfl] at ev ⊢
  exact⟨O,own,e,d,k,F.grow s1,ev,et,λH' s'=>qk H' (s1.trans s')⟩
 | false =>
  rw[if_neg Bool.false_ne_true] at ev ⊢
  exact⟨O,own,e,d,k,F.grow s1,ev,et,λH' s'=>qk H' (s1.trans s')⟩
theorem se_neg (ha:SR T cf X x p):SE T cf X (.neg x) (.UnaryOp .USub p pos):=λH₀ O₀=>by
 refine PE.imp (λσ H Q hq=>?_) (pe_un un_neg (ha H₀ O₀))
 obtain⟨O,own,e,d,F,ev,k⟩:=hq
 (first | rw[xE_rd] at ev | rw[xE_neg] at ev)
 obtain⟨d1,e1,ev⟩:=Res.bind_ok ev
 split at ev
 ·cases ev
  refine⟨O,own,e,_,F,e1,λv1 H1 s1 r1=>⟨_,r1.rd rfl,k _ H1 s1 rfl λz=>by cases z⟩⟩
 ·cases ev
end
section
variable {T:Tab} {cf:Nat→List D→Res D} {X:Cx} {x y z:E} {p q r:Expr} {pos pos':Pos} {es:List Expr}
noncomputable def PayOk (d:D) (od:Option Addr) (H:Hp):Prop:=match d with
 | .int v=>∃dx,od=some dx∧H dx=some (.xd [("at", .int v)])
 | _=>od=none
noncomputable def spD (K:PySem.W.Frag) (F:List D→Res D) (fr:Bool):Sp:=λvs H Q E=>∃O ds,(∀a,O a→∃o,H a=some o)∧RDs K H O ds vs ∧
 ((∃d,F ds=.ok d∧∀v H',Same H H'→RD K H' O d v→(fr=true→NewR K H H' O d v)→Q v H')∨∃c d,F ds=.err c d∧∀od H',Same H H'→PayOk d od H'→E (cvK K c) od H')
noncomputable def DefIs (T:Tab) (cf:Nat→List D→Res D) (X:Cx) (f:Nat) (n:Str):Prop :=
 ∃k a fd ps,FnOk X.prog X.w X.K X.mg X.base (CXE X.prog X.w) k a fd ps (spD X.K (cf f) (T.fresh f))∧Room k X.A∧X.mg n=some (.ref a)∧PySem.W.keepIn X.K (.ref a)=true∧Binds X.K fd ps []
theorem tcall_of {f:Nat} {H₀:Hp} {O₀:Addr→Prop} {σ:L2.St} {H:Hp} {Q:VK} (h:tE T cf X.K H₀ O₀ (.call f x) σ H Q):tCall (spD X.K (cf f) (T.fresh f)) [] E0 (tAv T cf X.K H₀ O₀ x) σ H Q:=by
 obtain⟨O,own,e,d,F,ev,k⟩:=h
 rw[xE_call] at ev
 obtain⟨ds,e1,ev⟩:=Res.bind_ok ev
 refine⟨O,own,e,ds,F,e1,λvs H1 s1 r1 _=>?_⟩
 dsimp only
 rw[List.append_nil]
 refine⟨O,ds,(F.grow s1).trk,r1,.inl ⟨d,ev,λv H' s2 r2 n2=>k v H' (s1.trans s2) r2 λfr=>(n2 fr).1.back s1⟩⟩
theorem se_call {f:Nat} {n:Str} {pn:Pos} (hd:DefIs T cf X f n) (hg:Gl X n) (hdb:(n==("__debug__" : Str))=false) (hp:(p::es).all plainX=true) (ha:SAv T cf X x (p::es)):SE T cf X (.call f x) (.Call (.Name n pn) (p::es) [] pos):=λH₀ O₀=>by
 obtain⟨k,a,fd,ps,Fk,hr,hm,hk,hb⟩:=hd
 rw[List.all_cons,Bool.and_eq_true] at hp
 exact PE.imp (λσ H Q h=>tcall_of h) (pe_call Fk hr hg hm hk hb .nil passE0 (ha H₀ O₀) hdb (plain_star hp.1) (plain_any hp.2))
theorem se_call0 {f:Nat} {n:Str} {pn:Pos} (hd:DefIs T cf X f n) (hg:Gl X n) (hdb:(n==("__debug__" : Str))=false):SE T cf X (.call f .anil) (.Call (.Name n pn) [] [] pos):=λH₀ O₀=>by
 obtain⟨k,a,fd,ps,Fk,hr,hm,hk,hb⟩:=hd
 refine PE.imp (λσ H Q h=>?_) (pe_call0 Fk hr hg hm hk hb .nil passE0 hdb)
 obtain⟨O,own,e,d,F,ev,k⟩:=h
 rw[xE_call] at ev
 obtain⟨ds,e1,ev⟩:=Res.bind_ok ev
 rw[xA_anil] at e1;cases e1
 exact⟨O,[],F.trk,rfl,.inl ⟨d,ev,λv H' s2 r2 n2=>k v H' s2 r2 λfr=>(n2 fr).1⟩⟩
noncomputable def TabF (T:Tab) (cf:Nat→List D→Res D) (X:Cx) (n:Str) (fs:List Nat):Prop :=
 ∃(a:Addr) (xs:List V),X.mg n=some (.ref a)∧(∀H,SqT X.K H a xs)∧xs.length=fs.length∧∀(j f:Nat),fs[j]?=some f→∃(ad:Addr) (m:Str),xs[j]?=some (V.ref ad)∧X.mg m=some (.ref ad)∧DefIs T cf X f m
noncomputable def TabS (X:Cx) (n:Str) (ss:List Str):Prop:=∃a,X.mg n=some (.ref a)∧ModS X.K a ss
theorem nats_vals {K:PySem.W.Frag} {H:Hp} {O:Addr→Prop}:∀ {ds:List D} {k:List Nat} {xs:List V},natsOf ds=some k→RDs K H O ds xs→xs=k.map λn:Nat=>V.int (n:Int)
 | [],k,xs,h,w=>by
  rw[natsOf] at h;cases h
  rw[RDs] at w;rw[w];rfl
 | d::r,k,xs,h,w=>by
  cases d with
  | int a =>
   rw[natsOf] at h
   split at h
   ·rename_i c
    rw[decide_eq_true_eq] at c
    cases hq:natsOf r with
    | none=>rw[hq] at h;cases h
    | some q =>
     rw[hq] at h
     cases h
     obtain⟨v,vs,rfl,w1,w2⟩:=w
     rw[nats_vals hq w2,show v=_ from w1,List.map_cons,Int.toNat_of_nonneg c]
   ·cases h
  | _=>cases h
theorem pairOf_some {d:D} {k:List Nat} (h:pairOf d=some k):∃ds,d=.tup ds∧natsOf ds=some k∧inR k:=by
 cases d with
 | tup ds =>
  change ((natsOf ds).bind λk=>if keyTab.contains k then some k else none)=some k at h
  cases hq:natsOf ds with
  | none=>rw[hq] at h;cases h
  | some q =>
   rw[hq] at h
   change (if keyTab.contains q then some q else none)=some k at h
   split at h
   ·rename_i c
    cases h
    exact⟨ds,rfl,hq,List.contains_iff_mem.mp c⟩
   ·cases h
 | _=>cases h
theorem pairs_vals {K:PySem.W.Frag} {H:Hp} {O:Addr→Prop}:∀ {ds:List D} {ps:List (List Nat)} {xs:List V},prsOf ds=some ps→RDs K H O ds xs→∃as,xs=as.map V.ref∧PairsAt K H as ps∧∀p∈ps,inR p
 | [],ps,xs,h,w=>by
  rw[prsOf] at h;cases h
  rw[RDs] at w;subst w;exact⟨[],rfl,rfl,λp hp=>by cases hp⟩
 | d::r,ps,xs,h,w=>by
  rw[prsOf] at h
  cases hp:pairOf d with
  | none=>rw[hp] at h;cases h
  | some p =>
   cases hq:prsOf r with
   | none=>rw[hp,hq] at h;cases h
   | some q =>
    rw[hp,hq] at h
    cases h
    obtain⟨v,vs,rfl,w1,w2⟩:=w
    obtain⟨as,rfl,h1,h2⟩:=pairs_vals hq w2
    obtain⟨ks,rfl,hn,hi⟩:=pairOf_some hp
    obtain⟨a,ys,rfl,hs,w3⟩:=w1
    rw[nats_vals hn w3] at hs
    refine⟨a::as,rfl,⟨p,q,rfl,TupV.sq hs,h1⟩,λy hy=>?_⟩
    rcases List.mem_cons.mp hy with e | hy
    ·rw[e];exact hi
    ·exact h2 y hy
theorem se_lset {pn pm pos2:Pos} (hh:X.calm=true) (hR:Roomy X) (hm1:X.mg "len" = none) (hm2:X.mg "set" = none) (hg1:Gl X "len") (hg2:Gl X "set") (hp:plainX p=true) (ha:SR T cf X x p) :
 SE T cf X (.lset x) (.Call (.Name "len" pn) [.Call (.Name "set" pm) [p] [] pos2] [] pos):=λH₀ O₀=>by
 refine PE.imp (λσ H Q hq=>?_) (pe_callB call_lenY hg1 hm1 PySem.boot_len (pa_cons (pe_callTy (call_setY hh hR) hg2 hm2 (by decide +kernel) (pa_cons (ha H₀ O₀) pa_nil (plain_star hp)) (by decide) (by decide) (plain_star hp) rfl) pa_nil rfl) (by decide) (by decide) rfl rfl)
 obtain⟨O,own,e,d,F,ev,k⟩:=hq
 (first | rw[xE_rd] at ev | rw[xE_tup] at ev | rw[xE_lst] at ev | rw[xE_lset] at ev)
 obtain⟨d1,e1,ev1⟩:=Res.bind_ok ev
 refine⟨O,own,e,d1,F,e1,λv1 H1 s1 r1=>?_⟩
 have key:∃n:Nat,d=.int n∧SetsOf X.K H1 v1 n:=by
  have other:∀ds,d1=.lst ds→(match prsOf ds with | some ps=>when (nodupP ps&&decide (ps.length≤72)) (Res.ok (D.int ps.length)) | none=>Res.no)=.ok d→∃n:Nat,d=.int n∧SetsOf X.K H1 v1 n:=by
   intro ds e0 ew
   subst e0
   cases hp:prsOf ds with
   | none=>rw[hp] at ew;cases ew
   | some ps =>
    rw[hp] at ew
    obtain⟨c,ev3⟩:=when_ok ew
    rw[Bool.and_eq_true,decide_eq_true_eq] at c
    cases ev3
    obtain⟨a,xs,rfl,q1,w1⟩:=r1.lst
    obtain⟨as,rfl,h1,h2⟩:=pairs_vals hp w1
    exact⟨_,rfl,⟨a,as,ps,rfl,q1,h1,nodupP_at c.1,c.2,rfl,h2⟩⟩
  cases d1 with
  | lst ds=>exact other ds rfl ev1
  | _=>cases ev1
 obtain⟨n,rfl,hs⟩:=key
 refine⟨v1,n,rfl,hs,λp hpn=>?_⟩
 exact⟨p,n,rfl,upd_same,k _ _ (s1.trans (same_upd hpn _)) rfl λz=>by cases z⟩
theorem ints_vals {K:PySem.W.Frag} {H:Hp} {O:Addr→Prop}:∀ {ds:List D} {ns:List Int} {xs:List V},intsOf ds=.ok ns→RDs K H O ds xs→xs=ns.map V.int
 | [],ns,xs,h,w=>by
  rw[intsOf] at h;cases h
  rw[RDs] at w;subst w;rfl
 | .int i::r,ns,xs,h,w=>by
  rw[intsOf] at h
  obtain⟨q,h1,h⟩:=Res.bind_ok h
  cases h
  obtain⟨v,ys,rfl,e1,e2⟩:=w
  cases (show v=_ from e1)
  rw[ints_vals h1 e2];rfl
 | .non::_,_,_,h,_ | .bl _::_,_,_,h,_ | .str _::_,_,_,h,_ | .tup _::_,_,_,h,_ | .lst _::_,_,_,h,_ | .dct _::_,_,_,h,_ | .tdc _::_,_,_,h,_=>by
  rw[intsOf] at h<;>first | cases h | (intros;rename_i z;cases z)
theorem rds_range {K:PySem.W.Frag} {H:Hp} {O:Addr→Prop}:∀(lo:Int) (n:Nat),RDs K H O (rangeD lo n) ((List.range n).map λi:Nat=>V.int (lo+(i:Nat)))
 | lo,0=>rfl
 | lo,n+1=>by
  rw[rangeD,List.range_succ_eq_map,List.map_cons,List.map_map]
  refine⟨_,_,rfl,by show V.int _=V.int _;simp,?_⟩
  have e:(List.range n).map ((λi:Nat=>V.int (lo+(i:Nat)))∘Nat.succ)=(List.range n).map λi:Nat=>V.int (lo+1+(i:Nat)):=by
   apply List.map_congr_left
   intro i _
   simp only[Function.comp]
   congr 1
   push_cast
   lia
  rw[e]
  exact rds_range (lo+1) n
theorem se_lrng {pn pm pos2:Pos} (hh:X.calm=true) (hm1:X.mg "list" = none) (hm2:X.mg "range" = none) (hg1:Gl X "list") (hg2:Gl X "range") (hp:plainX p=true) (ha:SE T cf X x p) :
 SE T cf X (.lrng x) (.Call (.Name "list" pn) [.Call (.Name "range" pm) [p] [] pos2] [] pos):=λH₀ O₀=>by
 refine PE.imp (λσ H Q hq=>?_) (pe_callTy (call_listX hh) hg1 hm1 (by decide +kernel) (pa_cons (pe_callTy call_rangeX hg2 hm2 (by decide +kernel) (pa_cons (ha H₀ O₀) pa_nil (plain_star hp)) (by decide) (by decide) (plain_star hp) rfl) pa_nil rfl) (by decide) (by decide) rfl rfl)
 obtain⟨O,own,e,d,F,ev,k⟩:=hq
 (first | rw[xE_tup] at ev | rw[xE_lst] at ev | rw[xE_lrng] at ev)
 obtain⟨d1,e1,ev1⟩:=Res.bind_ok ev
 refine⟨O,own,e,d1,F,e1,λv1 H1 s1 r1 _=>?_⟩
 cases d1 with
 | int n =>
  have ev1:when (small62 n&&decide (n≤(big:Nat))) (.ok (D.lst (rangeD 0 n.toNat)))=.ok d:=ev1
  obtain⟨c,ev2⟩:=when_ok ev1
  cases ev2
  rw[Bool.and_eq_true,decide_eq_true_eq] at c
  have c1:=c.1
  simp only[small62,Bool.and_eq_true,decide_eq_true_eq] at c1
  cases (show v1=.int n from r1)
  refine⟨n,rfl,λp hpn=>⟨p,n,rfl,upd_same,c1.1,c1.2,by rw[←big_line];exact c.2,λl hl=>?_⟩⟩
  have F1:=(F.grow s1).grow (same_upd hpn (.rng 0 n))
  have z:=new_lst (K:=X.K) (O:=O) (ds:=rangeD 0 n.toNat) (rds_range 0 n.toNat) hl F1.trk
  exact k _ _ ((s1.trans (same_upd hpn _)).trans (same_upd hl _)) z.1 λ_=>z.2.back (s1.trans (same_upd hpn _))
 | non=>cases ev1
 | bl _=>cases ev1
 | str _=>cases ev1
 | tup _=>cases ev1
 | lst _=>cases ev1
 | dct _=>cases ev1
 | tdc _=>cases ev1
noncomputable def rB (K:PySem.W.Frag) (f:List D→Res D) (fr:Bool):List V→Hp→VK→Prop:=λvs H Q=>∃O ds d,RRs K H O ds vs∧f ds=.ok d∧(∀a,O a→∃o,H a=some o)∧∀v H',Same H H'→RD K H' O d v→(fr=true→NewL K H H' O d v)→Q v H'
theorem rr1 {K:PySem.W.Frag} {H:Hp} {O:Addr→Prop} {d:D} {vs:List V} (h:RRs K H O [d] vs):∃v,vs=[v]∧RR K H O d v:=by
 obtain⟨v,r,rfl,h1,h2⟩:=h
 rw[RRs] at h2;subst h2
 exact⟨v,rfl,h1⟩
theorem call_sum (hh:X.calm=true):CallR X (.builtin "sum") (λxs H Q=>∃(a:Addr) (ns:List Int),xs=[.ref a]∧SqL X.K H a (ns.map V.int)∧Q (.int ns.sum) H):=by
 intro pins s σ H xs us Q I r h
 obtain⟨a,ns,rfl,hq,q⟩:=h
 obtain⟨u,rfl,rx⟩:=vals1 r
 cases rx
 obtain⟨its,r',pl,hz⟩:=I.list hq
 have hi:IntsAre its ns:=intsAre_of r'
 have hall:=hi.allInts
 obtain⟨ys,hys⟩:=hall.items
 have hn:(numsOf its.toArray.toList)=ns:=by rw[show its.toArray.toList=its by simp];exact hi.numsOf
 refine sum_intListG (xs:=ys) (I.ok.hd hh) (by rw[←hys];exact pl.isList) λh' tk t' hk=>?_
 refine⟨.int ns.sum,H,I.kept (t':=tk) hk,⟨t',?_⟩,q⟩
 rw[hys,nums_intItems] at hn
 rw[preSum_eq,List.take_of_length_le (by simp),←hn]
noncomputable def Bt.val:Bt→Value
 | .len=>.builtin "len"
 | .sum=>.builtin "sum"
 | .tuple=>.type "tuple"
 | .list=>.type "list"
 | .int=>.type "int"
 | .str=>.type "str"
 | .bool=>.type "bool"
 | .abs=>.builtin "abs"
 | .min=>.builtin "min"
 | .max=>.builtin "max"
 | .all=>.builtin "all"
 | .any=>.builtin "any"
noncomputable def Bt.nm:Bt→Str
 | .len => "len"
 | .sum => "sum"
 | .tuple => "tuple"
 | .list => "list"
 | .int => "int"
 | .str => "str"
 | .bool => "bool"
 | .abs => "abs"
 | .min => "min"
 | .max => "max"
 | .all => "all"
 | .any => "any"
theorem run_one {b:Bt} {ds:List D} {d:D} (h:b.run ds=.ok d) (hb:∀d1 d2,b.two d1 d2=.no):∃d0,ds=[d0]∧b.one d0=.ok d:=by
 unfold Bt.run at h
 split at h
 ·exact⟨_,rfl,h⟩
 ·rw[hb] at h;cases h
 ·cases h
theorem bt_len:CallR X (.builtin "len") (rB X.K (Bt.run .len) false):=by
 intro pins s σ H xs us Q I rv h
 obtain⟨O,ds,d,rr,ev,tr,k⟩:=h
 obtain⟨d0,rfl,ev⟩:=run_one ev (λ_ _=>rfl)
 obtain⟨v,rfl,r1⟩:=rr1 rr
 have ev:D.len d0=.ok d:=ev
 unfold D.len at ev
 split at ev
 ·cases ev
  obtain⟨a,ys,rfl,q1,w1⟩:=r1.lst
  exact call_len_seq pins s σ H _ us Q I rv ⟨a,ys,rfl,.inl q1,k _ H (Same.refl H) (by rw[w1.length];exact rfl) (λz=>by cases z)⟩
 ·cases ev
  obtain⟨a,ys,rfl,q1,w1⟩:=r1.tup
  exact call_len_seq pins s σ H _ us Q I rv ⟨a,ys,rfl,.inr q1,k _ H (Same.refl H) (by rw[w1.length];exact rfl) (λz=>by cases z)⟩
 ·obtain⟨c,ev⟩:=when_ok ev
  cases ev
  cases (show v=_ from r1.rd rfl)
  exact call_len_str pins s σ H _ us Q I rv ⟨_,rfl,by rw[←big_line];exact of_decide_eq_true c,k _ H (Same.refl H) rfl (λz=>by cases z)⟩
 ·cases ev
  obtain⟨a,ps,rfl,q1,w1⟩:=r1.dct
  obtain⟨u,rfl,ru⟩:=vals1 rv
  cases ru
  exact d_len I q1 λt s' I'=>⟨.int _,H,I',⟨t,rfl⟩,k _ H (Same.refl H) (by rw[w1.length];exact rfl) (λz=>by cases z)⟩
 ·cases ev
theorem bt_sum (hh:X.calm=true):CallR X (.builtin "sum") (rB X.K (Bt.run .sum) false):=by
 intro pins s σ H xs us Q I rv h
 obtain⟨O,ds,d,rr,ev,tr,k⟩:=h
 obtain⟨d0,rfl,ev⟩:=run_one ev (λ_ _=>rfl)
 obtain⟨v,rfl,r1⟩:=rr1 rr
 have ev:D.sum d0=.ok d:=ev
 unfold D.sum at ev
 split at ev
 ·obtain⟨ns,e1,ev⟩:=Res.bind_ok ev
  cases ev
  obtain⟨a,ys,rfl,q1,w1⟩:=r1.lst
  have e:=ints_vals e1 w1
  subst e
  exact call_sum hh pins s σ H _ us Q I rv ⟨a,ns,rfl,q1,k _ H (Same.refl H) rfl (λz=>by cases z)⟩
 ·cases ev
theorem bt_tuple:CallR X (.type "tuple") (rB X.K (Bt.run .tuple) false):=by
 intro pins s σ H xs us Q I rv h
 obtain⟨O,ds,d,rr,ev,tr,k⟩:=h
 obtain⟨d0,rfl,ev⟩:=run_one ev (λ_ _=>rfl)
 obtain⟨v,rfl,r1⟩:=rr1 rr
 have ev:D.tuple d0=.ok d:=ev
 unfold D.tuple at ev
 split at ev
 ·cases ev
  obtain⟨a,ys,rfl,q1,w1⟩:=r1.lst
  exact call_tuple_of pins s σ H _ us Q I rv ⟨a,ys,rfl,.inl ⟨q1,λl hl=>k _ _ (same_upd hl _) (new_tup w1 hl) (λz=>by cases z)⟩⟩
 ·cases ev
  obtain⟨a,ys,rfl,q1,w1⟩:=r1.tupV
  exact call_tuple_of pins s σ H _ us Q I rv ⟨a,ys,rfl,.inr ⟨q1.sq,k _ H (Same.refl H) ⟨a,ys,rfl,q1,w1⟩ (λz=>by cases z)⟩⟩
 ·cases ev
theorem bt_int:CallR X (.type "int") (rB X.K (Bt.run .int) false):=by
 intro pins s σ H xs us Q I rv h
 obtain⟨O,ds,d,rr,ev,tr,k⟩:=h
 obtain⟨d0,rfl,ev⟩:=run_one ev (λ_ _=>rfl)
 obtain⟨v,rfl,r1⟩:=rr1 rr
 have ev:D.toInt d0=.ok d:=ev
 unfold D.toInt at ev
 split at ev
 ·cases ev
  cases (show v=_ from r1.rd rfl)
  exact call_int1 pins s σ H _ us Q I rv (.inl ⟨_,rfl,k _ H (Same.refl H) rfl (λz=>by cases z)⟩)
 ·cases ev
  cases (show v=_ from r1.rd rfl)
  exact call_int1 pins s σ H _ us Q I rv (.inr ⟨_,rfl,k _ H (Same.refl H) rfl (λz=>by cases z)⟩)
 ·obtain⟨c,ev⟩:=when_ok ev
  cases ev
  rw[Bool.and_eq_true,decide_eq_true_eq] at c
  cases (show v=_ from r1.rd rfl)
  exact call_int_text pins s σ H _ us Q I rv ⟨_,rfl,c.1,c.2,k _ H (Same.refl H) rfl (λz=>by cases z)⟩
 ·cases ev
theorem bls_vals {K:PySem.W.Frag} {H:Hp} {O:Addr→Prop}:∀ {ds:List D} {ns:List Bool} {xs:List V},blsOf ds=.ok ns→RDs K H O ds xs→xs=ns.map V.bl
 | [],ns,xs,h,w=>by
  rw[blsOf] at h;cases h
  rw[RDs] at w;subst w;rfl
 | .bl i::r,ns,xs,h,w=>by
  rw[blsOf] at h
  obtain⟨q,h1,h⟩:=Res.bind_ok h
  cases h
  obtain⟨v,ys,rfl,e1,e2⟩:=w
  cases (show v=_ from e1)
  rw[bls_vals h1 e2];rfl
 | .non::_,_,_,h,_ | .int _::_,_,_,h,_ | .str _::_,_,_,h,_ | .tup _::_,_,_,h,_ | .lst _::_,_,_,h,_ | .dct _::_,_,_,h,_ | .tdc _::_,_,_,h,_=>by
  rw[blsOf] at h<;>first | cases h | (intros;rename_i z;cases z)
theorem bt_all (hc:X.calm=true):CallR X (.builtin "all") (rB X.K (Bt.run .all) false):=by
 intro pins s σ H xs us Q I rv h
 obtain⟨O,ds,d,rr,ev,tr,k⟩:=h
 obtain⟨d0,rfl,ev⟩:=run_one ev (λ_ _=>rfl)
 obtain⟨v,rfl,r1⟩:=rr1 rr
 have ev:D.all d0=.ok d:=ev
 unfold D.all at ev
 split at ev
 ·obtain⟨ns,e1,ev⟩:=Res.bind_ok ev
  cases ev
  obtain⟨a,ys,rfl,q1,w1⟩:=r1.lst
  have e:=bls_vals e1 w1
  subst e
  exact Tr.call_all pins s σ H _ us Q I rv ⟨a,ns,rfl,q1,hc,k _ H (Same.refl H) rfl (λz=>by cases z)⟩
 ·cases ev
theorem tcb_of {b:Bt} {H₀:Hp} {O₀:Addr→Prop} {σ:L2.St} {H:Hp} {Q:VK} (h:tE T cf X.K H₀ O₀ (.bt b x) σ H Q):tCB (rB X.K (Bt.run b) (freshE T (.bt b x))) (tAr T cf X.K H₀ O₀ x) σ H Q:=by
 obtain⟨O,own,e,d,F,ev,k⟩:=h
 rw[xE_bt] at ev
 obtain⟨ds,e1,ev⟩:=Res.bind_ok ev
 refine⟨O,own,e,ds,F,e1,λvs H1 s1 r1=>?_⟩
 refine⟨O,ds,d,r1,ev,(F.grow s1).trk,λv H' s2 r2 n2=>k v H' (s1.trans s2) r2 λfr=>(n2 fr).back s1⟩
noncomputable def Bt.use:Bt→Bool
 | .list=>false
 | .str=>false
 | .bool=>false
 | .abs=>false
 | .min=>false
 | .max=>false
 | .any=>false
 | _=>true
theorem se_bt {b:Bt} {n:Str} {pn:Pos} (hu:b.use=true) (hh:X.calm=true) (hn:n=b.nm) (hm:X.mg b.nm=none) (hg:Gl X n) (hp:(p::es).all plainX=true) (ha:SAr T cf X x (p::es)):SE T cf X (.bt b x) (.Call (.Name n pn) (p::es) [] pos):=λH₀ O₀=>by
 subst hn
 rw[List.all_cons,Bool.and_eq_true] at hp
 refine PE.imp (λσ H Q h=>tcb_of h) ?_
 cases b with
 | len=>exact pe_callB bt_len hg hm PySem.boot_len (ha H₀ O₀) (by decide) (by decide) (plain_star hp.1) (plain_any hp.2)
 | sum=>exact pe_callB (bt_sum hh) hg hm PyProof.Rows.boot_sum (ha H₀ O₀) (by decide) (by decide) (plain_star hp.1) (plain_any hp.2)
 | tuple=>exact pe_callTy bt_tuple hg hm PyProof.Rows.boot_tuple (ha H₀ O₀) (by decide) (by decide) (plain_star hp.1) (plain_any hp.2)
 | list=>cases hu
 | int=>exact pe_callTy bt_int hg hm PyProof.Rows.boot_int (ha H₀ O₀) (by decide) (by decide) (plain_star hp.1) (plain_any hp.2)
 | str=>cases hu
 | bool=>cases hu
 | abs=>cases hu
 | min=>cases hu
 | max=>cases hu
 | all=>exact pe_callB (bt_all hh) hg hm (by decide +kernel) (ha H₀ O₀) (by decide) (by decide) (plain_star hp.1) (plain_any hp.2)
 | any=>cases hu
noncomputable def Ty.nm:Ty→String
 | .int => "int"
 | .bool => "bool"
 | .str => "str"
 | .tuple => "tuple"
 | .list => "list"
theorem kit_non (K:PySem.W.Frag) (t:Ty):PySem.W.kitOne K (.type "NoneType") (.type t.nm)=some (D.isTy .non t):=by cases t<;>rfl
theorem kit_bl (K:PySem.W.Frag) (t:Ty) (b:Bool):PySem.W.kitOne K (.type "bool") (.type t.nm)=some (D.isTy (.bl b) t):=by cases t<;>rfl
theorem kit_int (K:PySem.W.Frag) (t:Ty) (i:Int):PySem.W.kitOne K (.type "int") (.type t.nm)=some (D.isTy (.int i) t):=by cases t<;>rfl
theorem kit_str (K:PySem.W.Frag) (t:Ty) (x:Str):PySem.W.kitOne K (.type "str") (.type t.nm)=some (D.isTy (.str x) t):=by cases t<;>rfl
theorem kit_tup (K:PySem.W.Frag) (t:Ty) (x:List D):PySem.W.kitOne K (.type "tuple") (.type t.nm)=some (D.isTy (.tup x) t):=by cases t<;>rfl
theorem kit_lst (K:PySem.W.Frag) (t:Ty) (x:List D):PySem.W.kitOne K (.type "list") (.type t.nm)=some (D.isTy (.lst x) t):=by cases t<;>rfl
theorem isi_D (t:Ty):CallR X (.builtin "isinstance") (λxs H Q=>∃O d v,xs=[v,.ty t.nm]∧RR X.K H O d v∧d.isDct=false∧Q (.bl (d.isTy t)) H):=by
 intro pins s σ H xs us Q I rv h
 obtain⟨O,d,v,rfl,r,nd,q⟩:=h
 obtain⟨u,w,rfl,r1,r2⟩:=vals2 rv
 cases (show w=_ from r2)
 have fin:∀tk,EP X pins σ Q (.bool (d.isTy t)) { s with toks:=tk }:=λtk=>⟨.bl (d.isTy t),H,I.tok tk,rfl,q⟩
 have sn:=seesR I r r1
 cases sn with
 | dct ds a ps q w=>cases nd
 | tdc ds a ps q w=>cases nd
 | non=>exact PySem.W.kia_one PySem.W.kitx_none I.kIn True.intro (kit_non _ t) (λz=>nomatch z) fin
 | bl b=>exact PySem.W.kia_one PySem.W.kitx_bool I.kIn True.intro (kit_bl _ t b) (λz=>nomatch z) fin
 | int i tk=>exact PySem.W.kia_one PySem.W.kitx_int I.kIn True.intro (kit_int _ t i) (λz=>nomatch z) fin
 | str x tk=>exact PySem.W.kia_one PySem.W.kitx_str I.kIn True.intro (kit_str _ t x) (λz=>nomatch z) fin
 | tup ds a xs its q w r p =>
  obtain⟨o,h1,h2,_⟩:=p
  exact PySem.W.kia_one PySem.W.kitx_tuple I.kIn ⟨o,h1,h2⟩ (kit_tup _ t ds) (λz=>nomatch z) fin
 | lst ds a xs its q w r p =>
  obtain⟨o,h1,h2,_⟩:=p.isList
  exact PySem.W.kia_one PySem.W.kitx_list I.kIn ⟨o,h1,h2⟩ (kit_lst _ t ds) (λz=>nomatch z) fin
theorem boot_ty (t:Ty):bootBuiltins (Str.ofString t.nm)=some (.type t.nm):=by
 cases t
 ·exact PyProof.Rows.boot_int
 ·exact PyProof.Rows.boot_bool
 ·exact PyProof.Rows.boot_str
 ·exact PyProof.Rows.boot_tuple
 ·exact PyProof.Rows.boot_list
theorem se_isi {t:Ty} {n m:Str} {pn pm:Pos} (hn:n = "isinstance") (hm':m=Str.ofString t.nm) (h0:X.mg "isinstance" = none) (h1:X.mg (Str.ofString t.nm)=none) (hg:Gl X n) (hg':Gl X m) (hp:plainX p=true) (ha:SR T cf X x p) :
 SE T cf X (.isi x t) (.Call (.Name n pn) [p,.Name m pm] [] pos):=λH₀ O₀=>by
 subst hn hm'
 have ht:PE X (.Name (Str.ofString t.nm) pm) (tC (.ty t.nm)):=pe_bltn hg' h1 (boot_ty t) rfl (by cases t<;>decide) (by cases t<;>decide)
 refine PE.imp (λσ H Q hq=>?_) (pe_callB (isi_D t) hg h0 PyProof.Rows.boot_isinstance (pa_cons (ha H₀ O₀) (pa_cons ht pa_nil (plain_star rfl)) (plain_star hp)) (by decide) (by decide) (plain_star hp) (plain_any rfl))
 obtain⟨O,own,e,d,F,ev,k⟩:=hq
 rw[xE_isi] at ev
 obtain⟨d1,e1,ev⟩:=Res.bind_ok ev
 obtain⟨c,ev⟩:=when_ok ev
 cases ev
 refine⟨O,own,e,d1,F,e1,λv1 H1 s1 r1=>?_⟩
 exact⟨O,d1,v1,rfl,r1,by simpa using c,k _ H1 s1 rfl (λz=>by cases z)⟩
noncomputable def Mt.nm:Mt→Str
 | .split => "split"
 | .join => "join"
 | .index => "index"
noncomputable def baseX:Expr→Bool
 | .Name _ _=>true
 | .Constant _ _ _=>true
 | .Subscript _ _ _=>true
 | .BinOp _ _ _ _=>true
 | _=>false
theorem base_of {e:Expr} {nm:Str} {env:Env} (h:baseX e=true) (hn:(nm==("__class__" : Str))=false):attributeBase e nm env (eval e env)=eval e env:=by
 cases e<;>first | (cases h;done) | rfl
end
inductive Pin where
 | dv (d:D) (v:V) | fr (a:Addr) (o:Obj) (u:HO)
noncomputable def PinOk (K:PySem.W.Frag) (H:Hp) (O:Addr→Prop):Pin→Prop
 | .dv d v=>RD K H O d v
 | .fr a o u=>H a=some (.frz o u)
noncomputable def PinR (K:PySem.W.Frag) (H:Hp) (O:Addr→Prop):Pin→Prop
 | .dv d v=>RR K H O d v
 | .fr a o u=>H a=some (.frz o u)
section
variable {K:PySem.W.Frag} {H H':Hp} {O O':Addr→Prop} {p:Addr} {t:Pin}
theorem PinOk.rr (h:PinOk K H O t):PinR K H O t:=by
 cases t with
 | dv d v=>exact RD.rr h
 | fr a o u=>exact h
theorem PinOk.same (h:PinOk K H O t) (s:Same H H'):PinOk K H' O t:=by
 cases t with
 | dv d v=>exact RD.same s h
 | fr a o u=>exact s _ _ h
theorem PinOk.new (h:PinOk K H O t) (hp:H p=none):PinOk K H (plus O p) t:=by
 cases t with
 | dv d v=>exact RD.new hp h
 | fr a o u=>exact h
theorem PinOk.weak (h:PinOk K H O t) (s:∀a,O' a→O a):PinOk K H O' t:=by
 cases t with
 | dv d v=>exact RD.weak s h
 | fr a o u=>exact h
theorem PinOk.updM {o o':HO} (h:PinOk K H O t) (hO:O p) (hp:H p=some o) (hm:MutO o):PinOk K (L2.upd H p o') O t:=by
 cases t with
 | dv d v=>exact RD.updM hO hp hm h
 | fr a o1 u=>exact (upd_map (K:=K) hO hp hm).2.2 a o1 u h
theorem PinOk.upd {ys zs:List V} (h:PinOk K H O t) (hO:O p) (hp:H p=some (.lst ys)):PinOk K (L2.upd H p (.lst zs)) O t:=h.updM hO hp trivial
end
noncomputable def Wk1 (K:PySem.W.Frag) (J:It) (d0:D) (v0:V) (ds:List D):Prop:=∀i H O,RR K H O d0 v0 →
 (i < ds.length→J.go i H)∧(ds.length≤i→J.stop i H)∧∀x H' d,ds[i]?=some d→J.yld i H x H'→Same H H'∧RD K H' O d x
noncomputable def Wk (K:PySem.W.Frag) (J:It) (srs:List Pin) (ds:List D):Prop:=∀i H O,(∀t∈srs,PinR K H O t) →
 (i < ds.length→J.go i H)∧(ds.length≤i→J.stop i H)∧∀x H' d,ds[i]?=some d→J.yld i H x H'→Same H H'∧RD K H' O d x
theorem Wk1.wk {K:PySem.W.Frag} {J:It} {d0:D} {v0:V} {ds:List D} (h:Wk1 K J d0 v0 ds):Wk K J [.dv d0 v0] ds:=λi H O r=>h i H O (r (.dv d0 v0) (List.mem_singleton.mpr rfl))
theorem k1_of {K:PySem.W.Frag} {H:Hp} {O:Addr→Prop} {rd:Bool} {ds:List D} {R:It→Hp→Prop} (k:∀J H' srs,Same H H'→(∀t∈srs,PinR K H' O t)→(rd=false→∀t∈srs,PinOk K H' O t)→Wk K J srs ds→R J H') :
 ∀J H' d0 v0,Same H H'→RR K H' O d0 v0→(rd=false→RD K H' O d0 v0)→Wk1 K J d0 v0 ds→R J H':=λJ H' d0 v0 s r rv w =>
 k J H' [.dv d0 v0] s (λt ht=>by rw[List.mem_singleton.mp ht];exact r) (λz t ht=>by rw[List.mem_singleton.mp ht];exact rv z) w.wk
noncomputable def tI (T:Tab) (cf:Nat→List D→Res D) (K:PySem.W.Frag) (H₀:Hp) (O₀:Addr→Prop) (x:E) (rd:Bool):TI:=λσ H R=>∃O own e ds,Fm K H₀ O₀ H O own e σ∧evI T cf x e=.ok ds ∧
 ∀J H' srs,Same H H'→(∀t∈srs,PinR K H' O t)→(rd=false→∀t∈srs,PinOk K H' O t)→Wk K J srs ds→R J H'
noncomputable def SI (T:Tab) (cf:Nat→List D→Res D) (X:Cx) (tg:Expr) (x:E) (rd:Bool) (p:Expr):Prop:=∀H₀ O₀,PI X tg p (tI T cf X.K H₀ O₀ x rd)
section
variable {T:Tab} {cf:Nat→List D→Res D} {X:Cx} {x y z:E} {p q r tg:Expr} {pos pos':Pos} {es:List Expr}
theorem wk_list {K:PySem.W.Frag} {a:Addr} {ds:List D}:Wk1 K (Itl K a) (.lst ds) (.ref a) ds:=by
 intro i H O r
 obtain⟨a',xs,e,q,w⟩:=r.lst
 cases e
 have hl:=w.length
 refine⟨λh=>?_,λh=>⟨xs,q,by lia⟩,λx H' d hd y=>?_⟩
 ·obtain⟨v,h1,h2⟩:=w.get (List.getElem?_eq_getElem h)
  exact⟨xs,v,q,h1⟩
 ·obtain⟨rfl,y⟩:=y
  refine⟨Same.refl _,?_⟩
  obtain⟨v,h1,h2⟩:=w.get hd
  have:=(y xs q).symm.trans h1
  cases this
  exact h2
theorem wk_tup {K:PySem.W.Frag} {a:Addr} {ds:List D}:Wk1 K (Itt K a) (.tup ds) (.ref a) ds:=by
 intro i H O r
 obtain⟨a',xs,e,q,w⟩:=r.tup
 cases e
 have hl:=w.length
 refine⟨λh=>?_,λh=>⟨xs,q,by lia⟩,λx H' d hd y=>?_⟩
 ·obtain⟨v,h1,h2⟩:=w.get (List.getElem?_eq_getElem h)
  exact⟨xs,v,q,h1⟩
 ·obtain⟨rfl,y⟩:=y
  refine⟨Same.refl _,?_⟩
  obtain⟨v,h1,h2⟩:=w.get hd
  have:=(y xs q).symm.trans h1
  cases this
  exact h2
theorem rangeD_len (lo:Int):∀n,(rangeD lo n).length=n
 | 0=>rfl
 | n+1=>by rw[rangeD,List.length_cons,rangeD_len (lo+1) n]
theorem rangeD_get:∀(lo:Int) (n i:Nat),i < n→(rangeD lo n)[i]?=some (.int (lo+i))
 | lo,0,i,h=>absurd h (Nat.not_lt_zero _)
 | lo,n+1,0,_=>by rw[rangeD];simp
 | lo,n+1,i+1,h=>by
  rw[rangeD,List.getElem?_cons_succ,rangeD_get (lo+1) n i (by lia)]
  congr 2
  push_cast
  lia
theorem wk_rng {K:PySem.W.Frag} {lo:Int} {n:Nat}:Wk1 K (Itr lo n) .non .non (rangeD lo n):=by
 intro i H O r
 rw[rangeD_len]
 refine⟨λh=>h,λh=>h,λx H' d hd y=>?_⟩
 obtain⟨rfl,rfl⟩:=y
 refine⟨Same.refl _,?_⟩
 by_cases hi:i < n
 ·rw[rangeD_get lo n i hi] at hd
  cases hd
  exact rfl
 ·rw[List.getElem?_eq_none (by rw[rangeD_len];lia)] at hd
  cases hd
theorem wk_str {K:PySem.W.Frag} {z:Str}:Wk1 K (Its z) (.str z) (.str z) (z.cps.toList.map λc=>D.str (chr1 c)):=by
 intro i H O r
 rw[List.length_map]
 refine⟨λh=>by simpa[Its] using h,λh=>by simpa[Its] using h,λx H' d hd y=>?_⟩
 obtain⟨rfl,c,hc,rfl⟩:=y
 refine⟨Same.refl _,?_⟩
 rw[List.getElem?_map] at hd
 have hc':z.cps.toList[i]?=some c:=by simpa using hc
 rw[hc'] at hd
 cases hd
 exact rfl
theorem si_seq {rd:Bool} (ha:SR T cf X x p) (hv:rd=false→SE T cf X x p):SI T cf X tg (.seq x) rd p:=by
 intro H₀ O₀ pins s σ H R I h
 obtain⟨O,own,e,ds,F,ev,k⟩:=h
 replace k:=k1_of k
 rw[xI_seq] at ev
 obtain⟨d1,e1,ev⟩:=Res.bind_ok ev
 have main:∀ {u:Value} {s1:Shared} {v:V} {H1:Hp},Inv X pins σ H1 s1→RelV v u→Same H H1→RR X.K H1 O d1 v→(rd=false→RD X.K H1 O d1 v)→wpAny (model X.prog X.w) X.A (pyIter u) (PIE X pins σ tg R) X.xe s1:=by
  intro u s1 v H1 I1 r1 s1' rr rv
  unfold D.items at ev
  split at ev
  ·cases ev
   obtain⟨a,xs,e,q1,w1⟩:=rr.lst
   subst e
   cases r1
   obtain⟨its,r',pl,hz⟩:=I1.list q1
   refine wpAny_pyIter_list pl.isList ?_
   refine⟨s1.heap.objs.size,[s1.heap.objs.size],_,Itl X.K a,H1,rfl,I1.kept (t':=s1.toks) λb u e=>Heap.get?_push_of_some _ e,turn_list a _,⟨_,Heap.get?_push_size _ rfl,rfl,rfl⟩,λb hb=>?_,k _ H1 _ _ s1' rr rv wk_list⟩
   rcases List.mem_cons.mp hb with rfl | hb
   ·exact I1.fpOk (Nat.le_refl _) (I1.hok.fresh (Nat.le_refl _))
   ·cases hb
  ·cases ev
   obtain⟨a,xs,e,q1,w1⟩:=rr.tup
   subst e
   cases r1
   obtain⟨its,r',pl,hz⟩:=I1.tuple q1
   refine wpAny_pyIter_tuple pl ?_
   refine⟨s1.heap.objs.size,[s1.heap.objs.size],_,Itt X.K a,H1,rfl,I1.kept (t':=s1.toks) λb u e=>Heap.get?_push_of_some _ e,turn_tuple a _,⟨_,Heap.get?_push_size _ rfl,rfl,rfl⟩,λb hb=>?_,k _ H1 _ _ s1' rr rv wk_tup⟩
   rcases List.mem_cons.mp hb with rfl | hb
   ·exact I1.fpOk (Nat.le_refl _) (I1.hok.fresh (Nat.le_refl _))
   ·cases hb
  ·cases ev
   rename_i z
   cases (show v=.str z from rr.rd rfl)
   obtain⟨t,rfl⟩:=r1
   exact pi_str I1 (k _ H1 (.str z) (.str z) s1' rr rv wk_str)
  ·cases ev
 cases rd with
 | true=>exact thn (ha H₀ O₀ pins s σ H (λv H1=>Same H H1∧RR X.K H1 O d1 v) I ⟨O,own,e,d1,F,e1,λv H' s' r=>⟨s',r⟩⟩) λu s1 ⟨v,H1,I1,r1,s1',rr⟩=>main I1 r1 s1' rr (λz=>by cases z)
 | false=>exact thn (hv rfl H₀ O₀ pins s σ H (λv H1=>Same H H1∧RD X.K H1 O d1 v) I ⟨O,own,e,d1,F,e1,λv H' s' r _=>⟨s',r⟩⟩) λu s1 ⟨v,H1,I1,r1,s1',rr⟩=>main I1 r1 s1' rr.rr (λ_=>rr)
theorem si_rng {rd:Bool} {n:Str} {pn:Pos} (hn:n = "range") (hg:Gl X n) (hm:X.mg "range" = none) (hp:plainX p=true) (ha:SE T cf X x p):SI T cf X tg (.rng x) rd (.Call (.Name n pn) [p] [] pos):=by
 intro H₀ O₀ pins s σ H R I h
 subst hn
 obtain⟨O,own,e,ds,F,ev,k⟩:=h
 replace k:=k1_of k
 rw[xI_rng] at ev
 obtain⟨d1,e1,ev⟩:=Res.bind_ok ev
 refine pi_range1 hg hm (pa_cons (ha H₀ O₀) pa_nil (plain_star hp)) (plain_star hp) pins s σ H R I ⟨O,own,e,d1,F,e1,λv H' s' r _=>?_⟩
 split at ev
 ·obtain⟨c,ev⟩:=when_ok ev
  cases ev
  cases (show v=_ from r)
  simp only[small62,Bool.and_eq_true,decide_eq_true_eq] at c
  exact⟨_,rfl,c.1,c.2,k _ H' .non .non s' (.inl rfl) (λ_=>rfl) wk_rng⟩
 ·cases ev
theorem si_rng2 {rd:Bool} {n:Str} {pn:Pos} (hn:n = "range") (hg:Gl X n) (hm:X.mg "range" = none) (hp:plainX p=true) (hq:plainX q=true) (ha:SE T cf X x p) (hb:SE T cf X y q):SI T cf X tg (.rng2 x y) rd (.Call (.Name n pn) [p,q] [] pos):=by
 intro H₀ O₀ pins s σ H R I h
 subst hn
 obtain⟨O,own,e,ds,F,ev,k⟩:=h
 replace k:=k1_of k
 rw[xI_rng2] at ev
 obtain⟨d1,e1,ev⟩:=Res.bind_ok ev
 split at ev
 ·obtain⟨d2,e2,ev⟩:=Res.bind_ok ev
  split at ev
  ·obtain⟨c,ev⟩:=when_ok ev
   cases ev
   simp only[small62,Bool.and_eq_true,decide_eq_true_eq] at c
   refine pi_range2 hg hm (pa_cons (ha H₀ O₀) (pa_cons (hb H₀ O₀) pa_nil (plain_star hq)) (plain_star hp)) (by rw[plain_star hp,plain_star hq];rfl) (plain_star hq) pins s σ H R I ⟨O,own,e,_,F,e1,λv H1 s1 r1 _=>⟨O,own,e,_,F.grow s1,e2,λv2 H2 s2 r2 _=>?_⟩⟩
   cases (show v=_ from r1)
   cases (show v2=_ from r2)
   exact⟨_,_,rfl,⟨c.1.1,c.1.2,c.2.1,c.2.2⟩,k _ H2 .non .non (s1.trans s2) (.inl rfl) (λ_=>rfl) wk_rng⟩
  ·cases ev
 ·cases ev
noncomputable def Ft (K:PySem.W.Frag) (H₀:Hp) (O₀:Addr→Prop) (ts:List Pin) (e:Nv) (σ:L2.St) (H:Hp):Prop:=∃O own,Fm K H₀ O₀ H O own e σ∧∀t∈ts,PinOk K H O t
noncomputable def tG (K:PySem.W.Frag) (H₀:Hp) (O₀:Addr→Prop) (g:G):TG:=λv σ H Q=>∃O own e d e',Fm K H₀ O₀ H O own e σ∧RD K H O d v∧g.put d e=.ok e'∧∀σ' own',(∀j a,own' j=some a→own j=some a)→Fm K H₀ O₀ H O own' e' σ'→Q σ' H
noncomputable def SG (X:Cx) (g:G) (tg:Expr):Prop:=∀H₀ O₀,PG X tg (tG X.K H₀ O₀ g)
theorem PG.imp {t t':TG} (h:∀v σ H Q,t' v σ H Q→t v σ H Q) (hp:PG X tg t):PG X tg t':=λpins s σ H v u Q I r q=>hp pins s σ H v u Q I r (h v σ H Q q)
theorem own_less {own:Nat→Option Addr} {i:Nat}:∀j a,(λj=>if j=i then none else own j) j=some a→own j=some a:=λj a h=>by
 dsimp only at h
 by_cases hj:j=i
 ·rw[if_pos hj] at h;cases h
 ·rw[if_neg hj] at h;exact h
theorem sg_one {i:Nat} {n:Str} (hN:X.N.Nodup) (hi:X.N[i]?=some n) (hx:Loc X.env.scope n) (hf:X.fn n=true∨X.env.scope.names.lookup n=some .local):SG X (.one i) (.Name n pos):=λH₀ O₀ =>
 PG.imp (λv σ H Q ⟨O,own,e,d,e',F,r,ev,k⟩=>by
  cases ev
  exact k _ _ own_less (F.setV i r)) (pg_name hN hi hx hf)
noncomputable def tGs (K:PySem.W.Frag) (H₀:Hp) (O₀:Addr→Prop) (is:List Nat):TGs:=λvs σ H Q=>∃O own e ds e',Fm K H₀ O₀ H O own e σ∧RDs K H O ds vs∧puts is ds e=.ok e'∧∀σ' own',(∀j a,own' j=some a→own j=some a)→Fm K H₀ O₀ H O own' e' σ'→Q σ' H
noncomputable def SGs (X:Cx) (is:List Nat) (tgs:List Expr):Prop:=∀H₀ O₀,PGs X tgs (tGs X.K H₀ O₀ is)
theorem PGs.imp {tgs:List Expr} {t t':TGs} (h:∀v σ H Q,t' v σ H Q→t v σ H Q) (hp:PGs X tgs t):PGs X tgs t':=λpins s σ H v u Q I r q=>hp pins s σ H v u Q I r (h v σ H Q q)
theorem sgs_nil:SGs X [] []:=λH₀ O₀=>PGs.imp (λvs σ H Q ⟨O,own,e,ds,e',F,r,ev,k⟩=>by
 cases ds with
 | nil =>
  simp only[puts] at ev
  cases ev
  rw[RDs] at r
  exact⟨r,k _ _ (λ_ _ h=>h) F⟩
 | cons d ds=>simp only[puts] at ev;cases ev) pgs_nil
theorem each_name {n:Str} {pos:Pos} {es:List Expr} {env:Env}:(assignEach (.Name n pos::es) env).map (·.2)=assign (.Name n pos) env::(assignEach es env).map (·.2):=rfl
theorem sgs_cons {i:Nat} {is:List Nat} {n:Str} (hN:X.N.Nodup) (hi:X.N[i]?=some n) (hx:Loc X.env.scope n) (hf:X.fn n=true∨X.env.scope.names.lookup n=some .local) (h:SGs X is es):SGs X (i::is) (.Name n pos::es):=λH₀ O₀ =>
 PGs.imp (λvs σ H Q ⟨O,own,e,ds,e',F,r,ev,k⟩=>by
  cases ds with
  | nil=>simp only[puts] at ev;cases ev
  | cons d ds =>
   rw[puts] at ev
   obtain⟨v,vr,rfl,r1,r2⟩:=r
   exact⟨v,vr,rfl,O,_,_,ds,e',F.setV i r1,r2,ev,λσ' own' h=>k σ' own' λj a q=>own_less j a (h j a q)⟩) (pgs_cons (pg_name hN hi hx hf) (h H₀ O₀) each_name)
noncomputable def names1:List Expr→Bool
 | []=>true
 | .Name _ _::r=>names1 r
 | _=>false
theorem each_len {env:Env}:∀ {es:List Expr},names1 es=true→(assignEach es env).length=es.length:=by
 intro es
 induction es with
 | nil=>intro _;rfl
 | cons e es ih =>
  intro h
  cases e with
  | Name n pos =>
   show ((false,assign (.Name n pos) env)::assignEach es env).length=_
   rw[List.length_cons,ih h,List.length_cons]
  | _=>exact absurd h Bool.false_ne_true
theorem each_star {env:Env}:∀ {es:List Expr},names1 es=true→(assignEach es env).findIdx? (·.1)=none:=by
 intro es
 induction es with
 | nil=>intro _;rfl
 | cons e es ih =>
  intro h
  cases e with
  | Name n pos =>
   show ((false,assign (.Name n pos) env)::assignEach es env).findIdx? (·.1)=none
   rw[List.findIdx?_cons,ih h];rfl
  | _=>exact absurd h Bool.false_ne_true
theorem puts_len:∀ {is:List Nat} {ds:List D} {e e':Nv},puts is ds e=.ok e'→ds.length=is.length
 | [],[],_,_,_=>rfl
 | [],_::_,_,_,h=>by simp only[puts] at h;cases h
 | _::_,[],_,_,h=>by simp only[puts] at h;cases h
 | i::is,d::ds,e,e',h=>by
  rw[puts] at h
  rw[List.length_cons,List.length_cons,puts_len h]
theorem sg_many {is:List Nat} {k:Nat} (hc:X.calm=true) (hn:names1 es=true) (hl:es.length=is.length) (h:SGs X is es):SG X (.many is) (.Tuple es k pos):=λH₀ O₀ =>
 PG.imp (λv σ H Q ⟨O,own,e,d,e',F,r,ev,k⟩=>by
  cases d with
  | tup ds =>
   have ev:puts is ds e=.ok e':=ev
   obtain⟨a,xs,rfl,q,w⟩:=r
   exact⟨a,xs,rfl,q.sq,by rw[w.length,puts_len ev,←hl],O,own,e,ds,e',F,w,ev,k⟩
  | non=>cases ev
  | bl _=>cases ev
  | int _=>cases ev
  | str _=>cases ev
  | lst _=>cases ev
  | dct _=>cases ev
  | tdc _=>cases ev) (pg_tup (n:=es.length) hc (h H₀ O₀) (each_len hn) (each_star hn))
noncomputable def Ends.to (K:PySem.W.Frag) (H₀:Hp) (O₀:Addr→Prop) (ts:List Pin) (D':Ends):Out→Prop
 | .nx e'=>∀σ' H',Ft K H₀ O₀ ts e' σ' H'→D'.nx σ' H'
 | .bk e'=>∀σ' H',Ft K H₀ O₀ ts e' σ' H'→D'.bk σ' H'
 | .ct e'=>∀σ' H',Ft K H₀ O₀ ts e' σ' H'→D'.ct σ' H'
 | .rt d fr=>∀v H',Same H₀ H'→RD K H' O₀ d v→(fr=true→NewR K H₀ H' O₀ d v)→D'.rt v H'
noncomputable def tS (T:Tab) (cf:Nat→List D→Res D) (K:PySem.W.Frag) (H₀:Hp) (O₀:Addr→Prop) (x:S):TS:=λD' σ H=>∃ts e out,Ft K H₀ O₀ ts e σ H∧exS T cf x e=.ok out∧Ends.to K H₀ O₀ ts D' out
noncomputable def SS (T:Tab) (cf:Nat→List D→Res D) (X:Cx) (x:S) (p:Stmt):Prop:=∀H₀ O₀,PS X p (tS T cf X.K H₀ O₀ x)
noncomputable def SB (T:Tab) (cf:Nat→List D→Res D) (X:Cx) (x:S) (p:List Stmt):Prop:=∀H₀ O₀,PSs X p (tS T cf X.K H₀ O₀ x)
theorem PS.imp {st:Stmt} {t t':TS} (h:∀D' σ H,t' D' σ H→t D' σ H) (hp:PS X st t):PS X st t':=λpins s σ H D' I q=>hp pins s σ H D' I (h D' σ H q)
theorem PSs.imp {st:List Stmt} {t t':TS} (h:∀D' σ H,t' D' σ H→t D' σ H) (hp:PSs X st t):PSs X st t':=λpins s σ H D' I q=>hp pins s σ H D' I (h D' σ H q)
variable {a b c:S} {st:Stmt} {sts:List Stmt}
theorem freezeA {pins:List (Addr×Obj)} {σ:L2.St} {H:Hp} {s:Shared} {p:Addr} {u:HO} (I:Inv X pins σ H s) (h:H p=some u) (hu:(∃ps,u=.dK ps)∨∃ps,u=.dT ps):∃ob,Inv X pins σ (L2.upd H p (.frz ob u)) s:=by
 rcases hu with ⟨ps,rfl⟩ | ⟨ps,rfl⟩
 ·obtain⟨o,_,_,_,I2⟩:=freeze I h
  exact⟨o,I2⟩
 ·obtain⟨o,_,_,_,I2⟩:=freezeT I h
  exact⟨o,I2⟩
theorem sb_nil:SB T cf X .nil []:=λH₀ O₀=>PSs.imp (λD' σ H ⟨ts,e,out,F,ev,k⟩=>by
 rw[xS_nil] at ev;cases ev
 exact k σ H F) pss_nil
theorem sb_cons (h1:SS T cf X a st) (h2:SB T cf X b sts):SB T cf X (.cons a b) (st::sts):=λH₀ O₀=>by
 refine PSs.imp (λD' σ H hq=>?_) (pss_cons (h1 H₀ O₀) (h2 H₀ O₀))
 obtain⟨ts,e,out,F,ev,k⟩:=hq
 rw[xS_cons] at ev
 obtain⟨o1,e1,ev⟩:=Res.bind_ok ev
 refine⟨ts,e,o1,F,e1,?_⟩
 cases o1 with
 | nx e'=>exact λσ' H' F'=>⟨ts,e',out,F',ev,k⟩
 | rt d fr=>cases ev;exact k
 | bk e'=>cases ev;exact k
 | ct e'=>cases ev;exact k
theorem sb_seal {i:Nat} (h2:SB T cf X b sts):SB T cf X (.cons (.sealed i) b) sts:=λH₀ O₀ pins s σ H D' I hq=>by
 obtain⟨ts,e,out,⟨O,own,F,tt⟩,ev,k⟩:=hq
 (first | rw[xS_cons] at ev | rw[xS_sealed] at ev)
 obtain⟨o1,e1,ev⟩:=Res.bind_ok ev
 (first | rw[xS_cons] at e1 | rw[xS_sealed] at e1)
 obtain⟨l,e2,e1⟩:=Res.bind_ok e1
 cases e1
 cases hd:l.isDct with
 | false =>
  obtain⟨O',own',F',sub⟩:=F.seal i (Sl.ownA_ok e2) hd
  exact h2 H₀ O₀ pins s σ H D' I ⟨ts,_,out,⟨O',own',F',λt ht=>(tt t ht).weak sub⟩,ev,k⟩
 | true =>
  obtain⟨p,u,g1,g2,g3,g4,g5⟩:=F.sealD i (Sl.ownA_ok e2) hd
  obtain⟨ob,I2⟩:=freezeA I g1 g2
  obtain⟨⟨own',F'⟩,_⟩:=g5 ob
  exact h2 H₀ O₀ pins s σ _ D' I2 ⟨ts,_,out,⟨_,own',F',λt ht=>((tt t ht).updM g4.1 g1 g4.2).weak λ_ z=>z.1⟩,ev,k⟩
theorem ss_ret (h:SE T cf X x p):SS T cf X (.ret x) (.Return (some p) pos):=λH₀ O₀=>by
 refine PS.imp (λD' σ H hq=>?_) (ps_ret (h H₀ O₀))
 obtain⟨ts,e,out,⟨O,own,F,tt⟩,ev,k⟩:=hq
 rw[xS_ret] at ev
 obtain⟨d,e1,ev⟩:=Res.bind_ok ev
 cases ev
 refine⟨O,own,e,d,F,e1,λv H' s' r n=>k v H' (F.same.trans s') (r.weak F.sub) λfr=>?_⟩
 rw[Bool.and_eq_true,Bool.not_eq_true'] at fr
 exact NewR.of (((n fr.1).back F.same).weak F.sub) fr.2
theorem ss_retO {i:Nat} {n:Str} (hN:X.N[i]?=some n) (hv:Vis X.env.scope n) (hd:(n==("__debug__" : Str))=false) (hc:(n==("__classdict__" : Str))=false):SS T cf X (.retO i) (.Return (some (.Name n pos')) pos):=λH₀ O₀ pins s σ H D' I hq=>by
 obtain⟨ts,e,out,⟨O,own,F,tt⟩,ev,k⟩:=hq
 rw[xS_retO] at ev
 obtain⟨l,e1,ev⟩:=Res.bind_ok ev
 cases ev
 cases hz:l.isDct with
 | false =>
  rw[hz] at k
  have q:=F.sl i
  rw[Sl.ownA_ok e1] at q
  obtain⟨p,e2,e3,h1⟩:=q
  have hn:=F.new i p e2
  have nO:¬O₀ p:=λz=>by
   obtain⟨o,w⟩:=F.trk0 p z
   rw[hn.2] at w;cases w
  exact ps_ret (pe_var hN hv hd hc) pins s σ H D' I ⟨.ref p,st_get e3,k _ H F.same (OwnAt.rd nO hz (h1.weak F.sub)) λ_=>⟨λ_=>⟨p,rfl,hn.2,h1.weak λb hb=>hb.elim (F.sub b) λz=>z▸hn.1⟩,λ_ a r z=>by subst z;exact h1.elim⟩⟩
 | true =>
  rw[hz] at k
  obtain⟨p,u,g1,g2,g3,g4,g5⟩:=F.sealD i (Sl.ownA_ok e1) hz
  obtain⟨ob,I2⟩:=freezeA I g1 g2
  obtain⟨⟨own',F'⟩,rd⟩:=g5 ob
  exact ps_ret (pe_var hN hv hd hc) pins s σ _ D' I2 ⟨.ref p,st_get g3,k _ _ F'.same (rd.weak F'.sub) λz=>by cases z⟩
noncomputable def notComp:Expr→Bool
 | .ListComp _ _ _ _=>false
 | .SetComp _ _ _ _=>false
 | .DictComp _ _ _ _ _=>false
 | _=>true
noncomputable def notTup:Expr→Bool
 | .Tuple _ _ _=>false
 | _=>true
theorem swaps_no {e:Expr} {t:Option Expr} {l:Nat} {env:Env} (h:notComp e=true):swapsWith e t l env=pure false:=by
 cases e<;>first | rfl | (cases h)
theorem stores_no {e tg:Expr} {env:Env} (h:notTup e=true):swappedStores [tg] e env=pure none:=by
 cases e<;>first | (cases h;done) | (cases tg<;>rfl)
theorem each_one {tg:Expr} {env:Env} (h:plainX tg=true):(assignEach [tg] env).map (·.2)=[assign tg env]:=by
 cases tg<;>first | rfl | (cases h)
theorem ss_asg {g:G} (hx:notComp p=true) (ht:notTup p=true) (hq:plainX tg=true) (h:SE T cf X x p) (hg:SG X g tg):SS T cf X (.asg g x) (.Assign [tg] p pos):=λH₀ O₀=>by
 refine PS.imp (λD' σ H hq=>?_) (ps_asg (h H₀ O₀) (hg H₀ O₀) (swaps_no hx) (stores_no ht) (each_one hq))
 obtain⟨ts,e,out,⟨O,own,F,tt⟩,ev,k⟩:=hq
 rw[xS_asg] at ev
 obtain⟨d,e1,ev⟩:=Res.bind_ok ev
 obtain⟨e2,e3,ev⟩:=Res.bind_ok ev
 cases ev
 refine⟨O,own,e,d,F,e1,λv H' s' r n=>⟨O,own,e,d,e2,F.grow s',r,e3,λσ' own' _ F'=>?_⟩⟩
 exact k σ' H' ⟨O,own',F',λt ht=>(tt t ht).same s'⟩
theorem ss_asgO {i:Nat} {n:Str} (hx:notComp p=true) (hN:X.N.Nodup) (hi:X.N[i]?=some n) (hl:Loc X.env.scope n) (hf:X.fn n=true∨X.env.scope.names.lookup n=some .local) (h:SE T cf X x p):SS T cf X (.asgO i x) (.Assign [.Name n pos'] p pos):=λH₀ O₀=>by
 refine PS.imp (λD' σ H hq=>?_) (ps_set hN hi hl (h H₀ O₀) (swaps_no hx) hf)
 obtain⟨ts,e,out,⟨O,own,F,tt⟩,ev,k⟩:=hq
 rw[xS_asgO] at ev
 obtain⟨d,e1,ev⟩:=Res.bind_ok ev
 split at ev
 ·obtain⟨c,ev⟩:=when_ok ev
  cases ev
  refine⟨O,own,e,_,F,e1,λv H' s' r n=>?_⟩
  obtain⟨p,rfl,h2,h3⟩:=n c rfl
  exact k _ H' ⟨_,_,F.setO s' i h2 h3,λt ht=>((tt t ht).new h2).same s'⟩
 ·obtain⟨c,ev⟩:=when_ok ev
  cases ev
  refine⟨O,own,e,_,F,e1,λv H' s' r n=>?_⟩
  obtain⟨p,rfl,h2,h3⟩:=n c rfl
  exact k _ H' ⟨_,_,F.setO s' i h2 h3,λt ht=>((tt t ht).new h2).same s'⟩
 ·obtain⟨c,ev⟩:=when_ok ev
  cases ev
  refine⟨O,own,e,_,F,e1,λv H' s' r n=>?_⟩
  obtain⟨p,rfl,h2,h3⟩:=n c rfl
  exact k _ H' ⟨_,_,F.setO s' i h2 h3,λt ht=>((tt t ht).new h2).same s'⟩
 ·cases ev
theorem ss_newD {i:Nat} {n:Str} {dpos:Pos} (hN:X.N.Nodup) (hi:X.N[i]?=some n) (hl:Loc X.env.scope n) (hf:X.fn n=true∨X.env.scope.names.lookup n=some .local):SS T cf X (.newD i) (.Assign [.Name n pos'] (.Dict [] [] dpos) pos):=λH₀ O₀=>by
 refine PS.imp (λD' σ H hq=>?_) (ps_set hN hi hl pe_dnewK (swaps_no rfl) hf)
 obtain⟨ts,e,out,⟨O,own,F,tt⟩,ev,k⟩:=hq
 rw[xS_newD] at ev
 cases ev
 intro p hp
 exact k _ _ ⟨_,_,F.setO (same_upd hp _) i hp (new_dct (ds:=[]) (ps:=[]) rfl hp),λt ht=>((tt t ht).new hp).same (same_upd hp _)⟩
theorem ss_newT {i:Nat} {n:Str} {dpos:Pos} (hN:X.N.Nodup) (hi:X.N[i]?=some n) (hl:Loc X.env.scope n) (hf:X.fn n=true∨X.env.scope.names.lookup n=some .local):SS T cf X (.newT i) (.Assign [.Name n pos'] (.Dict [] [] dpos) pos):=λH₀ O₀=>by
 refine PS.imp (λD' σ H hq=>?_) (ps_set hN hi hl pe_dnewT (swaps_no rfl) hf)
 obtain⟨ts,e,out,⟨O,own,F,tt⟩,ev,k⟩:=hq
 rw[xS_newT] at ev
 cases ev
 intro p hp
 exact k _ _ ⟨_,_,F.setO (same_upd hp _) i hp (new_tdc (ds:=[]) (ps:=[]) rfl hp),λt ht=>((tt t ht).new hp).same (same_upd hp _)⟩
theorem ss_ite {ps qs:List Stmt} (hc:ST T cf X x p) (ha:SB T cf X a ps) (hb:SB T cf X b qs):SS T cf X (.ite x a b) (.If p ps qs pos):=λH₀ O₀=>by
 refine PS.imp (λD' σ H hq=>?_) (ps_if (hc H₀ O₀) (ha H₀ O₀) (hb H₀ O₀))
 obtain⟨ts,e,out,⟨O,own,F,tt⟩,ev,k⟩:=hq
 rw[xS_ite] at ev
 obtain⟨d,e1,ev⟩:=Res.bind_ok ev
 obtain⟨c,e2,ev⟩:=Res.bind_ok ev
 refine⟨O,own,e,d,c,F,e1,e2,λH1 s1=>?_⟩
 cases c with
 | true=>rw[if_pos rfl] at ev ⊢;exact⟨ts,e,out,⟨O,own,F.grow s1,λt ht=>(tt t ht).same s1⟩,ev,k⟩
 | false=>rw[if_neg Bool.false_ne_true] at ev ⊢;exact⟨ts,e,out,⟨O,own,F.grow s1,λt ht=>(tt t ht).same s1⟩,ev,k⟩
theorem ss_for {g:G} {ps:List Stmt} (hp:PassesOwn (model X.prog X.w) X.A X.env X.xe) (hc:X.calm=true) (hq:plainX p=true) (hi:SI T cf X tg x false p) (hg:SG X g tg) (hb:SB T cf X b ps):SS T cf X (.forS g x b) (.For tg p ps [] pos):=λH₀ O₀=>by
 refine PS.imp (λD' σ H hq=>?_) (ps_for hp hc (hi H₀ O₀) (hg H₀ O₀) (hb H₀ O₀) (plain_fold hq))
 obtain⟨ts,e,out,⟨O,own,F,tt⟩,ev,k⟩:=hq
 rw[xS_forS] at ev
 obtain⟨ds,e1,ev⟩:=Res.bind_ok ev
 refine⟨O,own,e,ds,F,e1,λJ H1 srs s1 rr rv wk=>?_⟩
 refine⟨λi m σ H=>m=ds.length - i∧i≤ds.length∧∃e',Ft X.K H₀ O₀ (srs++ts) e' σ H∧forL (λd e0=>do let e1 ←g.put d e0;exS T cf b e1) (ds.drop i) e'=.ok out,⟨ds.length,by simp,Nat.zero_le _,e,⟨O,own,F.grow s1,λt ht=>?_⟩,by simpa using ev⟩,?_⟩
 ·rcases List.mem_append.mp ht with ht | ht
  ·exact rv rfl t ht
  ·exact (tt t ht).same s1
 rintro i m σ2 H2 ⟨rfl,hi',e',⟨O2,own2,F2,t2⟩,ev2⟩
 obtain⟨w1,w2,w3⟩:=wk i H2 O2 λt ht=>(t2 t (List.mem_append_left _ ht)).rr
 by_cases hlt:i < ds.length
 ·refine .inr ⟨w1 hlt,λσ' H'=>∃e',Ft X.K H₀ O₀ (srs++ts) e' σ' H'∧forL (λd e0=>do let e1 ←g.put d e0;exS T cf b e1) (ds.drop (i+1)) e'=.ok out,λσ' H' n=>⟨ds.length - (i+1),by lia,rfl,hlt,n⟩,λv H' y=>?_⟩
  obtain⟨s3,r3⟩:=w3 v H' _ (List.getElem?_eq_getElem hlt) y
  rw[List.drop_eq_getElem_cons hlt,forL] at ev2
  obtain⟨o1,ev3,ev4⟩:=Res.bind_ok ev2
  obtain⟨e3,ev5,ev6⟩:=Res.bind_ok ev3
  refine⟨O2,own2,e',_,e3,F2.grow s3,r3,ev5,λσ' own' _ F'=>?_⟩
  refine⟨srs++ts,e3,o1,⟨O2,own',F',λt ht=>(t2 t ht).same s3⟩,ev6,?_⟩
  have down:∀ {e'':Nv} {σ'':L2.St} {H'':Hp},Ft X.K H₀ O₀ (srs++ts) e'' σ'' H''→Ft X.K H₀ O₀ ts e'' σ'' H'':=λ⟨O',own',F',t'⟩=>⟨O',own',F',λt ht=>t' t (List.mem_append_right _ ht)⟩
  cases o1 with
  | nx e4=>exact λσ'' H'' F''=>⟨e4,F'',ev4⟩
  | ct e4=>exact λσ'' H'' F''=>⟨e4,F'',ev4⟩
  | bk e4=>cases ev4;exact λσ'' H'' F''=>k σ'' H'' (down F'')
  | rt d fr=>cases ev4;exact k
 ·have e4:i=ds.length:=by lia
  subst e4
  refine .inl ⟨w2 (Nat.le_refl _),?_⟩
  rw[List.drop_length,forL] at ev2
  cases ev2
  exact k σ2 H2 ⟨O2,own2,F2,λt ht=>t2 t (List.mem_append_right _ ht)⟩
theorem ss_app {i:Nat} {n nm:Str} {px apos cpos:Pos} (hN:X.N[i]?=some n) (hv:Vis X.env.scope n) (hd:(n==("__debug__" : Str))=false) (hc:(n==("__classdict__" : Str))=false) (hnm:nm = "append") (hline:(apos.endLine==cpos.line)=true) (hp:plainX p=true) (h:SE T cf X x p) :
 SS T cf X (.app i x) (.Expr (.Call (.Attribute (.Name n px) nm apos) [p] [] cpos) pos):=λH₀ O₀=>by
 subst hnm
 refine PS.imp (λD' σ H hq=>?_) (ps_expr (pe_bm PySem.F.plainAttrs_list PySem.F.slot_list_append PySem.F.type_list_append mt_append (pe_var hN hv hd hc) (pa_cons (h H₀ O₀) pa_nil (plain_star hp)) rfl (by rw[plain_star hp];rfl) hline (plain_star hp) rfl) rfl)
 obtain⟨ts,e,out,⟨O,own,F,tt⟩,ev,k⟩:=hq
 rw[xS_app] at ev
 obtain⟨d,e1,ev⟩:=Res.bind_ok ev
 obtain⟨l,e2,ev⟩:=Res.bind_ok ev
 obtain⟨c,ev⟩:=when_ok ev
 cases ev
 obtain⟨q0,xs0,f1,f2,f3,f4,f5⟩:=F.mut i (Sl.own_ok e2)
 refine⟨.ref q0,st_get f1,.inl ⟨rfl,xs0,.of f2⟩,O,own,e,d,F,e1,λv H' s' r _=>?_⟩
 obtain⟨q1,xs1,g1,g2,g3,g4,g5⟩:=(F.grow s').mut i (Sl.own_ok e2)
 have eq:q1=q0:=by rw[f1] at g1;cases g1;rfl
 subst eq
 refine⟨q1,xs1,v,rfl,rfl,g2,by rw[g3.length,←big_line];exact of_decide_eq_true c,?_⟩
 exact k _ _ ⟨O,own,g5 _ _ (g3.append ⟨v,[],rfl,r,rfl⟩),λt ht=>((tt t ht).same s').upd g4 g2⟩
theorem ss_rev {i:Nat} {n nm:Str} {px apos cpos:Pos} (hN:X.N[i]?=some n) (hv:Vis X.env.scope n) (hd:(n==("__debug__" : Str))=false) (hc:(n==("__classdict__" : Str))=false) (hnm:nm = "reverse") (hline:(apos.endLine==cpos.line)=true) :
 SS T cf X (.rev i) (.Expr (.Call (.Attribute (.Name n px) nm apos) [] [] cpos) pos):=λH₀ O₀=>by
 subst hnm
 refine PS.imp (λD' σ H hq=>?_) (ps_expr (pe_bm0 PySem.F.plainAttrs_list PySem.F.slot_list_reverse PySem.F.type_list_reverse mt_reverse (pe_var hN hv hd hc) rfl hline) rfl)
 obtain⟨ts,e,out,⟨O,own,F,tt⟩,ev,k⟩:=hq
 rw[xS_rev] at ev
 obtain⟨l,e2,ev⟩:=Res.bind_ok ev
 cases ev
 obtain⟨q0,xs0,f1,f2,f3,f4,f5⟩:=F.mut i (Sl.own_ok e2)
 refine⟨.ref q0,st_get f1,.inl ⟨rfl,xs0,.of f2⟩,q0,xs0,rfl,rfl,f2,?_⟩
 exact k _ _ ⟨O,own,f5 _ _ f3.reverse,λt ht=>(tt t ht).upd f4 f2⟩
theorem ss_ext {i:Nat} {n nm:Str} {px apos cpos:Pos} (hN:X.N[i]?=some n) (hv:Vis X.env.scope n) (hd:(n==("__debug__" : Str))=false) (hc:(n==("__classdict__" : Str))=false) (hnm:nm = "extend") (hline:(apos.endLine==cpos.line)=true) (hp:plainX p=true) (h:SE T cf X x p) :
 SS T cf X (.ext i x) (.Expr (.Call (.Attribute (.Name n px) nm apos) [p] [] cpos) pos):=λH₀ O₀=>by
 subst hnm
 refine PS.imp (λD' σ H hq=>?_) (ps_expr (pe_bm PySem.F.plainAttrs_list PySem.F.slot_list_extend PySem.F.type_list_extend mt_extend (pe_var hN hv hd hc) (pa_cons (h H₀ O₀) pa_nil (plain_star hp)) rfl (by rw[plain_star hp];rfl) hline (plain_star hp) rfl) rfl)
 obtain⟨ts,e,out,⟨O,own,F,tt⟩,ev,k⟩:=hq
 rw[xS_ext] at ev
 obtain⟨d,e1,ev⟩:=Res.bind_ok ev
 split at ev
 ·obtain⟨l,e2,ev⟩:=Res.bind_ok ev
  obtain⟨c,ev⟩:=when_ok ev
  rw[Bool.and_eq_true] at c
  cases ev
  obtain⟨q0,xs0,f1,f2,f3,f4,f5⟩:=F.mut i (Sl.own_ok e2)
  refine⟨.ref q0,st_get f1,.inl ⟨rfl,xs0,.of f2⟩,O,own,e,_,F,e1,λv H' s' r nl=>?_⟩
  obtain⟨b,rfl,hb0,zs,hb1,hb2⟩:=nl c.1 rfl
  obtain⟨q1,xs1,g1,g2,g3,g4,g5⟩:=(F.grow s').mut i (Sl.own_ok e2)
  have eq:q1=q0:=by rw[f1] at g1;cases g1;rfl
  subst eq
  refine⟨q1,b,xs1,zs,rfl,rfl,g2,hb1,by rw[g3.length,hb2.length,←big_line];exact of_decide_eq_true c.2,?_⟩
  exact k _ _ ⟨O,own,g5 _ _ (g3.append (hb2.weak λ_ z=>.inl z)),λt ht=>((tt t ht).same s').upd g4 g2⟩
 ·cases ev
theorem ss_dput {i:Nat} {n:Str} {px tpos:Pos} (hR:Roomy X) (hN:X.N[i]?=some n) (hv:Vis X.env.scope n) (hd:(n==("__debug__" : Str))=false) (hc:(n==("__classdict__" : Str))=false) (hx:notComp p=true) (hk:SE T cf X y q) (h:SE T cf X x p) :
 SS T cf X (.dput i y x) (.Assign [.Subscript (.Name n px) q tpos] p pos):=λH₀ O₀=>by
 have hR':X.A.units+64 < cLine:=hR
 refine PS.imp (λD' σ H hq=>?_) (ps_dput (by lia) (pe_var hN hv hd hc) (hk H₀ O₀) (h H₀ O₀) (swaps_no hx))
 obtain⟨ts,e,out,⟨O,own,F,tt⟩,ev,k⟩:=hq
 rw[xS_dput] at ev
 obtain⟨d,e1,ev⟩:=Res.bind_ok ev
 obtain⟨l,e2,ev⟩:=Res.bind_ok ev
 obtain⟨dk,e3,ev⟩:=Res.bind_ok ev
 obtain⟨key,e4,ev⟩:=Res.bind_ok ev
 obtain⟨c,ev⟩:=when_ok ev
 cases ev
 refine⟨O,own,e,d,F,e1,λv H1 s1 r1 _=>?_⟩
 obtain⟨q1,xs1,g1,g2,g3,g4,g5⟩:=(F.grow s1).mutD i (Sl.ownD_ok e2)
 refine⟨.ref q1,st_get g1,O,own,e,dk,F.grow s1,e3,λvk H2 s2 r2 _=>?_⟩
 have ex:=key_val (of_ok e4) r2.rr
 subst ex
 obtain⟨q2,xs2,f1,f2,f3,f4,f5⟩:=((F.grow s1).grow s2).mutD i (Sl.ownD_ok e2)
 have eq:q2=q1:=by rw[g1] at f1;cases f1;rfl
 subst eq
 refine⟨q2,_,rfl,DPut.k f2 (by rw[f3.length,←big_line];exact of_decide_eq_true c),?_⟩
 exact k _ _ ⟨O,own,f5 _ _ (rdk_put (r1.same s2) f3),λt ht=>(((tt t ht).same s1).same s2).updM f4 f2 trivial⟩
theorem ss_exp (hs:swapsWith p none pos.line X.env=pure false) (h:SE T cf X x p):SS T cf X (.exp x) (.Expr p pos):=λH₀ O₀=>by
 refine PS.imp (λD' σ H hq=>?_) (ps_expr (h H₀ O₀) hs)
 obtain⟨ts,e,out,⟨O,own,F,tt⟩,ev,k⟩:=hq
 rw[xS_exp] at ev
 obtain⟨d,e1,ev⟩:=Res.bind_ok ev
 cases ev
 exact⟨O,own,e,d,F,e1,λv H' s' r _=>k _ _ ⟨O,own,F.grow s',λt ht=>(tt t ht).same s'⟩⟩
end
section
variable {T:Tab} {cf:Nat→List D→Res D} {X:Cx} {x y z:E} {p q r tg:Expr} {pos pos':Pos} {es:List Expr} {a b c:S} {st:Stmt} {sts:List Stmt}
end
noncomputable def freeCells (cells:List (Str×Addr)):List (Str×NameKind)→List (Str×Addr)→List (Str×Addr)
 | [],cs=>cs
 | (n,k)::r,cs=>freeCells cells r (if (k==.free)=true then (match cells.lookup n with | some c=>(n,c)::cs | none=>cs) else cs)
theorem closure_go {env:Env}:∀(names:List (Str×NameKind)) (cs:List (Str×Addr)),(∀x∈names,x.2=.free→∃c,env.cells.lookup x.1=some c) →
 (forIn names cs (λ(x:Str×NameKind) (r:List (Str×Addr))=>(if (x.2==.free)=true then (do let c ←cellOf env x.1;pure (ForInStep.yield ((x.1,c)::r))) else pure (ForInStep.yield r):Sem _)))=pure (freeCells env.cells names cs)
 | [],cs,_=>rfl
 | (n,k)::r,cs,h=>by
  rw[List.forIn_cons]
  have ih:=closure_go (env:=env) r
  by_cases hk:(k==NameKind.free)=true
  ·have hk':k=.free:=by simpa using hk
   obtain⟨c,hc⟩:=h (n,k) (List.mem_cons_self ..) hk'
   simp only at hc
   simp only[hk,if_true]
   unfold cellOf
   rw[hc]
   show (do let r ←(pure (ForInStep.yield ((n,c)::cs)):Sem _);_)=_
   rw[freeCells,if_pos hk,hc]
   exact ih _ λx hx=>h x (List.mem_cons_of_mem _ hx)
  ·simp only[hk,if_false,Bool.false_eq_true]
   rw[freeCells,if_neg hk]
   exact ih _ λx hx=>h x (List.mem_cons_of_mem _ hx)
theorem closure_eq {scope:Scope} {env:Env} (h:∀x∈scope.names,x.2=.free→∃c,env.cells.lookup x.1=some c):closureFor scope env=pure (freeCells env.cells scope.names []):=by
 have:=closure_go (env:=env) scope.names [] h
 unfold closureFor
 rw[←this]
 first | rfl | simp
theorem freeCells_mem {cells:List (Str×Addr)}:∀ {names:List (Str×NameKind)} {cs:List (Str×Addr)} {n:Str} {c:Addr},(n,c)∈freeCells cells names cs→(n,c)∈cs∨((n,NameKind.free)∈names∧cells.lookup n=some c)
 | [],_,_,_,h=>.inl h
 | (m,k)::r,cs,n,c,h=>by
  rw[freeCells] at h
  rcases freeCells_mem h with g | ⟨h1,h2⟩
  ·clear h
   split at g
   ·rename_i hk
    have hk':k=.free:=by simpa using hk
    subst hk'
    split at g
    ·rename_i c' hc
     rcases List.mem_cons.mp g with e | g
     ·cases e
      exact .inr ⟨List.mem_cons_self ..,hc⟩
     ·exact .inl g
    ·exact .inl g
   ·exact .inl g
  ·exact .inr ⟨List.mem_cons_of_mem _ h1,h2⟩
theorem freeCells_keep {cells:List (Str×Addr)}:∀ {names:List (Str×NameKind)} {cs:List (Str×Addr)} {x:Str×Addr},x∈cs→x∈freeCells cells names cs
 | [],_,_,h=>h
 | (m,k)::r,cs,x,h=>by
  rw[freeCells]
  refine freeCells_keep ?_
  split
  ·split
   ·exact List.mem_cons_of_mem _ h
   ·exact h
  ·exact h
theorem freeCells_has {cells:List (Str×Addr)}:∀ {names:List (Str×NameKind)} {cs:List (Str×Addr)} {n:Str} {c:Addr},(n,NameKind.free)∈names→cells.lookup n=some c→(n,c)∈freeCells cells names cs
 | [],_,_,_,h,_=>by cases h
 | (m,k)::r,cs,n,c,h,hc=>by
  rw[freeCells]
  rcases List.mem_cons.mp h with e | h
  ·cases e
   refine freeCells_keep ?_
   rw[if_pos (by simp),hc]
   exact List.mem_cons_self ..
  ·exact freeCells_has h hc
theorem lookup_of_mem {l:List (Str×Addr)} {n:Str} {c:Addr} (h:(n,c)∈l):∃c',l.lookup n=some c':=by
 induction l with
 | nil=>cases h
 | cons x l ih =>
  obtain⟨m,d⟩:=x
  rw[List.lookup_cons]
  by_cases e:(n==m)=true
  ·rw[e];exact⟨d,rfl⟩
  ·have e':(n==m)=false:=by simpa using e
   rw[e']
   rcases List.mem_cons.mp h with z | z
   ·cases z;simp at e
   ·exact ih z
theorem relabel_free {env:Env}:∀ {names:List (Str×NameKind)} {x:Str},(∀y∈names,y.2≠.cell) →
 ((names.map λ(n,k)=>if (k==NameKind.free&&env.scope.kind==.function&&env.kindOf n==some .cell) then (n,NameKind.cell) else (n,k)).lookup x=some .cell ∨
  (names.map λ(n,k)=>if (k==NameKind.free&&env.scope.kind==.function&&env.kindOf n==some .cell) then (n,NameKind.cell) else (n,k)).lookup x=some .free)→(x,NameKind.free)∈names
 | [],_,_,h=>by rcases h with h | h<;>cases h
 | (n,k)::r,x,hc,h=>by
  have hk:=hc (n,k) (List.mem_cons_self ..)
  have ih:=@relabel_free env r x λy hy=>hc y (List.mem_cons_of_mem _ hy)
  rw[List.map_cons] at h
  dsimp only at h
  by_cases hx:(x==n)=true
  ·have hx':x=n:=by simpa using hx
   subst hx'
   refine List.mem_cons.mpr (.inl ?_)
   by_cases z:(k==NameKind.free&&env.scope.kind==.function&&env.kindOf x==some .cell)=true
   ·have:k=.free:=by
     cases k<;>first | rfl | (exact absurd z (by simp))
    rw[this]
   ·rw[if_neg z] at h
    simp only[List.lookup_cons,beq_self_eq_true] at h
    rcases h with h | h
    ·cases h;exact absurd rfl hk
    ·cases h;rfl
  ·have hx':(x==n)=false:=by simpa using hx
   refine List.mem_cons_of_mem _ (ih ?_)
   by_cases z:(k==NameKind.free&&env.scope.kind==.function&&env.kindOf n==some .cell)=true
   ·rw[if_pos z] at h
    simpa only[List.lookup_cons,hx'] using h
   ·rw[if_neg z] at h
    simpa only[List.lookup_cons,hx'] using h
theorem relabel_local {env:Env}:∀ {names:List (Str×NameKind)} {x:Str},
 (names.map λ(n,k)=>if (k==NameKind.free&&env.scope.kind==.function&&env.kindOf n==some .cell) then (n,NameKind.cell) else (n,k)).lookup x=some .local→names.lookup x=some .local
 | [],_,h=>by cases h
 | (n,k)::r,x,h=>by
  have ih:=@relabel_local env r x
  rw[List.map_cons] at h
  dsimp only at h
  by_cases z:(k==NameKind.free&&env.scope.kind==.function&&env.kindOf n==some .cell)=true
  ·rw[if_pos z] at h
   by_cases hx:(x==n)=true
   ·simp only[List.lookup_cons,hx] at h;cases h
   ·have hx':(x==n)=false:=by simpa using hx
    simp only[List.lookup_cons,hx'] at h ⊢
    exact ih h
  ·rw[if_neg z] at h
   by_cases hx:(x==n)=true
   ·simp only[List.lookup_cons,hx] at h ⊢;exact h
   ·have hx':(x==n)=false:=by simpa using hx
    simp only[List.lookup_cons,hx'] at h ⊢
    exact ih h
noncomputable def cxC (X:Cx) (scope:Scope) (C:Addr) (Nc:List Str) (s2:Shared) (H2:Hp) (fp:List Addr):Cx where
 prog:=X.prog
 w:=X.w
 K:=X.K
 mg:=X.mg
 base:=X.base
 A:=X.A
 N:=Nc
 s₀:=s2
 H₀:=H2
 env:=compEnvC scope (freeCells X.env.cells scope.names []) C X.env
 outer:=X.stack
 stack:=X.stack
 ex:=fp
 fn:=λn=>scope.names.lookup n==some .local
 calm:=X.calm
 pn:=[]
 xe:=λ_ _=>False
set_option genInjectivity false in
structure ScopeC (X:Cx) (scope:Scope):Prop where
 kind:scope.kind=.function
 cell:∀y∈scope.names,y.2≠.cell
 names:∀x∈scope.names,x.2=.local→scope.names.lookup x.1=some .local
 nd:∀x∈scope.names,x.2=.free→scope.names.lookup x.1≠some .local
 free:∀x∈scope.names,x.2=.free→X.env.kindOf x.1=some .cell∨X.env.kindOf x.1=some .free
section
variable {X:Cx} {scope:Scope} {C:Addr} {Nc:List Str} {s2:Shared} {H2:Hp} {fp:List Addr} {pins:List (Addr×Obj)} {σ:L2.St}
theorem cl_get {x:Str} {c:Addr} (h:(freeCells X.env.cells scope.names []).lookup x=some c):(x,NameKind.free)∈scope.names∧X.env.cells.lookup x=some c:=by
 rcases freeCells_mem (PySem.mem_of_lookup h) with z | z
 ·cases z
 ·exact z
theorem ScopeC.cells (S:ScopeC X scope) (ok:X.Ok):∀x∈scope.names,x.2=.free→∃c,X.env.cells.lookup x.1=some c:=λx hx hf=>ok.has x.1 (S.free x hx hf)
theorem cxC_ok (I:Inv X pins σ H2 s2) (S:ScopeC X scope) (hfp:∀b∈fp,FpOk X pins H2 b) (hfo:∀b∈fp,b < s2.heap.objs.size) (hC:s2.heap.objs.size≤C):(cxC X scope C Nc s2 H2 fp).Ok where
 mod:=I.ok.mod
 kind:=S.kind
 glob:=I.ok.glob
 blt:=I.ok.blt
 above:=hC
 inj:=λx y c h1 h2=>I.ok.inj x y c (cl_get h1).2 (cl_get h2).2
 has:=λx h=>by
  have hf:=relabel_free (env:=X.env) S.cell h
  obtain⟨c,hc⟩:=S.cells I.ok (x,.free) hf rfl
  exact lookup_of_mem (freeCells_has hf hc)
 cab:=λx c h1 h2=>by
  have h1':scope.names.lookup x=some .local:=by simpa[cxC] using h1
  exact absurd h1' (S.nd (x,.free) (cl_get h2).1 rfl)
 hd:=I.ok.hd
 frames:=I.ok.frames
 stk:=.inl rfl
 exf:=λb hb=>⟨Nat.ne_of_lt (Nat.lt_of_lt_of_le (hfo b hb) hC),λx c h=>(hfp b hb).2.2.2.2.1 x c (cl_get h).2⟩
 bs:=I.bs
 bsz:=Nat.le_trans I.ok.bsz I.sz
 noex:=λb o e hb=>by
  rcases (hfp b hb).2.2.2.1 with z | z
  ·exact I.ok.noex b o e z
  ·exact absurd (Nat.lt_of_lt_of_le (Heap.lt_size e) (Nat.le_trans I.ok.bsz z)) (Nat.lt_irrefl _)
 exfs:=λb hb z=>by
  rcases List.mem_cons.mp (I.stkSub b z) with z | z
  ·exact (hfp b hb).2.1 z
  ·exact (hfp b hb).2.2.1 z
 funs:=I.stack
 frf:=I.stkFree
noncomputable def stC (own:Nat) (caps:List Nat) (σ:L2.St):L2.St:=List.replicate own none++caps.map λi=>stAt σ i
set_option genInjectivity false in
structure CapsOk (X:Cx) (scope:Scope) (own:Nat) (caps:List Nat) (Nc:List Str):Prop where
 len:Nc.length=own+caps.length
 nd:caps.Nodup
 cap:∀j i,caps[j]?=some i→∃n,X.N[i]?=some n∧Nc[own+j]?=some n∧(n,NameKind.free)∈scope.names
theorem stC_get {own:Nat} {caps:List Nat} {j:Nat} {v:V} (h:(stC own caps σ)[j]?=some (some v)):∃k i,j=own+k∧caps[k]?=some i∧stAt σ i=some v:=by
 unfold stC at h
 by_cases hj:j < own
 ·rw[List.getElem?_append_left (by rw[List.length_replicate];exact hj),List.getElem?_replicate,if_pos hj] at h
  cases h
 ·rw[List.getElem?_append_right (by rw[List.length_replicate];lia),List.length_replicate,List.getElem?_map] at h
  cases e:caps[j - own]? with
  | none=>rw[e] at h;cases h
  | some i =>
   rw[e] at h
   exact⟨j - own,i,by lia,e,Option.some.inj h⟩
theorem vis_of (I:Inv X pins σ H2 s2) (S:ScopeC X scope) {n:Str} (h:(n,NameKind.free)∈scope.names):Vis X.env.scope n:=by
 rcases S.free _ h rfl with z | z
 ·exact .inr (.inl z)
 ·exact .inr (.inr z)
theorem invC {own:Nat} {caps:List Nat} {h1:Heap} {t1:Nat} (I:Inv X pins σ H2 s2) (S:ScopeC X scope) (P:CapsOk X scope own caps Nc) (ok:(cxC X scope C Nc s2 H2 fp).Ok)
 (keep:∀b o,s2.heap.get? b=some o→h1.get? b=some o) (hC:s2.heap.objs.size < C) (ns:h1.Ns C λ_=>none) (acc:h1.get? s2.heap.objs.size=some { cls:=.type "list", data:=.seq #[] }) :
 Inv (cxC X scope C Nc s2 H2 fp) [] (stC own caps σ) (upd H2 s2.heap.objs.size (.lst [])) { s2 with heap:=h1,toks:=t1 }:=by
 have fr:H2 s2.heap.objs.size=none:=I.hok.fresh (Nat.le_refl _)
 have cellK:∀x c v,X.env.cells.lookup x=some c→s2.heap.IsCell c v→h1.IsCell c v:=λx c v _ ⟨o,ho,hd⟩=>⟨o,keep c o ho,hd⟩
 refine⟨ok,rfl,I.bare,Un.laid keep (Nat.le_refl _) fr,⟨_,ns,λi x v e1 e2 e3=>?_⟩,λx c h=>?_,?_,λx c h=>?_,λp hp=>absurd hp (by simp[cxC]),I.hok.laid keep (Nat.le_refl _) ?_,?_⟩
 ·obtain⟨k,i',rfl,hk,hv⟩:=stC_get e2
  obtain⟨n,hn1,hn2,hn3⟩:=P.cap k i' hk
  have e1':Nc[own+k]?=some x:=e1
  rw[hn2] at e1';cases e1'
  obtain⟨m,hm,hl⟩:=I.loc
  obtain⟨u,ru,lk⟩:=hl i' _ v hn1 (st_get hv) (vis_of I S hn3)
  refine⟨u,ru,?_⟩
  rcases lk with ⟨kl,_⟩ | ⟨_,c,hc,hcell⟩
  ·rcases S.free _ hn3 rfl with z | z
   ·rw[kl] at z;cases z
   ·rw[kl] at z;cases z
  ·refine .inr ⟨?_,?_⟩
   ·rcases e3 with z | z
    ·exact absurd (relabel_local (env:=X.env) z) (S.nd _ hn3 rfl)
    ·exact z
   ·obtain⟨c',hc'⟩:=lookup_of_mem (freeCells_has (cs:=[]) hn3 hc)
    have:=(cl_get hc').2
    rw[hc] at this;cases this
    exact⟨c,hc',cellK _ c _ hc hcell⟩
 ·obtain⟨v,z⟩:=I.cell x c (cl_get h).2
  exact⟨v,cellK x c v (cl_get h).2 z⟩
 ·show upd H2 s2.heap.objs.size (.lst []) C=none
  rw[upd_ne (Nat.ne_of_gt hC)]
  exact I.hok.fresh (Nat.le_of_lt hC)
 ·obtain⟨v,z⟩:=I.cell x c (cl_get h).2
  rw[upd_ne (Nat.ne_of_lt z.lt)]
  exact I.freeC x c (cl_get h).2
 ·exact⟨Nat.zero_le _,[],0,.nil,acc⟩
 ·show (stC own caps σ).length=Nc.length
  unfold stC
  rw[List.length_append,List.length_replicate,List.length_map,P.len]
theorem Un.but {fs ex:List Addr} {H H':Hp} {h h1 h2:Heap} {C:Addr} (u:Un fs ex H H' h h1) (hC:h.objs.size≤C) (s:Heap.SameBut C h1 h2):Un fs ex H H' h h2 where
 keep:=λb o e n hb hx=>(s.2 b (Nat.ne_of_lt (Nat.lt_of_lt_of_le (Heap.lt_size e) hC))).trans (u.keep b o e n hb hx)
 slot:=λb o e n hb hx=>let ⟨sl,q⟩:=u.slot b o e n hb hx;⟨sl,(s.2 b (Nat.ne_of_lt (Nat.lt_of_lt_of_le (Heap.lt_size e) hC))).trans q⟩
 free:=u.free
 there:=λb o e hx=>let ⟨o',q⟩:=u.there b o e hx;⟨o',(s.2 b (Nat.ne_of_lt (Nat.lt_of_lt_of_le (Heap.lt_size e) hC))).trans q⟩
 tups:=u.tups
 frzs:=u.frzs
 tbls:=u.tbls
theorem HOk.but {P:Program} {w:World} {H:Hp} {h1 h2:Heap} {C:Addr} (x:HOk P w H h1) (hC:H C=none) (s:Heap.SameBut C h1 h2):HOk P w H h2:=λb ob e=>by
 refine (x b ob e).stay (λc w' hc q=>(s.2 c ?_).trans q) (λ_ q=>q) λ_ _ q=>q
 rintro rfl
 rcases hc with rfl | hc
 ·rw[hC] at e;cases e
 ·rw[hC] at hc;cases hc
theorem outC {σi:L2.St} {Hi:Hp} {s':Shared} {h':Heap} (I:Inv X pins σ H2 s2) (Ic:Inv (cxC X scope C Nc s2 H2 fp) [] σi Hi s') (hfp:∀b∈fp,FpOk X pins H2 b) (hC:s2.heap.objs.size≤C) (sb:Heap.SameBut C s'.heap h'):Inv X pins σ Hi { s' with heap:=h' }:=by
 refine I.call' (s':={ s' with heap:=h' }) (ch:=fp) Ic.os ?_ ?_ Ic.bare λb hb=>?_
 ·exact Un.but (show Un (frs X.stack) fp H2 Hi s2.heap s'.heap from Ic.base) hC sb
 ·exact HOk.but (show HOk X.prog X.w Hi s'.heap from Ic.hok) (show Hi C=none from Ic.free) sb
 ·obtain⟨_,a1,_,a3,a4,a5⟩:=hfp b hb
  exact⟨a3,a1,a4,a5⟩
end
section
variable {prog:Program} {w:World} {A:Around} {R:Result→Shared→Prop} {s:Shared}
theorem compLoop_gen {elt target iter:Expr} {ifs:List Expr} {scope:Scope} {pos:Pos} {it acc:Value} {env:Env} (I:Nat→Shared→Prop)
 (turn:∀n s,I n s→wpAny (model prog w) A (pyNext it) (λr s₁=>match r with
  | none=>R (.ok .next) s₁
  | some v=>wpAny (model prog w) A (letOwnedTupleGo target it v) (λ_ s₀=>wpAny (model prog w) A (assign target env v) (λ_ s₂ =>
   wpAny (model prog w) A (forIn ifs true λc r=>if r=true then do let ok ←isTrue c env (eval c env);pure (ForInStep.yield ok) else pure (ForInStep.yield r)) (λok s₃ =>
    if ok=true then wpAny (model prog w) A (eval elt env) (λx s₄ =>
     wpAny (model prog w) A (call (.builtin "list.append") [acc,x]) (λ_ s₅=>∃m,m < n∧I m s₅) (λ_ _=>False) s₄) (λ_ _=>False) s₃
    else ∃m,m < n∧I m s₃) (λ_ _=>False) s₂) (λ_ _=>False) s₀) (λ_ _=>False) s₁) (λ_ _=>False) s)
 (n:Nat) (h:I n s) :
 codeAny (model prog w) A (.compLoop (.ListComp elt [⟨target,iter,ifs,0⟩] scope pos) 0 it acc env) R s:=by
 refine codeAny_loop rfl I (λn s hI=>?_) n h
 show wpAny _ A ((compTurn (.ListComp elt [⟨target,iter,ifs,0⟩] scope pos) 0 it acc env).onRaise (λx=>do noteFrame x env;theTreesLotGoes x)) _ _ s
 refine wpAny_noted ?_
 rw[compTurn_list]
 refine wpAny_bind (wpAny_standAt (wpAny_bind (wpAny_mono (turn n s hI) (λr s₁ h₁=>?_) λ_ _ h'=>h'.elim)))
 cases r with
 | none=>exact wpAny_pure h₁
 | some v =>
  refine wpAny_bind (wpAny_mono h₁ (λ_ s₀ h₀=>?_) λ_ _ h'=>h'.elim)
  refine wpAny_bind (wpAny_mono h₀ (λ_ s₂ h₂=>wpAny_bind (wpAny_mono h₂ (λok s₃ h₃=>?_) λ_ _ h'=>h'.elim)) λ_ _ h'=>h'.elim)
  cases ok with
  | false=>exact wpAny_pure ⟨rfl,h₃⟩
  | true =>
   exact wpAny_bind (wpAny_bind (wpAny_mono h₃ (λx s₄ h₄=>wpAny_bind (wpAny_mono h₄ (λ_ s₅ h₅=>wpAny_pure (wpAny_pure ⟨rfl,h₅⟩)) λ_ _ h'=>h'.elim)) λ_ _ h'=>h'.elim))
end
section
variable {K:PySem.W.Frag} {H₀ H H':Hp} {O₀ O O':Addr→Prop} {own:Nat→Option Addr} {e e':Nv} {σ:L2.St}
theorem Fm.updO (F:Fm K H₀ O₀ H O own e σ) {p:Addr} {ys zs:List V} (hO:O p) (hp:H p=some (.lst ys)) (h0:H₀ p=none) (hn:∀j,own j≠some p):Fm K H₀ O₀ (upd H p (.lst zs)) O own e σ where
 len:=F.len
 sl:=λj=>RS.map (λq=>q.upd hO hp) (λq=>q.upd hO hp) (λq=>q.updM hO hp trivial) (λq=>q.updM hO hp trivial) (λa ys ea _ q=>by
  have:a≠p:=λz=>hn j (z▸ea)
  rw[upd_ne this];exact q) (F.sl j) (nn_upd hO) (upd_map (K:=K) hO hp trivial).1
 inj:=F.inj
 same:=λb o hb=>by rw[upd_ne (λz=>by rw[z,h0] at hb;cases hb)];exact F.same b o hb
 sub:=F.sub
 trk0:=F.trk0
 trk:=λa ha=>by
  by_cases h:a=p
  ·subst h;exact⟨_,upd_same⟩
  ·obtain⟨ys,q⟩:=F.trk a ha
   exact⟨ys,by rw[upd_ne h];exact q⟩
 new:=F.new
 nw:=F.nw
theorem Fm.back (F:Fm K H₀ O₀ H O own e σ) (hl:e'.length=e.length) (h:∀j,e'.at j=.no∨e'.at j=e.at j):Fm K H₀ O₀ H O own e' σ where
 len:=hl.trans F.len
 sl:=λj=>by
  rcases h j with z | z
  ·rw[z];trivial
  ·rw[z];exact F.sl j
 inj:=F.inj
 same:=F.same
 sub:=F.sub
 trk0:=F.trk0
 trk:=F.trk
 new:=F.new
 nw:=λj d a h1 h2=>by
  rcases h j with z | z
  ·rw[z] at h1;cases h1
  ·rw[z] at h1;exact F.nw j d a h1 h2
theorem compEnv_at {n:Nat} {caps:List Nat} {e:Nv} (j:Nat):(compEnv n caps e).at j=.no∨∃k i,j=n+k∧caps[k]?=some i∧(compEnv n caps e).at j=e.at i:=by
 unfold compEnv
 by_cases hj:j < n
 ·left
  unfold Nv.at
  rw[List.getElem?_append_left (by rw[List.length_replicate];exact hj),List.getElem?_replicate,if_pos hj];rfl
 ·cases q:caps[j - n]? with
  | none =>
   left
   unfold Nv.at
   rw[List.getElem?_append_right (by rw[List.length_replicate];lia),List.length_replicate,List.getElem?_map,q];rfl
  | some i =>
   right
   refine⟨j - n,i,by lia,q,?_⟩
   show (((List.replicate n Sl.no++caps.map λi=>e.at i))[j]?).getD .no=_
   rw[List.getElem?_append_right (by rw[List.length_replicate];lia),List.length_replicate,List.getElem?_map,q];rfl
theorem nodup_get {l:List Nat} (h:l.Nodup) {j k i:Nat} (h1:l[j]?=some i) (h2:l[k]?=some i):j=k:=by
 obtain⟨a,e1⟩:=List.getElem?_eq_some_iff.mp h1
 obtain⟨b,e2⟩:=List.getElem?_eq_some_iff.mp h2
 exact (List.getElem_inj h).mp (e1.trans e2.symm)
theorem Fm.comp (F:Fm K H₀ O₀ H O own e σ) (n:Nat) {caps:List Nat} (hc:caps.Nodup) {p:Addr} (hp:H p=none) {xs:List V} :
 ∃own',Fm K H₀ O₀ (upd H p (.lst xs)) (plus O p) own' (compEnv n caps e) (stC n caps σ)∧∀j,own' j≠some p:=by
 have np:∀j,own j≠some p:=λj q=>by
  obtain⟨ys,w⟩:=F.trk p (F.new j p q).1
  rw[hp] at w;cases w
 have sm:=same_upd hp (.lst xs)
 refine⟨λj=>if j < n then none else (caps[j - n]?).bind own,⟨?_,λj=>?_,λj k a h1 h2=>?_,F.same.trans sm,λa h=>.inl (F.sub a h),F.trk0,λa h=>?_,λj a h1=>?_,λj d a h1 h2=>?_⟩,λj h1=>?_⟩
 ·unfold compEnv stC
  simp
 ·rcases compEnv_at (n:=n) (caps:=caps) (e:=e) j with z | ⟨k,i,rfl,hk,z⟩
  ·rw[z];trivial
  ·rw[z,if_neg (by lia),show n+k - n=k by lia,hk]
   have e1:stAt (stC n caps σ) (n+k)=stAt σ i:=by
    unfold stC
    unfold stAt
    rw[List.getElem?_append_right (by rw[List.length_replicate];lia),List.length_replicate,List.getElem?_map,show n+k - n=k by lia,hk]
    rfl
   rw[e1]
   exact RS.map (λq=>(q.new hp).same sm) (λq=>(q.new hp).same sm) (λq=>(q.new hp).same sm) (λq=>(q.new hp).same sm) (λa ys _ _ q=>sm _ _ q) (F.sl i) (nn_new hp sm)
 ·by_cases hj:j < n
  ·rw[if_pos hj] at h1;cases h1
  ·by_cases hk:k < n
   ·rw[if_pos hk] at h2;cases h2
   ·rw[if_neg hj] at h1
    rw[if_neg hk] at h2
    cases q1:caps[j - n]? with
    | none=>rw[q1] at h1;cases h1
    | some i1 =>
     cases q2:caps[k - n]? with
     | none=>rw[q2] at h2;cases h2
     | some i2 =>
      rw[q1] at h1
      rw[q2] at h2
      have:=F.inj i1 i2 a h1 h2
      subst this
      have:=nodup_get hc q1 q2
      lia
 ·rcases h with h | h
  ·obtain⟨ys,q⟩:=F.trk a h
   exact⟨ys,sm _ _ q⟩
  ·subst h;exact⟨_,upd_same⟩
 ·by_cases hj:j < n
  ·rw[if_pos hj] at h1;cases h1
  ·rw[if_neg hj] at h1
   cases q1:caps[j - n]? with
   | none=>rw[q1] at h1;cases h1
   | some i1 =>
    rw[q1] at h1
    exact⟨.inl (F.new i1 a h1).1,(F.new i1 a h1).2⟩
 ·rcases compEnv_at (n:=n) (caps:=caps) (e:=e) j with z | ⟨k,i,rfl,hk,z⟩
  ·rw[z] at h1;cases h1
  ·rw[z] at h1
   refine F.nw i d a h1 ?_
   rw[←h2]
   unfold stC
   unfold stAt
   rw[List.getElem?_append_right (by rw[List.length_replicate];lia),List.length_replicate,List.getElem?_map,show n+k - n=k by lia,hk]
   rfl
 ·dsimp only at h1
  by_cases hj:j < n
  ·rw[if_pos hj] at h1;cases h1
  ·rw[if_neg hj] at h1
   cases q1:caps[j - n]? with
   | none=>rw[q1] at h1;cases h1
   | some i1 =>
    rw[q1] at h1
    exact np i1 h1
noncomputable def G.below (n:Nat):G→Bool
 | .one i=>decide (i < n)
 | .many is=>is.all λi=>decide (i < n)
theorem puts_back {n:Nat}:∀ {is:List Nat} {ds:List D} {e e':Nv},(is.all λi=>decide (i < n))=true→puts is ds e=.ok e'→e'.length=e.length∧∀j,n≤j→e'.at j=e.at j
 | [],[],e,e',_,h=>by rw[puts] at h;cases h;exact⟨rfl,λ_ _=>rfl⟩
 | [],_::_,_,_,_,h=>by simp only[puts] at h;cases h
 | _::_,[],_,_,_,h=>by simp only[puts] at h;cases h
 | i::is,d::ds,e,e',hb,h=>by
  rw[puts] at h
  rw[List.all_cons,Bool.and_eq_true] at hb
  obtain⟨h1,h2⟩:=puts_back hb.2 h
  have hi:=of_decide_eq_true hb.1
  exact⟨by rw[h1,List.length_set],λj hj=>by rw[h2 j hj,at_set_ne (by lia)]⟩
theorem put_back {n:Nat} {g:G} {d:D} {e e':Nv} (hb:g.below n=true) (h:g.put d e=.ok e'):e'.length=e.length∧∀j,n≤j→e'.at j=e.at j:=by
 cases g with
 | one i =>
  have h:Res.ok (e.set i (.v d))=.ok e':=h
  cases h
  have hi:i < n:=of_decide_eq_true hb
  exact⟨List.length_set,λj hj=>at_set_ne (by lia)⟩
 | many is =>
  cases d with
  | tup ds=>exact puts_back hb h
  | non=>cases h
  | bl _=>cases h
  | int _=>cases h
  | str _=>cases h
  | lst _=>cases h
  | dct _=>cases h
  | tdc _=>cases h
end
section
variable {T:Tab} {cf:Nat→List D→Res D} {X:Cx} {x y z:E} {p q r tg iter:Expr} {pos:Pos}
noncomputable def Src (K:PySem.W.Frag) (H:Hp) (O:Addr→Prop) (p:Addr) (d:D) (v:V):Prop:=RD K H O d v∨∃a,v=.ref a∧a≠p∧OwnAt K H O a d
theorem Src.rr {K:PySem.W.Frag} {H:Hp} {O:Addr→Prop} {p:Addr} {d:D} {v:V} (h:Src K H O p d v):RR K H O d v:=by
 rcases h with z | ⟨al,z1,z2,z3⟩
 ·exact .inl z
 ·exact .inr ⟨al,z1,z3⟩
theorem Src.same {K:PySem.W.Frag} {H H':Hp} {O:Addr→Prop} {p:Addr} {d:D} {v:V} (h:Src K H O p d v) (s:Same H H'):Src K H' O p d v:=by
 rcases h with z | ⟨al,z1,z2,z3⟩
 ·exact .inl (z.same s)
 ·exact .inr ⟨al,z1,z2,z3.same s⟩
theorem Src.upd {K:PySem.W.Frag} {H:Hp} {O:Addr→Prop} {p:Addr} {d:D} {v:V} {ys zs:List V} (h:Src K H O p d v) (hO:O p) (hp:H p=some (.lst ys)):Src K (L2.upd H p (.lst zs)) O p d v:=by
 rcases h with z | ⟨al,z1,z2,z3⟩
 ·exact .inl (z.upd hO hp)
 ·exact .inr ⟨al,z1,z2,z3.updM hO hp trivial z2⟩
noncomputable def PinS (K:PySem.W.Frag) (H:Hp) (O:Addr→Prop) (p:Addr):Pin→Prop
 | .dv d v=>Src K H O p d v
 | .fr a o u=>H a=some (.frz o u)
theorem PinS.rr {K:PySem.W.Frag} {H:Hp} {O:Addr→Prop} {p:Addr} {t:Pin} (h:PinS K H O p t):PinR K H O t:=by
 cases t with
 | dv d v=>exact Src.rr h
 | fr a o u=>exact h
theorem PinS.same {K:PySem.W.Frag} {H H':Hp} {O:Addr→Prop} {p:Addr} {t:Pin} (h:PinS K H O p t) (s:Same H H'):PinS K H' O p t:=by
 cases t with
 | dv d v=>exact Src.same h s
 | fr a o u=>exact s _ _ h
theorem PinS.upd {K:PySem.W.Frag} {H:Hp} {O:Addr→Prop} {p:Addr} {t:Pin} {ys zs:List V} (h:PinS K H O p t) (hO:O p) (hp:H p=some (.lst ys)):PinS K (L2.upd H p (.lst zs)) O p t:=by
 cases t with
 | dv d v=>exact Src.upd h hO hp
 | fr a o u =>
  have h:H a=some (.frz o u):=h
  show L2.upd H p (.lst zs) a=some (.frz o u)
  rw[upd_ne (ne_of h hp (by intro z;cases z))];exact h
noncomputable def testsIs (ifs:List Expr) (cond:E) (P:Expr→Prop):Prop:=(ifs=[]∧cond=.con (.bl true))∨∃c,ifs=[c]∧P c
theorem comp_run {n:Nat} {caps:List Nat} {g:G} {elt src cond:E} {pe:Expr} {ifs:List Expr} {scope:Scope} {Nc:List Str} (hc:X.calm=true) (S:ScopeC X scope) (P:CapsOk X scope n caps Nc) (hb:g.below n=true)
 (hplain:plainX iter=true) (hsrc:SI T cf X tg src true iter)
 (body:∀C s2 H2 fp,(cxC X scope C Nc s2 H2 fp).Ok→SG (cxC X scope C Nc s2 H2 fp) g tg∧SE T cf (cxC X scope C Nc s2 H2 fp) elt pe∧testsIs ifs cond (ST T cf (cxC X scope C Nc s2 H2 fp) cond))
 {use:Option (Value→Sem Unit)} {H₀:Hp} {O₀:Addr→Prop} {pins:List (Addr×Obj)} {s:Shared} {σ:L2.St} {H:Hp} {O:Addr→Prop} {own:Nat→Option Addr} {e:Nv} {d:D} {Q:Value→Shared→Prop} (I:Inv X pins σ H s) (F:Fm X.K H₀ O₀ H O own e σ)
 (ev:evE T cf (.comp n caps g elt src cond) e=.ok d)
 (fin:∀C s2 H2 Hi s' a,Inv X pins σ H2 s2→Same H H2→s2.heap.objs.size < C→(∀h',Heap.SameBut C s'.heap h'→Inv X pins σ Hi { s' with heap:=h' })→(∃m,s'.heap.Ns C m)→Hi C=none→Same H Hi→Fm X.K H₀ O₀ Hi O own e σ→RD X.K Hi O d (.ref a)→NewL X.K H Hi O d (.ref a)→a≠C →
  compPost (model X.prog X.w) X.A X.xe use Q (.ref a) C (.ok .next) s') :
 wpAny (model X.prog X.w) X.A (comprehension (.ListComp pe [⟨tg,iter,ifs,0⟩] scope pos) scope X.env (firstIterPos [⟨tg,iter,ifs,0⟩] pos) (newList []) false (eval iter X.env) use) Q X.xe s:=by
 (first | rw[xE_con] at ev | rw[xE_lst] at ev | rw[xE_comp] at ev)
 obtain⟨ds,e1,ev⟩:=Res.bind_ok ev
 obtain⟨ys,e2,ev⟩:=Res.bind_ok ev
 obtain⟨cz,ev⟩:=when_ok ev
 cases ev
 have hz:=of_decide_eq_true cz
 refine wpAny_comprehension_free rfl (plain_fold hplain) (closure_eq (S.cells I.ok)) S.kind S.names ?_
 refine thn (hsrc H₀ O₀ pins s σ H (λJ H2=>∃srs,Same H H2∧(∀t∈srs,PinR X.K H2 O t)∧Wk X.K J srs ds) I ⟨O,own,e,ds,F,e1,λJ H' srs s' rr _ wk=>⟨srs,s',rr,wk⟩⟩) λv s1 h1=>thn h1 λitv s2 h2=>?_
 obtain⟨it,fp,tn,J,H2,rfl,I2,Tn,tn0,hfp,srs,s12,rr0,wk⟩:=h2
 refine wpAny_newObj_type (wpAny_newFunctionEnv S.cell (by intro y hy;simp at hy) (λh₁ hns₁ hsb₁=>?_) S.kind)
 dsimp only at hns₁ hsb₁ ⊢
 generalize hH2:s2.heap.push { cls:=.type "list", dict:=none,data:=.seq ([]:List Value).toArray }=HP at hns₁ hsb₁ ⊢
 have hC:HP.objs.size=s2.heap.objs.size+1:=by rw[←hH2,Heap.size_push]
 have hCl:s2.heap.objs.size < HP.objs.size:=by rw[hC];exact Nat.lt_succ_self _
 have below:∀b,b < s2.heap.objs.size→b≠HP.objs.size:=λb hb=>by rw[hC];exact Nat.ne_of_lt (Nat.lt_succ_of_lt hb)
 have old:∀b o,s2.heap.get? b=some o→h₁.get? b=some o:=λb o e=>hsb₁.extBut b o (below b (Heap.lt_size e)) (Heap.get?_push_of_some _ (hH2▸Heap.get?_push_of_some _ e))
 have hacc:h₁.get? s2.heap.objs.size=some { cls:=.type "list", data:=.seq #[] }:=hsb₁.extBut _ _ (Nat.ne_of_lt hCl) (Heap.get?_push_of_some _ (hH2▸Heap.get?_push_size _ rfl))
 have hfo:∀b∈fp,b < s2.heap.objs.size:=λb hb=>let ⟨o,q,_⟩:=Tn.obj 0 _ tn0 b hb;Heap.lt_size q
 have ok:=cxC_ok (Nc:=Nc) I2 S hfp hfo (Nat.le_of_lt hCl)
 have fr:H2 s2.heap.objs.size=none:=I2.hok.fresh (Nat.le_refl _)
 have F2:=F.grow s12
 obtain⟨ownc,Fc,nown⟩:=F2.comp n (caps:=caps) P.nd fr (xs:=[])
 obtain⟨bg,be,bt⟩:=body HP.objs.size s2 H2 fp ok
 have I0:=invC (t1:=s2.toks+([]:List (Str×Value)).length) (fp:=fp) I2 S P ok old hCl (by simpa using hns₁) hacc
 have fpn:∀ {Hi:Hp} {pins':List (Addr×Obj)},(∀b∈fp,Hi b=none)→(∀b∈fp,∀p∈pins',p.1≠b)→∀b∈fp,FpOk (cxC X scope HP.objs.size Nc s2 H2 fp) pins' Hi b:=λhn hpp b hb=>by
  refine⟨hn b hb,(ok.exf b hb).1,ok.exfs b hb,.inl hb,(ok.exf b hb).2,λp hp=>hpp b hb p (by simpa[cxC] using hp)⟩
 let f : D → Res (Option D) := fun d => do
     let e1 ←g.put d (compEnv n caps e)
     let c ←evE T cf cond e1
     let k ←c.truth
     if k then do let y ←evE T cf elt e1;.ok (some y) else .ok none
 have loop:∀s₃:Shared,s₃={ s2 with heap:=h₁,toks:=s2.toks+([]:List (Str×Value)).length } →
  codeAny (model X.prog X.w) X.A (.compLoop (.ListComp pe [⟨tg,iter,ifs,0⟩] scope pos) 0 (.ref it) (.ref s2.heap.objs.size) (compEnvC scope (freeCells X.env.cells scope.names []) HP.objs.size X.env))
   (compPost (model X.prog X.w) X.A X.xe use Q (.ref s2.heap.objs.size) HP.objs.size) s₃:=by
  rintro s₃ rfl
  refine compLoop_gen (λk s'=>∃i σi Hi own' as bs,k=ds.length+1 - i∧i≤ds.length∧Inv (cxC X scope HP.objs.size Nc s2 H2 fp) [] σi Hi s'∧tn i s'.heap∧(∀b∈fp,Hi b=none)∧Same H2 Hi ∧
   Fm X.K H₀ O₀ Hi (plus O s2.heap.objs.size) own' (compEnv n caps e) σi∧(∀j,own' j≠some s2.heap.objs.size)∧compL f (ds.drop i)=.ok bs∧ys=as++bs∧as.length≤i ∧
   (∃xs,Hi s2.heap.objs.size=some (.lst xs)∧RDs X.K Hi (plus O s2.heap.objs.size) as xs)∧∀t∈srs,PinS X.K Hi (plus O s2.heap.objs.size) s2.heap.objs.size t) ?_ (ds.length+1) ?_
  ·rintro k s' ⟨i,σi,Hi,own',as,bs,rfl,hi,Ii,tni,fri,smi,Fi,noi,evd,rfl,hal,⟨xs,hx,wx⟩,rri⟩
   have stat:∀b∈fp,FpOk (cxC X scope HP.objs.size Nc s2 H2 fp) [] Hi b:=fpn fri (λb _ p hp=>by cases hp)
   obtain⟨w1,w2,w3⟩:=wk i Hi (plus O s2.heap.objs.size) λt ht=>(rri t ht).rr
   by_cases hlt:i < ds.length
   ·refine thn (Tn.item (cxC X scope HP.objs.size Nc s2 H2 fp) rfl rfl rfl hc i [] s' σi Hi (λ_ _=>False) Ii stat tni (w1 hlt)) λr s4 ⟨u,hr,h4⟩=>?_
    subst hr
    refine thn h4 λ_ s5 ⟨v,H5,I5,r5,y5,tn5,fr5⟩=>?_
    obtain⟨s35,rv⟩:=w3 v H5 _ (List.getElem?_eq_getElem hlt) y5
    have I5':=I5.pinned (fpn fr5 (λb _ p hp=>by cases hp)) (Tn.obj _ _ tn5)
    rw[List.drop_eq_getElem_cons hlt,compL] at evd
    obtain⟨o,ef,evd⟩:=Res.bind_ok evd
    obtain⟨b',eb,evd⟩:=Res.bind_ok evd
    obtain⟨e3,ep,ef⟩:=Res.bind_ok ef
    obtain⟨dc,ec,ef⟩:=Res.bind_ok ef
    obtain⟨kc,et,ef⟩:=Res.bind_ok ef
    have F5:=Fi.grow s35
    refine thn (bg H₀ O₀ _ s5 σi H5 v u (λσ' H'=>H'=H5∧∃own'',Fm X.K H₀ O₀ H5 (plus O s2.heap.objs.size) own'' e3 σ'∧∀j,own'' j≠some s2.heap.objs.size) I5' r5 ⟨_,own',_,_,e3,F5,rv,ep,λσ' own'' hle F'=>⟨rfl,own'',F',λj q=>noi j (hle j _ q)⟩⟩) λ_ s6 ⟨σ6,H6,I6,q6⟩=>?_
    obtain⟨rfl,own6,F6,no6⟩:=q6
    have tests:wpAny (model X.prog X.w) X.A (forIn ifs true λc r=>if r=true then do let ok ←isTrue c (compEnvC scope (freeCells X.env.cells scope.names []) HP.objs.size X.env) (eval c (compEnvC scope (freeCells X.env.cells scope.names []) HP.objs.size X.env));pure (ForInStep.yield ok) else pure (ForInStep.yield r))
     (λok s7=>ok=kc∧∃H7,Inv (cxC X scope HP.objs.size Nc s2 H2 fp) ([]++pinsAt fp s5.heap) σ6 H7 s7∧Same H6 H7) (λ_ _=>False) s6:=by
     rcases bt with ⟨hi0,hc0⟩ | ⟨c0,hi0,st0⟩
     ·subst hi0 hc0
      (first | rw[xE_con] at ec | rw[xE_lst] at ec | rw[xE_comp] at ec);cases ec;cases et
      exact wpAny_tests_nil ⟨rfl,H6,I6,Same.refl _⟩
     ·subst hi0
      refine wpAny_tests_one (thn (st0 H₀ O₀ _ s6 σ6 H6 (λb H'=>b=kc∧Same H6 H') I6 ⟨_,own6,e3,dc,kc,F6,ec,et,λH' s=>⟨rfl,s⟩⟩) λb s7 ⟨H7,I7,q1,q2⟩=>⟨q1,H7,I7,q2⟩)
    refine thn tests λok s7 ⟨hok,H7,I7,s57⟩=>?_
    subst hok
    have F7:=F6.grow s57
    obtain⟨pl1,pl2⟩:=put_back hb ep
    have bk:∀j,(compEnv n caps e).at j=.no∨(compEnv n caps e).at j=e3.at j:=λj=>by
     by_cases hj:n≤j
     ·exact .inr (pl2 j hj).symm
     ·rcases compEnv_at (n:=n) (caps:=caps) (e:=e) j with z | ⟨k,i,rfl,_,_⟩
      ·exact .inl z
      ·exact absurd (Nat.le_add_right n k) hj
    have keepT:∀ {H8:Hp} {s8:Shared} {σ8:L2.St},Inv (cxC X scope HP.objs.size Nc s2 H2 fp) ([]++pinsAt fp s5.heap) σ8 H8 s8→tn (i+1) s8.heap∧∀b∈fp,H8 b=none:=λI8 =>
     ⟨Tn.keep _ _ _ tn5 λb hb o q=>(I8.pin (b,o) (List.mem_append_right _ (List.mem_append_right _ (mem_pinsAt hb q)))).1,λb hb=>by
      obtain⟨o,q,_⟩:=Tn.obj _ _ tn5 b hb
      exact (I8.pin (b,o) (List.mem_append_right _ (List.mem_append_right _ (mem_pinsAt hb q)))).2.1⟩
    cases ok with
    | false =>
     rw[if_neg Bool.false_ne_true] at ef ⊢
     cases ef
     cases evd
     obtain⟨t1,t2⟩:=keepT I7
     exact⟨ds.length+1 - (i+1),by lia,i+1,σ6,H7,own6,as,bs,rfl,hlt,I7.unpinned,t1,t2,smi.trans (s35.trans s57),F7.back pl1.symm bk,no6,eb,rfl,Nat.le_succ_of_le hal,⟨xs,s57 _ _ (s35 _ _ hx),(wx.same s35).same s57⟩,λt ht=>((rri t ht).same s35).same s57⟩
    | true =>
     rw[if_pos rfl] at ef ⊢
     obtain⟨dy,ey,ef⟩:=Res.bind_ok ef
     cases ef
     cases evd
     refine thn (be H₀ O₀ _ s7 σ6 H7 (λv H'=>Same H7 H'∧RD X.K H' (plus O s2.heap.objs.size) dy v) I7 ⟨_,own6,e3,dy,F7,ey,λv H' s r _=>⟨s,r⟩⟩) λwv s8 ⟨vy,H8,I8,r8,s78,rd8⟩=>?_
     have sm8:=s35.trans (s57.trans s78)
     have hx8:=sm8 _ _ hx
     have F8:=F7.grow s78
     have wx8:=wx.same sm8
     have h0:H₀ s2.heap.objs.size=none:=(F.same.trans s12).free fr
     refine thn (mt_append (X:=cxC X scope HP.objs.size Nc s2 H2 fp) _ s8 σ6 H8 (.ref s2.heap.objs.size) [vy] (.ref s2.heap.objs.size) [wv] (λ_ H'=>H'=upd H8 s2.heap.objs.size (.lst (xs++[vy]))) I8 rfl (.cons r8 .nil) ⟨_,xs,vy,rfl,rfl,hx8,by rw[wx.length,←big_line];lia,rfl⟩) λ_ s9 ⟨v9,H9,I9,r9,e9⟩=>?_
     subst e9
     obtain⟨t1,t2⟩:=keepT I9
     have smU:Same H2 (upd H8 s2.heap.objs.size (.lst (xs++[vy]))):=λb o q=>by
      rw[upd_ne (ne_of_none q fr)]
      exact sm8 _ _ (smi _ _ q)
     refine⟨ds.length+1 - (i+1),by lia,i+1,σ6,_,own6,as++[dy],b',rfl,hlt,I9.unpinned,t1,t2,smU,(F8.updO (.inr rfl) hx8 h0 no6).back pl1.symm bk,no6,eb,by simp,?_,⟨xs++[vy],upd_same,?_⟩,λt ht=>((rri t ht).same sm8).upd (.inr rfl) hx8⟩
     ·rw[List.length_append,List.length_singleton];lia
     ·exact (wx8.append (RDs.cons rd8 RDs.nil)).upd (.inr rfl) hx8
   ·have hii:i=ds.length:=by lia
    subst hii
    refine thn (Tn.done (cxC X scope HP.objs.size Nc s2 H2 fp) rfl rfl rfl hc _ [] s' σi Hi (λ_ _=>False) Ii stat tni (w2 (Nat.le_refl _))) λr s4 ⟨hr,I4⟩=>?_
    subst hr
    rw[List.drop_length,compL] at evd
    cases evd
    have nO:¬O s2.heap.objs.size:=λz=>by
     obtain⟨o,q⟩:=F2.trk _ z
     rw[fr] at q;cases q
    refine fin HP.objs.size s2 H2 Hi s4 s2.heap.objs.size I2 s12 hCl (λh' sb=>outC I2 I4 hfp (Nat.le_of_lt hCl) sb) ?_ I4.free (s12.trans smi) (F.grow (s12.trans smi)) ?_ ?_ (Nat.ne_of_lt hCl)
    ·obtain⟨m,hn,_⟩:=I4.loc
     exact⟨m,hn⟩
    ·exact⟨_,xs,rfl,.inl ⟨nO,.inl hx⟩,by rw[List.append_nil];exact wx.weak λ_ z=>.inl z⟩
    ·exact λ_=>⟨_,rfl,s12.free fr,xs,hx,by rw[List.append_nil];exact wx⟩
  ·refine⟨0,_,_,ownc,[],ys,rfl,Nat.zero_le _,I0,Tn.keep _ _ _ tn0 λb _ o q=>old b o q,λb hb=>?_,same_upd fr _,Fc,nown,by simpa using e2,rfl,Nat.le_refl _,⟨[],upd_same,rfl⟩,?_⟩
   ·rw[upd_ne (Nat.ne_of_lt (hfo b hb))];exact (hfp b hb).1
   ·intro t ht
    have r0:=rr0 t ht
    cases t with
    | fr a o u=>exact same_upd fr _ _ _ r0
    | dv d0 v0 =>
     rcases r0 with z | ⟨al,z1,z2⟩
     ·exact .inl ((z.new fr).same (same_upd fr _))
     ·obtain⟨ob,hob,_⟩:=z2.obj
      exact .inr ⟨al,z1,ne_of_none hob fr,(z2.new fr).same (same_upd fr _)⟩
 exact codeAny_compStart_list (loop _ rfl) (Tn.self _ 0 _ _ _ (Tn.keep _ _ _ tn0 λb _ o q=>old b o q) (loop _ rfl))
end
section
variable {T:Tab} {cf:Nat→List D→Res D} {X:Cx} {x y z:E} {p q r tg iter:Expr} {pos pos' pos'':Pos}
theorem se_comp {n:Nat} {caps:List Nat} {g:G} {elt src cond:E} {pe:Expr} {ifs:List Expr} {scope:Scope} {Nc:List Str} (hc:X.calm=true) (S:ScopeC X scope) (P:CapsOk X scope n caps Nc) (hb:g.below n=true)
 (hplain:plainX iter=true) (hsrc:SI T cf X tg src true iter)
 (body:∀C s2 H2 fp,(cxC X scope C Nc s2 H2 fp).Ok→SG (cxC X scope C Nc s2 H2 fp) g tg∧SE T cf (cxC X scope C Nc s2 H2 fp) elt pe∧testsIs ifs cond (ST T cf (cxC X scope C Nc s2 H2 fp) cond)) :
 SE T cf X (.comp n caps g elt src cond) (.ListComp pe [⟨tg,iter,ifs,0⟩] scope pos):=by
 intro H₀ O₀ pins s σ H Q I ⟨O,own,e,d,F,ev,k⟩
 rw[eval_ListComp]
 refine comp_run (use:=none) hc S P hb hplain hsrc body I F ev ?_
 intro C s2 H2 Hi s' a I2 s12 hC hI ns hn sm Fi rd nl hne
 obtain⟨m,ns⟩:=ns
 exact⟨m,ns,λh' sb=>⟨.ref a,Hi,hI h' sb,rfl,k _ Hi sm rd λ_=>nl⟩⟩
theorem comp_asg {i:Nat} {nm:Str} {n:Nat} {caps:List Nat} {g:G} {elt src cond:E} {pe:Expr} {ifs:List Expr} {scope:Scope} {Nc:List Str} (hN:X.N.Nodup) (hi:X.N[i]?=some nm) (hl:Loc X.env.scope nm) (hf:X.fn nm=true∨X.env.scope.names.lookup nm=some .local)
 (hsw:swapsWith (.ListComp pe [⟨tg,iter,ifs,0⟩] scope pos) (some (.Name nm pos')) pos''.line X.env=pure true)
 (hc:X.calm=true) (S:ScopeC X scope) (P:CapsOk X scope n caps Nc) (hb:g.below n=true)
 (hplain:plainX iter=true) (hsrc:SI T cf X tg src true iter)
 (body:∀C s2 H2 fp,(cxC X scope C Nc s2 H2 fp).Ok→SG (cxC X scope C Nc s2 H2 fp) g tg∧SE T cf (cxC X scope C Nc s2 H2 fp) elt pe∧testsIs ifs cond (ST T cf (cxC X scope C Nc s2 H2 fp) cond)) :
 ∀H₀ O₀,PS X (.Assign [.Name nm pos'] (.ListComp pe [⟨tg,iter,ifs,0⟩] scope pos) pos'') (λD' σ H=>∃O own e d,Fm X.K H₀ O₀ H O own e σ∧evE T cf (.comp n caps g elt src cond) e=.ok d∧∀v H',Same H H'→RD X.K H' O d v→NewL X.K H H' O d v→D'.nx (σ.set i (some v)) H'):=by
 intro H₀ O₀ pins s σ H D' I ⟨O,own,e,d,F,ev,k⟩
 rw[exec_Assign_Name_used _ _ _ _ hsw]
 refine wpAny_bind (wpAny_standAt (wpAny_bind ?_))
 show wpAny _ X.A (do let _ ←comprehension (.ListComp pe [⟨tg,iter,ifs,0⟩] scope pos) scope X.env _ (newList []) false (eval iter X.env) (some (assign (.Name nm pos') X.env))) _ _ s
 refine wpAny_bind (wpAny_mono (comp_run (use:=some (assign (.Name nm pos') X.env)) (Q:=λ_ s'=>SP X pins D' .next s') hc S P hb hplain hsrc body I F ev ?_) (λ_ s' hq=>wpAny_pure (wpAny_pure hq)) λ_ _ e=>e)
 intro C s2 H2 Hi s' a I2 s12 hC hI ns hn sm Fi rd nl hne
 obtain⟨m,ns⟩:=ns
 have I':Inv X pins σ Hi s':=by
  have:=hI s'.heap (.refl ..)
  exact this
 show wpAny _ X.A (assign (.Name nm pos') X.env (.ref a)) _ _ _
 refine wpAny_assign_Name (store_ok2 (v:=.ref a) I' hN hi hl rfl (λs'' I'' ⟨a0,sb,ha0⟩=>?_) hf)
 have lt0:a0 < s2.heap.objs.size:=by
  rcases ha0 with z | z
  ·rw[z];exact I2.lt
  ·obtain⟨v,w⟩:=I2.cell nm a0 z
   exact w.lt
 have neC:C≠a0:=Nat.ne_of_gt (Nat.lt_trans lt0 hC)
 refine⟨m,ns.sameBut sb neC,λh' sb'=>?_⟩
 refine⟨σ.set i (some (.ref a)),Hi,?_,k _ Hi sm rd nl⟩
 refine I''.turned (t':=s''.toks) (it:=C) (λb o hb' e=>(sb'.2 b hb').trans e) hn (Nat.ne_of_gt (Nat.lt_trans I2.lt hC)) (.inr (Nat.le_trans I2.sz (Nat.le_of_lt hC))) (λx c e z=>?_) (λp hp z=>?_)
 ·obtain⟨v,w⟩:=I2.cell x c e
  exact absurd (Nat.lt_trans w.lt hC) (by rw[z];exact Nat.lt_irrefl _)
 ·exact absurd (Nat.lt_trans (Heap.lt_size (I2.pin p hp).1) hC) (by rw[z];exact Nat.lt_irrefl _)
theorem ss_asg_comp {i:Nat} {nm:Str} {n:Nat} {caps:List Nat} {g:G} {elt src cond:E} {pe:Expr} {ifs:List Expr} {scope:Scope} {Nc:List Str} (hN:X.N.Nodup) (hi:X.N[i]?=some nm) (hl:Loc X.env.scope nm) (hf:X.fn nm=true∨X.env.scope.names.lookup nm=some .local)
 (hc:X.calm=true) (S:ScopeC X scope) (P:CapsOk X scope n caps Nc) (hb:g.below n=true)
 (hplain:plainX iter=true) (hsrc:SI T cf X tg src true iter) (o:Bool)
 (body:∀C s2 H2 fp,(cxC X scope C Nc s2 H2 fp).Ok→SG (cxC X scope C Nc s2 H2 fp) g tg∧SE T cf (cxC X scope C Nc s2 H2 fp) elt pe∧testsIs ifs cond (ST T cf (cxC X scope C Nc s2 H2 fp) cond)) :
 SS T cf X (if o then .asgO i (.comp n caps g elt src cond) else .asg (.one i) (.comp n caps g elt src cond)) (.Assign [.Name nm pos'] (.ListComp pe [⟨tg,iter,ifs,0⟩] scope pos) pos''):=by
 intro H₀ O₀
 have main:PS X (.Assign [.Name nm pos'] (.ListComp pe [⟨tg,iter,ifs,0⟩] scope pos) pos'') (λD' σ H=>∃O own e d,Fm X.K H₀ O₀ H O own e σ∧evE T cf (.comp n caps g elt src cond) e=.ok d∧∀v H',Same H H'→RD X.K H' O d v→NewL X.K H H' O d v→D'.nx (σ.set i (some v)) H'):=by
  have hsw:∃b:Bool,swapsWith (.ListComp pe [⟨tg,iter,ifs,0⟩] scope pos) (some (.Name nm pos')) pos''.line X.env=pure b:=⟨_,rfl⟩
  obtain⟨b,hsw⟩:=hsw
  cases b with
  | true=>exact comp_asg hN hi hl hf hsw hc S P hb hplain hsrc body H₀ O₀
  | false =>
   refine PS.imp (λD' σ H hq=>?_) (ps_set hN hi hl (se_comp hc S P hb hplain hsrc body H₀ O₀) hsw hf)
   obtain⟨O,own,e,d,F,ev,k⟩:=hq
   exact⟨O,own,e,d,F,ev,λv H' s' r n=>k v H' s' r (n rfl)⟩
 refine PS.imp (λD' σ H hq=>?_) main
 obtain⟨ts,e,out,⟨O,own,F,tt⟩,ev,k⟩:=hq
 cases o with
 | true =>
  rw[if_pos rfl] at ev
  (first | rw[xS_asg] at ev | rw[xS_asgO] at ev)
  obtain⟨d,e1,ev⟩:=Res.bind_ok ev
  split at ev
  ·obtain⟨c,ev⟩:=when_ok ev
   cases ev
   refine⟨O,own,e,_,F,e1,λv H' s' r n=>?_⟩
   obtain⟨p,rfl,h2,h3⟩:=n rfl
   exact k _ H' ⟨_,_,F.setO s' i h2 h3,λt ht=>((tt t ht).new h2).same s'⟩
  ·obtain⟨c,ev⟩:=when_ok ev
   cases ev
   refine⟨O,own,e,_,F,e1,λv H' s' r n=>?_⟩
   obtain⟨p,rfl,h2,h3⟩:=n rfl
   exact k _ H' ⟨_,_,F.setO s' i h2 h3,λt ht=>((tt t ht).new h2).same s'⟩
  ·obtain⟨c,ev⟩:=when_ok ev
   cases ev
   refine⟨O,own,e,_,F,e1,λv H' s' r n=>?_⟩
   obtain⟨p,rfl,h2,h3⟩:=n rfl
   exact k _ H' ⟨_,_,F.setO s' i h2 h3,λt ht=>((tt t ht).new h2).same s'⟩
  ·cases ev
 | false =>
  rw[if_neg Bool.false_ne_true] at ev
  (first | rw[xS_asg] at ev | rw[xS_asgO] at ev)
  obtain⟨d,e1,ev⟩:=Res.bind_ok ev
  obtain⟨e2,e3,ev⟩:=Res.bind_ok ev
  cases ev
  cases e3
  exact⟨O,own,e,d,F,e1,λv H' s' r n=>k _ H' ⟨O,_,(F.grow s').setV i r,λt ht=>(tt t ht).same s'⟩⟩
theorem turned2 {pins:List (Addr×Obj)} {σ:L2.St} {H:Hp} {s:Shared} {h':Heap} {t':Nat} {a b:Addr} (I:Inv X pins σ H s) (k:∀c o,c≠a→c≠b→s.heap.get? c=some o→h'.get? c=some o) (na:H a=none) (nb:H b=none)
 (fa:a≠X.env.locals∧(a∈X.ex∨X.s₀.heap.objs.size≤a)∧(∀x c,X.env.cells.lookup x=some c→c≠a)∧∀p∈X.pn++pins,p.1≠a)
 (fb:b≠X.env.locals∧(b∈X.ex∨X.s₀.heap.objs.size≤b)∧(∀x c,X.env.cells.lookup x=some c→c≠b)∧∀p∈X.pn++pins,p.1≠b):Inv X pins σ H { s with heap:=h',toks:=t' }:=by
 have nn:∀c u,H c=some u→c≠a∧c≠b:=λc u e=>⟨λz=>(by rw[z,na] at e;cases e),λz=>(by rw[z,nb] at e;cases e)⟩
 have no2:∀ {c},c∉[a,b]→c≠a∧c≠b:=λhc=>⟨λz=>hc (by simp[z]),λz=>hc (by simp[z])⟩
 refine I.step (g':=s.gens) (d':=s.drawn) (ch:=[a,b]) (λc hc=>?_) (λc o _ _ hc e _=>k c o (no2 hc).1 (no2 hc).2 e) (λc o _ _ hc e _=>⟨o.slots,k c o (no2 hc).1 (no2 hc).2 e⟩) (λ_ _ _ _ n=>n)
  (λc o hc e=>⟨o,k c o (no2 hc).1 (no2 hc).2 e⟩) (λ_ _ e=>e) (λ_ _ _ e=>e) (λb ps e=>⟨#[],by rw[e];simp⟩) (λm hm=>?_) (λc u e=>?_) I.bare
 ·rcases List.mem_cons.mp hc with rfl | hc
  ·exact⟨fa.2.1,fa.1,fa.2.2.1,fa.2.2.2⟩
  ·have e:c=b:=by simpa using hc
   subst e
   exact⟨fb.2.1,fb.1,fb.2.2.1,fb.2.2.2⟩
 ·obtain⟨o,es,ep,ho,r⟩:=hm
  exact⟨o,es,ep,k _ o (Ne.symm fa.1) (Ne.symm fb.1) ho,r⟩
 ·refine (I.hok c u e).stay (λc' v hc q=>?_) (λ_ q=>q) λ_ _ q=>q
  have:c'≠a∧c'≠b:=by
   rcases hc with z | z
   ·rw[z];exact nn c u e
   ·exact nn c' _ z
  exact k c' v this.1 this.2 q
noncomputable def Ite (K:PySem.W.Frag) (a:Addr):It :=
 ⟨λi H=>∃xs x,SqL K H a xs∧xs[i]?=some x,λi H x H'=>∃p y,H p=none∧x=.ref p∧H'=upd H p (.tup [.int i,y])∧∀xs,SqL K H a xs→xs[i]?=some y,λi H=>∃xs,SqL K H a xs∧xs.length≤i⟩
theorem turn_enum {Pg:Program} {w:World} {K:PySem.W.Frag} {es:List Expr} {kk:Nat} {pos:Pos} (a en it:Addr) (hne:en≠it):Turn Pg w K (.Tuple es kk pos) (Ite K a) [en,it] en (λi h=>∃old,IsEnum h en it i old∧h.IsListIter it a i) where
 mem:=by simp
 obj:=λi h st b hb=>by
  obtain⟨old,st1,o,e,c,d⟩:=st
  rcases List.mem_cons.mp hb with rfl | hb
  ·exact⟨_,st1,λv z=>by
    have z':Data.fields _=Data.cell v:=z
    cases z'⟩
  ·have e':b=it:=by simpa using hb
   subst e'
   exact⟨o,e,λv z=>by rw[d] at z;cases z⟩
 keep:=λi h h' st k=>by
  obtain⟨old,st1,st2⟩:=st
  exact⟨old,k en (by simp) _ st1,st2.at λo e=>k it (by simp) o e⟩
 item:=by
  intro X hP hw hK hc i pins s σ H E I hf st hg
  subst hP hw hK
  obtain⟨xs,x,hq,hx⟩:=hg
  obtain⟨old,st1,st2⟩:=st
  obtain⟨its,rv,p,hz⟩:=I.list hq
  obtain⟨u,hu,ru⟩:=rv.get hx
  obtain⟨f0,f1,f2,f3,f4,f5⟩:=hf en (by simp)
  obtain⟨g0,g1,g2,g3,g4,g5⟩:=hf it (by simp)
  refine wpAny_pyNext_enum_item st1 st2 p.isList (x:=u) (by simpa using hu) hne λh₁ heo hit₁ ht₁ hz₁ hk₁=>?_
  refine⟨_,rfl,wpAny_letOwnedTupleGo_enum heo λh₂ he₂ hs₂=>?_⟩
  replace hs₂:Heap.SameBut en h₁ h₂:=hs₂
  have enl:en < s.heap.objs.size:=Heap.lt_size st1
  have itl:it < s.heap.objs.size:=by
   obtain⟨o,q,_⟩:=id st2
   exact Heap.lt_size q
  have fr:H s.heap.objs.size=none:=I.hok.fresh (Nat.le_refl _)
  have hm:∃hm:Heap,hm=s.heap.push { cls:=.type "tuple", data:=.seq #[.int i s.toks,u] }:=⟨_,rfl⟩
  obtain⟨hm,ehm⟩:=hm
  have I1:Inv X pins σ (upd H s.heap.objs.size (.tup [.int i,x])) { s with heap:=hm }:=by
   rw[ehm]
   refine I.laid (t':=s.toks) (λb o q=>Heap.get?_push_of_some _ q) (Nat.le_refl _) ?_
   exact⟨by show 2≤sizeLine;decide,[.int i s.toks,u],.cons ⟨_,rfl⟩ (.cons ru .nil),⟨_,Heap.get?_push_size _ rfl,rfl,_,rfl⟩⟩
  have kept:∀b o,b≠en→b≠it→hm.get? b=some o→h₂.get? b=some o:=λb o hb1 hb2 q=>by
   refine (hs₂.2 b hb1).trans ?_
   rw[ehm] at q
   rcases Heap.get?_push_cases q with ⟨e1,e2⟩ | q
   ·rw[e1,e2];exact ht₁
   ·exact hk₁ b o hb1 hb2 q
  have up:∀ {c:Addr},c < s.heap.objs.size→H c=none→upd H s.heap.objs.size (.tup [.int i,x]) c=none:=λhl hn=>by rw[upd_ne (Nat.ne_of_lt hl)];exact hn
  have I2:Inv X pins σ (upd H s.heap.objs.size (.tup [.int i,x])) { s with heap:=h₂,toks:=s.toks+1 }:=turned2 (s:={ s with heap:=hm }) (t':=s.toks+1) I1 kept (up enl f0) (up itl g0) ⟨f1,f3,f4,f5⟩ ⟨g1,g3,g4,g5⟩
  refine⟨.ref s.heap.objs.size,_,I2,rfl,⟨_,x,fr,rfl,rfl,λys hy=>by rw[I.list_inj hy hq];exact hx⟩,⟨u,?_,hit₁.extBut hs₂.extBut (Ne.symm hne)⟩,λb hb=>?_⟩
  ·have:((i+1:Nat):Int)=(i:Int)+1:=by push_cast;rfl
   rw[this];exact he₂
  ·rcases List.mem_cons.mp hb with rfl | hb
   ·exact up enl f0
   ·have e':b=it:=by simpa using hb
    subst e'
    exact up itl g0
 done:=by
  intro X hP hw hK hc i pins s σ H E I hf st hg
  subst hP hw hK
  obtain⟨xs,hq,hx⟩:=hg
  obtain⟨old,st1,st2⟩:=st
  obtain⟨its,rv,p,hz⟩:=I.list hq
  obtain⟨g0,g1,g2,g3,g4,g5⟩:=hf it (by simp)
  have hl:=rv.length
  exact wpAny_pyNext_enum_end (I.ok.hd hc) st1 st2 p.isList (by simp;lia) λh' eb=>⟨rfl,I.turned (t':=s.toks) (λb o hb e=>eb b o hb e) g0 g1 g3 g4 g5⟩
 self:=λ_ _ _ _ _ st h=>by
  obtain⟨old,st1,_⟩:=st
  exact wpAny_pyIter_enum st1 h
noncomputable def IteT (K:PySem.W.Frag) (a:Addr):It :=
 ⟨λi H=>∃xs x,SqT K H a xs∧xs[i]?=some x,λi H x H'=>∃p y,H p=none∧x=.ref p∧H'=upd H p (.tup [.int i,y])∧∀xs,SqT K H a xs→xs[i]?=some y,λi H=>∃xs,SqT K H a xs∧xs.length≤i⟩
theorem apart_tup {h:Heap} {a b:Addr} {its:Array Value} {o:Obj} (ht:h.IsTuple a its) (ho:h.get? b=some o) (hc:o.cls≠.type "tuple"):a≠b:=λe=>by
 subst e
 obtain⟨o',h1,h2,_⟩:=ht
 rw[ho] at h1;cases h1
 exact hc h2
theorem turn_enumT {Pg:Program} {w:World} {K:PySem.W.Frag} {es:List Expr} {kk:Nat} {pos:Pos} (a en it:Addr) (hne:en≠it):Turn Pg w K (.Tuple es kk pos) (IteT K a) [en,it] en (λi h=>∃old,IsEnum h en it i old∧h.IsTupleIter it a i) where
 mem:=by simp
 obj:=λi h st b hb=>by
  obtain⟨old,st1,o,e,c,d⟩:=st
  rcases List.mem_cons.mp hb with rfl | hb
  ·exact⟨_,st1,λv z=>by
    have z':Data.fields _=Data.cell v:=z
    cases z'⟩
  ·have e':b=it:=by simpa using hb
   subst e'
   exact⟨o,e,λv z=>by rw[d] at z;cases z⟩
 keep:=λi h h' st k=>by
  obtain⟨old,st1,st2⟩:=st
  exact⟨old,k en (by simp) _ st1,st2.at λo e=>k it (by simp) o e⟩
 item:=by
  intro X hP hw hK hc i pins s σ H E I hf st hg
  subst hP hw hK
  obtain⟨xs,x,hq,hx⟩:=hg
  obtain⟨old,st1,st2⟩:=st
  obtain⟨its,rv,p,hz⟩:=I.tuple hq
  obtain⟨u,hu,ru⟩:=rv.get hx
  obtain⟨f0,f1,f2,f3,f4,f5⟩:=hf en (by simp)
  obtain⟨g0,g1,g2,g3,g4,g5⟩:=hf it (by simp)
  have n1:a≠it:=by
   obtain⟨o,q1,q2,_⟩:=id st2
   exact apart_tup p q1 (by rw[q2];show Value.type "tuple_iterator" ≠ Value.type "tuple"; decide)
  have n2:a≠en:=apart_tup p st1 (show Value.type "enumerate" ≠ Value.type "tuple" by decide)
  have hlt:i < its.toArray.size:=by rw[List.size_toArray];exact (List.getElem?_eq_some_iff.mp hu).1
  refine wpAny_pyNext_enum_itemD (draws_tup (A:=X.A.in1) (I.ok.hd hc) it a n1 its.toArray) st1 ⟨st2,p⟩ hlt hne (by simp[hne,Ne.symm n2]) λu' h₁ tk hu' heo hit₁ ht₁ hz₁ hk₁=>?_
  have eu:u'=u:=by
   have h1:its[i]?=some u':=by simpa using hu'
   rw[hu] at h1;cases h1;rfl
  subst eu
  refine⟨_,rfl,wpAny_letOwnedTupleGo_enum heo λh₂ he₂ hs₂=>?_⟩
  replace hs₂:Heap.SameBut en h₁ h₂:=hs₂
  have enl:en < s.heap.objs.size:=Heap.lt_size st1
  have itl:it < s.heap.objs.size:=by
   obtain⟨o,q,_⟩:=id st2
   exact Heap.lt_size q
  have fr:H s.heap.objs.size=none:=I.hok.fresh (Nat.le_refl _)
  have hm:∃hm:Heap,hm=s.heap.push { cls:=.type "tuple", data:=.seq #[.int i tk,u'] }:=⟨_,rfl⟩
  obtain⟨hm,ehm⟩:=hm
  have I1:Inv X pins σ (upd H s.heap.objs.size (.tup [.int i,x])) { s with heap:=hm }:=by
   rw[ehm]
   refine I.laid (t':=s.toks) (λb o q=>Heap.get?_push_of_some _ q) (Nat.le_refl _) ?_
   exact⟨by show 2≤sizeLine;decide,[.int i tk,u'],.cons ⟨_,rfl⟩ (.cons ru .nil),⟨_,Heap.get?_push_size _ rfl,rfl,_,rfl⟩⟩
  have kept:∀b o,b≠en→b≠it→hm.get? b=some o→h₂.get? b=some o:=λb o hb1 hb2 q=>by
   refine (hs₂.2 b hb1).trans ?_
   rw[ehm] at q
   rcases Heap.get?_push_cases q with ⟨e1,e2⟩ | q
   ·rw[e1,e2];exact ht₁
   ·exact hk₁ b o hb1 hb2 q
  have up:∀ {c:Addr},c < s.heap.objs.size→H c=none→upd H s.heap.objs.size (.tup [.int i,x]) c=none:=λhl hn=>by rw[upd_ne (Nat.ne_of_lt hl)];exact hn
  have I2:Inv X pins σ (upd H s.heap.objs.size (.tup [.int i,x])) { s with heap:=h₂,toks:=tk+1 }:=turned2 (s:={ s with heap:=hm }) (t':=tk+1) I1 kept (up enl f0) (up itl g0) ⟨f1,f3,f4,f5⟩ ⟨g1,g3,g4,g5⟩
  refine⟨.ref s.heap.objs.size,_,I2,rfl,⟨_,x,fr,rfl,rfl,λys hy=>by rw[I.tuple_inj hy hq];exact hx⟩,⟨u',?_,hit₁.1.extBut hs₂.extBut (Ne.symm hne)⟩,λb hb=>?_⟩
  ·have:((i+1:Nat):Int)=(i:Int)+1:=by push_cast;rfl
   rw[this];exact he₂
  ·rcases List.mem_cons.mp hb with rfl | hb
   ·exact up enl f0
   ·have e':b=it:=by simpa using hb
    subst e'
    exact up itl g0
 done:=by
  intro X hP hw hK hc i pins s σ H E I hf st hg
  subst hP hw hK
  obtain⟨xs,hq,hx⟩:=hg
  obtain⟨old,st1,st2⟩:=st
  obtain⟨its,rv,p,hz⟩:=I.tuple hq
  obtain⟨g0,g1,g2,g3,g4,g5⟩:=hf it (by simp)
  have hl:=rv.length
  have hT:s.TypeIs (.ref en) "enumerate" := ⟨_,st1,rfl⟩
  unfold pyNext
  refine wpAny_bind (wpAny_attempt (wpAny_callSpecial?_slot (name:=Str.ofString "__next__") hT F.slot_enumerate_next
   (wpAny_call_entry F.slot_enumerate_next hT F.entry_enumerate_next ?_ (F.args_enumerate_next_1 _))))
  show wpAny _ _ (field (.ref en) 2>>=_) _ _ _
  refine wpAny_bind (wpAny_field st1 rfl (x:=.ref it) rfl ?_)
  refine wpAny_bind (nextOf_tup_end (I.ok.hd hc) st2 p (by simp;lia) λh' x he' hx'=>?_)
  obtain⟨o,ho,hc'⟩:=hx'
  refine wpAny_bind (wpAny_isInstance (T := "StopIteration") (b:=true) ⟨o,ho,hc'⟩ isSubtype_stop ?_)
  exact wpAny_pure ⟨rfl,I.turned (t':=s.toks) (λb o hb e=>he' b o hb e) g0 g1 g3 g4 g5⟩
 self:=λ_ _ _ _ _ st h=>by
  obtain⟨old,st1,_⟩:=st
  exact wpAny_pyIter_enum st1 h
theorem enumD_len (k:Int):∀ds:List D,(enumD k ds).length=ds.length
 | []=>rfl
 | d::ds=>by rw[enumD,List.length_cons,List.length_cons,enumD_len (k+1) ds]
theorem enumD_get:∀(k:Int) (ds:List D) (i:Nat) (d:D),ds[i]?=some d→(enumD k ds)[i]?=some (.tup [.int (k+i),d])
 | k,[],i,d,h=>by simp at h
 | k,d0::ds,0,d,h=>by simp at h;subst h;rw[enumD];simp
 | k,d0::ds,i+1,d,h=>by
  rw[enumD,List.getElem?_cons_succ,enumD_get (k+1) ds i d (by simpa using h)]
  congr 4
  push_cast
  lia
theorem wk_enum {K:PySem.W.Frag} {a:Addr} {ds:List D}:Wk1 K (Ite K a) (.lst ds) (.ref a) (enumD 0 ds):=by
 intro i H O r
 obtain⟨a',xs,e,q,w⟩:=r.lst
 cases e
 have hl:=w.length
 rw[enumD_len]
 refine⟨λh=>?_,λh=>⟨xs,q,by lia⟩,λx H' d hd y=>?_⟩
 ·obtain⟨v,h1,h2⟩:=w.get (List.getElem?_eq_getElem h)
  exact⟨xs,v,q,h1⟩
 ·obtain⟨p,yv,hp,rfl,rfl,hy⟩:=y
  refine⟨same_upd hp _,?_⟩
  have hi:i < ds.length:=by
   have:=(List.getElem?_eq_some_iff.mp hd).1
   rwa [enumD_len] at this
  obtain⟨v,h1,h2⟩:=w.get (List.getElem?_eq_getElem hi)
  have:=(hy xs q).symm.trans h1
  cases this
  rw[enumD_get 0 ds i _ (List.getElem?_eq_getElem hi)] at hd
  cases hd
  refine new_tup (RDs.cons ?_ (RDs.cons h2 RDs.nil)) hp
  show V.int (i:Int)=V.int (0+(i:Int))
  rw[Int.zero_add]
theorem wk_enumT {K:PySem.W.Frag} {a:Addr} {ds:List D}:Wk1 K (IteT K a) (.tup ds) (.ref a) (enumD 0 ds):=by
 intro i H O r
 obtain⟨a',xs,e,q,w⟩:=r.tup
 cases e
 have hl:=w.length
 rw[enumD_len]
 refine⟨λh=>?_,λh=>⟨xs,q,by lia⟩,λx H' d hd y=>?_⟩
 ·obtain⟨v,h1,h2⟩:=w.get (List.getElem?_eq_getElem h)
  exact⟨xs,v,q,h1⟩
 ·obtain⟨p,yv,hp,rfl,rfl,hy⟩:=y
  refine⟨same_upd hp _,?_⟩
  have hi:i < ds.length:=by
   have:=(List.getElem?_eq_some_iff.mp hd).1
   rwa [enumD_len] at this
  obtain⟨v,h1,h2⟩:=w.get (List.getElem?_eq_getElem hi)
  have:=(hy xs q).symm.trans h1
  cases this
  rw[enumD_get 0 ds i _ (List.getElem?_eq_getElem hi)] at hd
  cases hd
  refine new_tup (RDs.cons ?_ (RDs.cons h2 RDs.nil)) hp
  show V.int (i:Int)=V.int (0+(i:Int))
  rw[Int.zero_add]
theorem si_enum {rd:Bool} {n:Str} {pn:Pos} {es:List Expr} {kk:Nat} {tpos:Pos} (hn:n = "enumerate") (hg:Gl X n) (hm:X.mg "enumerate" = none) (hp:plainX p=true) (ha:SR T cf X x p) (hv:rd=false→SE T cf X x p) :
 SI T cf X (.Tuple es kk tpos) (.enum x) rd (.Call (.Name n pn) [p] [] pos):=by
 intro H₀ O₀ pins s σ H R I h
 subst hn
 obtain⟨O,own,e,ds,F,ev,k⟩:=h
 replace k:=k1_of k
 rw[xI_enum] at ev
 obtain⟨d1,e1,ev⟩:=Res.bind_ok ev
 have main:∀ {u:Value} {s1:Shared} {v:V} {H1:Hp},Inv X pins σ H1 s1→RelV v u→Same H H1→RR X.K H1 O d1 v→(rd=false→RD X.K H1 O d1 v)→wpAny (model X.prog X.w) X.A (call (.type "enumerate") [u]) (λv s1=>wpAny (model X.prog X.w) X.A (pyIter v) (PIE X pins σ (.Tuple es kk tpos) R) X.xe s1) X.xe s1:=by
  intro u s1 v H1 I1 r1 s1' rr rv
  cases d1 with
  | lst dl =>
   cases ev
   obtain⟨a,xs,e,q1,w1⟩:=rr.lst
   subst e
   cases r1
   obtain⟨its,r',pl,hz⟩:=I1.list q1
   refine call_enumerate_list pl.isList λh' he hit hz' hk=>?_
   refine wpAny_pyIter_enum he ?_
   have I2:Inv X pins σ H1 { s1 with heap:=h' }:=I1.kept (t':=s1.toks) hk
   refine⟨s1.heap.objs.size+1,[s1.heap.objs.size+1,s1.heap.objs.size],_,Ite X.K a,H1,rfl,I2,turn_enum a _ _ (Nat.succ_ne_self _),⟨_,he,hit⟩,λb hb=>?_,k _ H1 _ _ s1' rr rv wk_enum⟩
   rcases List.mem_cons.mp hb with rfl | hb
   ·exact I1.fpOk (Nat.le_succ _) (I1.hok.fresh (Nat.le_succ _))
   ·have e':b=s1.heap.objs.size:=by simpa using hb
    subst e'
    exact I1.fpOk (Nat.le_refl _) (I1.hok.fresh (Nat.le_refl _))
  | tup dl =>
   cases ev
   obtain⟨a,xs,e,q1,w1⟩:=rr.tup
   subst e
   cases r1
   obtain⟨its,r',pl,hz⟩:=I1.tuple q1
   refine call_enum_tup pl λh' he hit hz' hk=>?_
   refine wpAny_pyIter_enum he ?_
   have I2:Inv X pins σ H1 { s1 with heap:=h' }:=I1.kept (t':=s1.toks) hk
   refine⟨s1.heap.objs.size+1,[s1.heap.objs.size+1,s1.heap.objs.size],_,IteT X.K a,H1,rfl,I2,turn_enumT a _ _ (Nat.succ_ne_self _),⟨_,he,hit⟩,λb hb=>?_,k _ H1 _ _ s1' rr rv wk_enumT⟩
   rcases List.mem_cons.mp hb with rfl | hb
   ·exact I1.fpOk (Nat.le_succ _) (I1.hok.fresh (Nat.le_succ _))
   ·have e':b=s1.heap.objs.size:=by simpa using hb
    subst e'
    exact I1.fpOk (Nat.le_refl _) (I1.hok.fresh (Nat.le_refl _))
  | non=>cases ev
  | bl _=>cases ev
  | int _=>cases ev
  | str _=>cases ev
  | dct _=>cases ev
  | tdc _=>cases ev
 cases rd with
 | true =>
  refine Call_ (ld_blt I hg hm PyProof.Rows.boot_enumerate (PyProof.Rows.callWith_type1 (thn (pa_cons (ha H₀ O₀) pa_nil (plain_star hp) pos pins s σ H (λvs H1=>∃v,vs=[v]∧Same H H1∧RR X.K H1 O d1 v) I ⟨O,own,e,d1,F,e1,λv H' s' r=>⟨v,rfl,s',r⟩⟩) λus s1 ⟨vs,H1,I1,r1,v,ev1,s1',rr⟩=>?_) (plain_star hp) rfl))
  subst ev1
  obtain⟨u,rfl,ru⟩:=vals1 r1
  exact main I1 ru s1' rr (λz=>by cases z)
 | false =>
  refine Call_ (ld_blt I hg hm PyProof.Rows.boot_enumerate (PyProof.Rows.callWith_type1 (thn (pa_cons (hv rfl H₀ O₀) pa_nil (plain_star hp) pos pins s σ H (λvs H1=>∃v,vs=[v]∧Same H H1∧RD X.K H1 O d1 v) I ⟨O,own,e,d1,F,e1,λv H' s' r _=>⟨v,rfl,s',r⟩⟩) λus s1 ⟨vs,H1,I1,r1,v,ev1,s1',rr⟩=>?_) (plain_star hp) rfl))
  subst ev1
  obtain⟨u,rfl,ru⟩:=vals1 r1
  exact main I1 ru s1' rr.rr (λ_=>rr)
end
section
variable {K:PySem.W.Frag} {H₀ H H':Hp} {O₀ O O':Addr→Prop} {own:Nat→Option Addr} {e:Nv} {σ:L2.St}
end
section
variable {T:Tab} {cf:Nat→List D→Res D} {X:Cx} {x y z:E} {p q r tg:Expr} {pos pos':Pos} {es:List Expr}
end
section
variable {T:Tab} {cf:Nat→List D→Res D} {X:Cx} {x y z:E} {p q r tg:Expr} {pos pos':Pos} {es:List Expr}
noncomputable def spM (K:PySem.W.Frag) (j:Nat) (F:List D→Res D) (fr:Bool):Sp:=λvs H Q E=>∃O ds Hb d0 v0,Same Hb H∧(∀a,O a→∃o,Hb a=some o)∧RDs K H O ds vs∧ds[j]?=some d0∧vs[j]?=some v0∧NV K H O d0 v0∧(∀a,v0=.ref a→Hb a=none) ∧
 ((∃d,F ds=.ok d∧∀v H',Same Hb H'→RD K H' O d v→(fr=true→NewR K Hb H' O d v)→Q v H')∨∃c d,F ds=.err c d∧∀od H',Same Hb H'→PayOk d od H'→E (cvK K c) od H')
noncomputable def spOf (K:PySem.W.Frag) (T:Tab) (F:List D→Res D) (i:Nat):Sp:=match T.mv i with
 | none=>spD K F (T.fresh i)
 | some j=>spM K j F (T.fresh i)
theorem spOf_none {K:PySem.W.Frag} {F:List D→Res D} {i:Nat} (h:T.mv i=none):spOf K T F i=spD K F (T.fresh i):=by unfold spOf;rw[h]
theorem spOf_some {K:PySem.W.Frag} {F:List D→Res D} {i j:Nat} (h:T.mv i=some j):spOf K T F i=spM K j F (T.fresh i):=by unfold spOf;rw[h]
noncomputable def DefAny (T:Tab) (cf:Nat→List D→Res D) (X:Cx) (f:Nat) (n:Str):Prop :=
 ∃k a fd ps,FnOk X.prog X.w X.K X.mg X.base (CXE X.prog X.w) k a fd ps (spOf X.K T (cf f) f)∧Room k X.A∧X.mg n=some (.ref a)∧PySem.W.keepIn X.K (.ref a)=true∧Binds X.K fd ps []
theorem getD_some {ds:List D} {j:Nat} (h:(ds.getD j .non).flatL=true):∃d,ds[j]?=some d∧d.flatL=true:=by
 rw[List.getD_eq_getElem?_getD] at h
 cases q:ds[j]? with
 | none=>rw[q] at h;cases h
 | some d=>rw[q] at h;exact⟨d,rfl,h⟩
end
theorem miss_keys:typeLookup (.type "list") "keys" = pure none:=am_miss_of_fast (by decide +kernel)
theorem keys_miss {prog:Program} {w:World} {A:Around} {E:Value→Shared→Prop} {s:Shared} {a:Addr} {o:Obj} {xs:Array Value} {k:Nat} {Q:Option Value→Shared→Prop}
 (hx:s.heap.get? a=some o) (hc:o.cls=.type "list") (hdat:o.data=.seq xs k) (hd:o.dict=none) (hA:A.handled=none)
 (h:∀h' tk e,Heap.NewExcOf s.heap h' e "AttributeError" → Q none { s with heap:=h',toks:=tk }) :
 wpAny (model prog w) A (getAttr? (.ref a) "keys") Q E s:=by
 obtain⟨c,dct,dat,sl⟩:=o
 simp only at hc hdat hd
 subst hc hdat hd
 obtain⟨hp,g,d,tk,os⟩:=s
 have hT:∀tk',(⟨hp,g,d,tk',os⟩:Shared).TypeIs (.ref a) "list" := λ_=>⟨_,hx,rfl⟩
 have f1:=sub_AttributeError
 have f3:=F.slot_list_getattribute.lookup
 have f4:=F.slot_list_getattribute.bind (.ref a)
 have f5:=am_list_getattr_none
 unfold getAttr? getAttrBy? getAttrBy
 repeat (any_goals (first | assumption | exact hT _ | ((with_reducible show wpAny _ _ (call (Value.builtin "list.__getattribute__") _ _) _ _ _);refine call_meets F.slot_list_getattribute (hT _) am_entry_list_getattribute (F.args_list_getattribute_2 _ _) (meets_getattribute_miss_list a xs k sl "keys" _ miss_keys (by decide +kernel) (by size_fits)) ⟨hx,hA,λh' tk' e hx'=>?_⟩) | wp_step))
 obtain⟨t',u',he⟩:=hx'.there
 show wpAny _ _ (getattributeRaised _ _ _ _ _ _ _) _ _ _
 unfold getattributeRaised
 repeat (any_goals (first | assumption | wp_step))
 exact h _ _ _ hx'.of
theorem entry_dul:entryFor table "dict.update.loop" = some Builtin.«dict.update.loop»:=entryFor_of_tree (by kernel_rfl)
theorem plain_dul:plainId "dict.update.loop" = true:=by decide +kernel
theorem storedH_mem {xs:List (List Key×Addr×Value)} {k:List Key} {b:Addr} {u:Value}:∀q∈storedH xs k b u,q.2.1=b∨∃p∈xs,p.2.1=q.2.1:=by
 intro q hq
 unfold storedH at hq
 split at hq
 ·obtain⟨p,hp,rfl⟩:=List.mem_map.mp hq
  refine .inr ⟨p,hp,?_⟩
  unfold putAt;split<;>rfl
 ·rcases List.mem_append.mp hq with h | h
  ·exact .inr ⟨q,h,rfl⟩
  ·rw[List.mem_singleton] at h;subst h;exact .inl rfl
theorem storedH_len {xs:List (List Key×Addr×Value)} {k:List Key} {b:Addr} {u:Value}:(storedH xs k b u).length≤xs.length+1:=by
 unfold storedH
 split
 ·rw[List.length_map];exact Nat.le_succ _
 ·rw[List.length_append];exact Nat.le_refl _
section
variable {prog:Program} {w:World}
theorem dictH_keeps {h h':Heap} {d:Addr} {xs:List (List Key×Addr×Value)} (hd:h.DictOfH (tupleKind (mixKind prog w)) d xs) (k0:∀o,h.get? d=some o→h'.get? d=some o) (k:∀q∈xs,∀o,h.get? q.2.1=some o→h'.get? q.2.1=some o):h'.DictOfH (tupleKind (mixKind prog w)) d xs:=by
 obtain⟨o,es,ep,ho,hc,hdt,he,his,hn⟩:=hd
 refine⟨o,es,ep,k0 o ho,hc,hdt,he,λq hq=>?_,hn⟩
 obtain⟨o',its,m,e1,e2⟩:=his q hq
 exact⟨o',its,m,k q hq _ e1,e2⟩
noncomputable def PairAt (prog:Program) (w:World) (h:Heap) (x:Addr) (q:List Key×Addr×Value):Prop :=
 (∃o n,h.get? x=some o∧o.cls=.type "tuple" ∧ o.data=.seq #[.ref q.2.1,q.2.2] n)∧(tupleKind (mixKind prog w)).is h q.1 q.2.1
theorem PairAt.keeps {h h':Heap} {x:Addr} {q:List Key×Addr×Value} (p:PairAt prog w h x q) (k0:∀o,h.get? x=some o→h'.get? x=some o) (k:∀o,h.get? q.2.1=some o→h'.get? q.2.1=some o):PairAt prog w h' x q:=by
 obtain⟨⟨o,n,e1,e2,e3⟩,o',its,m,e4,e5⟩:=p
 exact⟨⟨o,n,k0 _ e1,e2,e3⟩,o',its,m,k _ e4,e5⟩
variable {A:Around} {R:Result→Shared→Prop} {I:Addr} {fp wr:List Addr} {G:Array GenState→Array GenState→Prop} {n:Nat} {P:Nat→Value→Prop} {St:Nat→Shared→Prop}
theorem dict_loop (W:WalksS prog w A.in1 I fp wr G n P St) (d:Addr) (hdf:d∉fp) (val:Nat→List Key×Addr×Value) (hu:A.in1.units < cLine) :
 ∀(k i:Nat) (s:Shared) (xs:List (List Key×Addr×Value)),n - i=k→i≤n→St i s→xs.length+k≤sizeLine →
  (∀i v,i < n→P i v→∃x,v=.ref x∧(x≠d∧x∉wr)∧((val i).2.1≠d∧(val i).2.1∉wr)∧PairAt prog w s.heap x (val i)) →
  (∀q∈xs,q.2.1∉wr) →
  s.heap.DictOfH (tupleKind (mixKind prog w)) d xs →
  (∀s',Moved (d::wr) G s s'→s'.heap.DictOfH (tupleKind (mixKind prog w)) d ((List.range' i k).foldl (λxs j=>storedH xs (val j).1 (val j).2.1 (val j).2.2) xs)→R (.ok (.ret .none)) s') →
  codeAny (model prog w) A (.builtin "dict.update.loop" ⟨[.ref d,.ref I,rawInt (i:Nat),.none],[]⟩) R s:=by
 have hdw:d∉wr:=λh=>hdf (W.sub _ h)
 have hsub:∀b∈wr,b∈d::wr:=λb hb=>List.mem_cons_of_mem _ hb
 intro k
 induction k with
 | zero =>
  intro i s xs hk hi hst hz hT hx hD hR
  have hin:i=n:=by lia
  subst hin
  refine codeAny_builtin entry_dul ?_
  rw[Around.under_plainId plain_dul _]
  show wpAny _ A.in1 (pyNext (.ref I)>>=_) _ _ s
  refine wpAny_bind (W.done s _ _ hst λs' hm=>?_)
  show wpAny _ A.in1 (Builtin.Dict.addKeywords d []>>=_) _ _ s'
  exact wpAny_bind (wpAny_pure (wpAny_pure (hR s' (hm.mono hsub) (dictH_keeps hD (λo e=>hm.heap d o hdw e) λq hq o e=>hm.heap _ o (hx q hq) e))))
 | succ k ih =>
  intro i s xs hk hi hst hz hT hx hD hR
  have hlt:i < n:=by lia
  refine codeAny_builtin entry_dul ?_
  rw[Around.under_plainId plain_dul _]
  show wpAny _ A.in1 (pyNext (.ref I)>>=_) _ _ s
  refine wpAny_bind (W.item i s _ _ hlt hst λv s' hP hst' hm=>?_)
  have hT':∀i v,i < n→P i v→∃x,v=.ref x∧(x≠d∧x∉wr)∧((val i).2.1≠d∧(val i).2.1∉wr)∧PairAt prog w s'.heap x (val i):=λi v hi hv=>by
   obtain⟨x,e1,e2,e3,e4⟩:=hT i v hi hv
   exact⟨x,e1,e2,e3,e4.keeps (λo e=>hm.heap x o e2.2 e) λo e=>hm.heap _ o e3.2 e⟩
  obtain⟨x,rfl,hxd,hbd,⟨ox,nx,ex,cx,dx⟩,hkx⟩:=hT' i v hlt hP
  have hD':s'.heap.DictOfH (tupleKind (mixKind prog w)) d xs:=dictH_keeps hD (λo e=>hm.heap d o hdw e) λq hq o e=>hm.heap _ o (hx q hq) e
  show wpAny _ A.in1 (holding [.ref x] _>>=_) _ _ s'
  have tx:s'.TypeIs (.ref x) "tuple" := ⟨ox,ex,cx⟩
  refine wpAny_bind (wpAny_holding ?_)
  refine wpAny_bind (wpAny_tryCatch ?_)
  unfold Builtin.Dict.pairItems
  refine wpAny_bind (wpAny_typeOf tx ?_)
  rw[if_pos (by decide)]
  refine wpAny_bind (wpAny_seqItems ex dx (wpAny_pure ?_))
  show wpAny _ A.in1 (holding [.ref (val i).2.1,(val i).2.2] (dictSet d (.ref (val i).2.1) (val i).2.2)) _ _ s'
  refine wpAny_holding ?_
  refine wpAny_dictSet_heap (hsz:=by lia) hu hkx hD' λh' hD2 hsb=>?_
  show wpAny _ A.in1 (again (.builtin "dict.update.loop" ⟨[.ref d,.ref I,rawInt ((i:Int)+1),.none],[]⟩)) _ _ _
  refine wpAny_pure ⟨plainId_quiet plain_dul _,?_⟩
  have hsame:∀b o,b≠d→s'.heap.get? b=some o→h'.get? b=some o:=λb o hb e=>(hsb.2 b hb).trans e
  refine ih (i+1) _ (storedH xs (val i).1 (val i).2.1 (val i).2.2) (by lia) hlt (W.frame _ s' _ _ hst' (Nat.le_add_right _ _) λb hb o e=>?_) (by have:=storedH_len (xs:=xs) (k:=(val i).1) (b:=(val i).2.1) (u:=(val i).2.2);lia) (λi v hi hv=>?_) (λq hq=>?_) hD2 λs'' hm'' hD''=>?_
  ·exact hsame b o (λh:b=d=>hdf (by rw[←h];exact hb)) e
  ·obtain⟨x,e1,e2,e3,e4⟩:=hT' i v hi hv
   exact⟨x,e1,e2,e3,e4.keeps (λo e=>hsame x o e2.1 e) λo e=>hsame _ o e3.1 e⟩
  ·rcases storedH_mem q hq with e | ⟨p,hp,e⟩
   ·rw[e];exact hbd.2
   ·rw[←e];exact hx p hp
  ·refine hR s'' (Moved.trans W.gtrans ((hm.mono hsub).then_heap (Nat.le_add_right _ _) λb o hb e=>?_) hm'') ?_
   ·exact hsame b o (λh:b=d=>hb (by rw[h];exact List.mem_cons_self)) e
   ·rw[List.range'_succ,List.foldl_cons];exact hD''
end
section
variable {prog:Program} {w:World} {A:Around} {E:Value→Shared→Prop} {s:Shared}
theorem call_dict_pairs {l:Addr} {its:Array Value} {nl:Nat} {val:Nat→List Key×Addr×Value} {Q:Value→Shared→Prop} (hh:A.handled=none) (hu:A.units+8 < cLine)
 {ol:Obj} (hl:s.heap.get? l=some ol) (hlc:ol.cls=.type "list") (hld:ol.dict=none) (hls:ol.data=.seq its nl) (hz:its.size≤sizeLine) (hval:∀i v,its[i]?=some v→∃x,v=.ref x∧PairAt prog w s.heap x (val i))
 (h:∀(h':Heap) (tk:Nat),h'.DictOfH (tupleKind (mixKind prog w)) s.heap.objs.size ((List.range' 0 its.size).foldl (λxs j=>storedH xs (val j).1 (val j).2.1 (val j).2.2) []) →
  (∀b o,b < s.heap.objs.size→s.heap.get? b=some o→h'.get? b=some o)→Q (.ref s.heap.objs.size) { s with heap:=h',toks:=tk }) :
 wpAny (model prog w) A (call (.type "dict") [.ref l]) Q E s:=by
 refine callType_codes (Q₁:=λobj s₁=>obj=.ref s.heap.objs.size∧s₁={ s with heap:=s.heap.push { cls:=.type "dict", data:=.dict #[] } }) F.kt_called_dict (F.kt_typeCall_dict_1 _) F.entry_dict_init (kt_code_dict_new _ ⟨rfl,rfl⟩) ?_
 rintro obj s₁ ⟨rfl,rfl⟩
 have hnew:(s.heap.push { cls:=.type "dict", data:=.dict #[] }).DictOfH (tupleKind (mixKind prog w)) s.heap.objs.size []:=Heap.DictOfH.new s.heap
 have hty:({ s with heap:=s.heap.push { cls:=.type "dict", data:=.dict #[] } }:Shared).TypeIs (.ref s.heap.objs.size) "dict" := Heap.DictOfH.typeIs hnew
 refine⟨hty,F.args_dict_init_2 _ _,?_⟩
 generalize hpu:s.heap.push { cls:=.type "dict", data:=.dict #[] }=hp1 at *
 have hz1:hp1.objs.size=s.heap.objs.size+1:=by rw[←hpu];exact Heap.size_push ..
 have hold:∀b o,s.heap.get? b=some o→hp1.get? b=some o:=λb o e=>by rw[←hpu];exact Heap.get?_push_of_some _ e
 have hlS:l < s.heap.objs.size:=Heap.lt_size hl
 have hl1:=hold _ _ hl
 unfold Builtin.«dict.__init__»
 refine wpAny_bind ?_
 unfold Builtin.Dict.selfAndRest
 refine wpAny_bind (wpAny_notOrdered_dict hty ?_)
 show wpAny _ _ (pure (s.heap.objs.size,[Value.ref l])) _ _ _
 refine wpAny_pure ?_
 show wpAny _ _ (Builtin.Dict.updateFrom "dict.__init__" s.heap.objs.size (.ref l) [] .none) _ _ _
 unfold Builtin.Dict.updateFrom
 refine wpAny_bind (wpAny_typeOf (T := "list") ⟨_,hl1,hlc⟩ ?_)
 rw[if_pos (by decide)]
 have hh2:A.in1.in1.handled=none:=by simp[hh]
 refine wpAny_bind (keys_miss hl1 hlc hls hld hh2 λh2 tk2 e2 hx2=>?_)
 rw[if_pos (by rfl)]
 have hl2:h2.IsList l its:=⟨_,hx2.keeps _ _ hl1,hlc,nl,hls⟩
 have hD2:h2.DictOfH (tupleKind (mixKind prog w)) s.heap.objs.size []:=dictH_keeps hnew (λo e=>hx2.keeps _ _ e) λq hq=>by cases hq
 have hdz:s.heap.objs.size < h2.objs.size:=by
  obtain⟨o,_,_,ho,_⟩:=hD2
  exact Heap.lt_size ho
 refine wpAny_bind (wpAny_rule ?_)
 refine wpAny_bind (wpAny_pyIter_list hl2 ?_)
 refine wpAny_pure ⟨plainId_quiet plain_dul _,?_⟩
 have hh3:A.in1.in1.handled=none:=by simp[hh]
 have hu3:A.in1.in1.units < cLine:=by show A.units+1+1 < cLine;lia
 have hneI:l≠h2.objs.size:=Nat.ne_of_lt (Nat.lt_trans hlS hdz)
 refine dict_loop ((Walks.list hh3 _ l hneI its).toS) s.heap.objs.size (by simp only[List.mem_cons,List.mem_singleton,List.not_mem_nil,or_false,not_or];exact⟨Nat.ne_of_lt hdz,Nat.ne_of_gt hlS⟩) val hu3 its.size 0 _ [] (by lia) (Nat.zero_le _) ⟨⟨_,Heap.get?_push_size _ rfl,rfl,rfl⟩,(hl2.push _)⟩ (by simpa using hz) (λi v _ hv=>?_) (λq hq=>by cases hq) (dictH_keeps hD2 (λo e=>Heap.get?_push_of_some _ e) λq hq=>by cases hq) λs' hm hD'=>?_
 ·obtain⟨x,rfl,px⟩:=hval i v hv
  have hlx:x < s.heap.objs.size:=let ⟨⟨_,_,e,_⟩,_⟩:=px;Heap.lt_size e
  have hlb:(val i).2.1 < s.heap.objs.size:=let ⟨_,_,_,_,e,_⟩:=px;Heap.lt_size e
  refine⟨x,rfl,⟨Nat.ne_of_lt hlx,?_⟩,⟨Nat.ne_of_lt hlb,?_⟩,px.keeps (λo e=>Heap.get?_push_of_some _ (hx2.keeps _ _ (hold _ _ e))) λo e=>Heap.get?_push_of_some _ (hx2.keeps _ _ (hold _ _ e))⟩
  ·simp only[List.mem_cons,List.mem_singleton,List.not_mem_nil,or_false,not_or];exact Nat.ne_of_lt (Nat.lt_trans hlx hdz)
  ·simp only[List.mem_cons,List.mem_singleton,List.not_mem_nil,or_false,not_or];exact Nat.ne_of_lt (Nat.lt_trans hlb hdz)
 ·obtain⟨h',g',d',tk',os'⟩:=s'
  have eg:g'=s.gens:=hm.gens
  have ed:d'=s.drawn:=hm.drawn
  have eo:os'=s.os:=hm.os
  subst eg;subst ed;subst eo
  refine⟨rfl,h h' tk' hD' λb o hb e=>?_⟩
  exact hm.heap b o (by simp only[List.mem_cons,List.mem_singleton,List.not_mem_nil,or_false,not_or];exact⟨Nat.ne_of_lt hb,Nat.ne_of_lt (Nat.lt_trans hb hdz)⟩) (Heap.get?_push_of_some _ (hx2.keeps _ _ (hold _ _ e)))
end
noncomputable def PrsAt (K:PySem.W.Frag) (H:Hp):List Addr→List (List Key×V)→Prop
 | [],qs=>qs=[]
 | a::r,qs=>∃k b y q,qs=(k,y)::q∧SqT K H a [.ref b,y]∧H b=some (.tup (k.map kV))∧PrsAt K H r q
noncomputable def putAllT (qs:List (List Key×V)) (kvs:List (List Key×V)):List (List Key×V):=qs.foldl (λm q=>putK m q.1 q.2) kvs
theorem putK_len {kvs:List (List Key×V)} {k:List Key} {v:V}:(putK kvs k v).length≤kvs.length+1:=by
 unfold putK
 split
 ·rw[List.length_map];exact Nat.le_succ _
 ·rw[List.length_append];exact Nat.le_refl _
theorem putAllT_len:∀ {qs:List (List Key×V)} {kvs:List (List Key×V)},(putAllT qs kvs).length≤kvs.length+qs.length
 | [],kvs=>Nat.le_refl _
 | q::r,kvs=>by
  have h1:=putAllT_len (qs:=r) (kvs:=putK kvs q.1 q.2)
  have h2:=putK_len (kvs:=kvs) (k:=q.1) (v:=q.2)
  rw[List.length_cons]
  exact Nat.le_trans h1 (by lia)
theorem prs_vals {X:Cx} {pins:List (Addr×Obj)} {σ:L2.St} {H:Hp} {s:Shared} (I:Inv X pins σ H s):∀ {as:List Addr} {qs:List (List Key×V)},PrsAt X.K H as qs →
 ∃vs:List (List Key×Addr×Value),vs.length=as.length∧qs.length=as.length∧(∀(i:Nat) (a:Addr),as[i]?=some a→∃q,vs[i]?=some q∧PairAt X.prog X.w s.heap a q) ∧
  ∀ {kvs:List (List Key×V)} {xs:List (List Key×Addr×Value)},KT H kvs xs→KT H (putAllT qs kvs) (vs.foldl (λxs q=>storedH xs q.1 q.2.1 q.2.2) xs)
 | [],qs,h=>by
  cases h
  exact⟨[],rfl,rfl,λi a e=>by simp at e,λr=>r⟩
 | a::r,qs,h=>by
  obtain⟨k,b,y,q,rfl,ht,hb,hr⟩:=h
  obtain⟨vs,l1,l2,h1,h2⟩:=prs_vals I hr
  obtain⟨its,rv,⟨o,e,hc,n,d⟩,_⟩:=I.tuple ht
  cases rv with
  | cons r1 rv =>
   cases rv with
   | @cons _ u _ _ r2 rv =>
    cases rv
    cases (show _=Value.ref b from r1)
    refine⟨(k,b,u)::vs,by rw[List.length_cons,List.length_cons,l1],by rw[List.length_cons,List.length_cons,l2],λi a' e'=>?_,λrk=>?_⟩
    ·cases i with
     | zero =>
      cases e'
      exact⟨_,rfl,⟨o,n,e,hc,d⟩,key_of I.hok hb⟩
     | succ i=>exact h1 i a' e'
    ·exact h2 (rk.put k hb r2)
theorem foldl_getD {α β:Type} (f:β→α→β) (z:α) (vs:List α) (x:β):(List.range' 0 vs.length).foldl (λb j=>f b (vs.getD j z)) x=vs.foldl f x:=by
 have e:(List.range' 0 vs.length).map (λj=>vs.getD j z)=vs:=by
  rw[←List.range_eq_range']
  apply List.ext_getElem
  ·simp
  ·intro i h1 h2
   simp[h2]
 rw[←List.foldl_map (f:=λj=>vs.getD j z) (g:=f),e]
theorem call_dictP {X:Cx} (hc:X.calm=true) (hr:X.A.units+64 < cLine):CallR X (.type "dict") (λvs H Q=>∃a as qs,vs=[.ref a]∧SqL X.K H a (as.map V.ref)∧PrsAt X.K H as qs∧∀p o,H p=none→Q (.ref p) (upd H p (.frz o (.dT (putAllT qs []))))):=by
 intro pins s σ H vs us Q I rv h
 obtain⟨a,as,qs,rfl,hS,hP,q⟩:=h
 obtain⟨u,rfl,ru⟩:=rv.one
 cases ru
 obtain⟨its,r,⟨ol,nl,e1,e2,e3,e4⟩,hz⟩:=I.list hS
 have hits:=vals_refs r
 subst hits
 obtain⟨xs,l1,l2,h1,h2⟩:=prs_vals I hP
 rw[List.length_map] at hz
 refine call_dict_pairs (val:=λi=>xs.getD i ([],0,.none)) (I.ok.hd hc) (by lia) e1 e2 e3 e4 (by rw[List.size_toArray,List.length_map];exact hz) (λi v hv=>?_) λh' tk hD hkeep=>?_
 ·have hv':(as.map Value.ref)[i]?=some v:=by simpa using hv
  rw[List.getElem?_map] at hv'
  cases e:as[i]? with
  | none=>rw[e] at hv';cases hv'
  | some x =>
   rw[e] at hv'
   cases hv'
   obtain⟨q,g1,g2⟩:=h1 i x e
   exact⟨x,rfl,by show PairAt _ _ _ _ (xs.getD i ([],0,.none));rw[List.getD_eq_getElem?_getD,g1];exact g2⟩
 ·have fr:H s.heap.objs.size=none:=I.hok.fresh (Nat.le_refl _)
  rw[show (List.map Value.ref as).toArray.size=xs.length from by rw[List.size_toArray,List.length_map,l1],foldl_getD (λxs q=>storedH xs q.1 q.2.1 q.2.2) ([],0,.none) xs []] at hD
  obtain⟨ob,es,ep,g1,g2,g3,g4,_,g5⟩:=hD
  have I1:Inv X pins σ (upd H s.heap.objs.size (.dT (putAllT qs []))) { s with heap:=h',toks:=tk } :=
   I.laid (λb o e=>hkeep b o (Heap.lt_size e) e) (Nat.le_refl _) ⟨Nat.le_trans putAllT_len (by rw[l2,List.length_nil,Nat.zero_add];exact hz),beq_eq_false_iff_ne.mpr (Ne.symm (Nat.ne_of_lt I.big)),_,KT.keeps (h2 .nil) (λc ys ec=>by rw[upd_ne (ne_of_none ec fr)];exact ec),ob,es,ep,g1,g2,g3,g4,g5⟩
  obtain⟨o,_,_,_,I2⟩:=freezeT I1 upd_same
  rw[show L2.upd (L2.upd H s.heap.objs.size (.dT (putAllT qs []))) s.heap.objs.size (.frz o (.dT (putAllT qs [])))=L2.upd H s.heap.objs.size (.frz o (.dT (putAllT qs []))) from upd_upd] at I2
  exact⟨.ref s.heap.objs.size,_,I2,rfl,q _ o fr⟩
theorem RD.updD {K:PySem.W.Frag} {H:Hp} {O:Addr→Prop} {p:Addr} {ps:List (List Key×V)} {o':HO} (hp:H p=some (.dT ps)) {d:D} {v:V} (h:RD K H O d v):RD K (L2.upd H p o') O d v:=by
 have ne:∀ {a:Addr} {u:HO},H a=some u→u≠.dT ps→a≠p:=λx1 x2=>ne_of x1 hp x2
 refine RD.map (λa xs q=>?_) (λa xs n q=>⟨n,?_⟩) (λa o u q=>?_) h
 ·rcases q with q | q
  ·exact .inl (by rw[upd_ne (ne q (λz=>by cases z))];exact q)
  ·exact .inr q
 ·rcases q with q | ⟨o,q⟩
  ·exact .inl (by rw[upd_ne (ne q (λz=>by cases z))];exact q)
  ·exact .inr ⟨o,by rw[upd_ne (ne q (λz=>by cases z))];exact q⟩
 ·rw[upd_ne (ne q (λz=>by cases z))];exact q
noncomputable def DispOk (p:Addr) (Q:VK) (ps:List (V×V)) (H2:Hp):Prop:=H2 p=some (.dT [])∧∃b key y,ps=[(.ref b,y)]∧H2 b=some (.tup (key.map kV))∧∀o,Q (.ref p) (L2.upd H2 p (.frz o (.dT [(key,y)])))
noncomputable def tDisp1 (tk tv:TE):TE:=λσ H Q=>∀p,H p=none→tk σ (L2.upd H p (.dT [])) λx H1=>tv σ H1 λy H2=>DispOk p Q [(x,y)] H2
theorem pe_disp1 {X:Cx} {k v:Expr} {pos:Pos} {tk tv:TE} (hu:X.A.units+1 < cLine) (hk:PE X k tk) (hv:PE X v tv):PE X (.Dict [some k] [v] pos) (tDisp1 tk tv):=by
 intro pins s σ H Q I q
 have hn:=I.hok.fresh (Nat.le_refl s.heap.objs.size)
 have I1:=I.laid (a:=s.heap.objs.size) (o:=.dT []) (h':=s.heap.push { cls:=.type "dict", data:=.dict #[] }) (t':=s.toks) (λ_ _ q=>Heap.get?_push_of_some _ q) (Nat.le_refl _) (dt_empty s.heap I.big)
 refine wpAny_Dict_any rfl rfl (by simp) (by simp) (thn (pps_cons (pos:=pos) hk hv pps_nil pins _ σ _ (DispOk s.heap.objs.size Q) I1 (q _ hn)) λws s2 ⟨ps,H2,I2,rel,e,b,key,y,ep,eb,q2⟩=>?_)
 subst ep
 cases rel with
 | @cons _ w _ _ r1 rel =>
  cases rel
  obtain⟨u1,u2⟩:=w
  obtain⟨r1,r2⟩:=r1
  obtain rfl:u1=Value.ref b:=r1
  obtain⟨z,hd,xs,rel,dd⟩:=dt_of I2.hok e
  cases rel
  unfold storeAll
  rw[List.forIn_cons]
  refine wpAny_bind (wpAny_bind (wpAny_dictSet_heap (hsz:=Nat.zero_le _) (show X.A.units < cLine by lia) (key_of I2.hok eb) dd λh' dd' hs=>wpAny_pure ?_))
  dsimp only
  rw[List.forIn_nil]
  refine wpAny_pure ?_
  obtain⟨ob,es,ep,hq,h2,h3,h4,_,h5⟩:=dd'
  have I3:Inv X pins σ (L2.upd H2 s.heap.objs.size (.dT [(key,y)])) { s2 with heap:=h',toks:=s2.toks+(tupleKind (mixKind X.prog X.w)).draws key }:=d_write I2 (by rw[e];exact True.intro) hs ⟨ob,hq⟩ ⟨by show 1≤sizeLine;decide,hd,[(key,b,u2)],.cons ⟨rfl,by rw[upd_ne (ne_of eb e (λz=>nomatch z))];exact eb,r2⟩ .nil,ob,es,ep,hq,h2,h3,h4,h5⟩
  obtain⟨o,_,_,_,I4⟩:=freezeT I3 upd_same
  rw[show L2.upd (L2.upd H2 s.heap.objs.size (.dT [(key,y)])) s.heap.objs.size (.frz o (.dT [(key,y)]))=L2.upd H2 s.heap.objs.size (.frz o (.dT [(key,y)])) from upd_upd] at I4
  exact⟨.ref s.heap.objs.size,_,I4,rfl,q2 o⟩
section
variable {T:Tab} {cf:Nat→List D→Res D} {X:Cx} {x y z:E} {p q r tg:Expr} {pos pos':Pos} {es:List Expr}
theorem se_dlit (hR:Roomy X) (ha:SE T cf X x p) (hb:SE T cf X y q):SE T cf X (.dlit x y) (.Dict [some p] [q] pos):=λH₀ O₀=>by
 have hR':X.A.units+64 < cLine:=hR
 refine PE.imp (λσ H Q hq=>?_) (pe_disp1 (by lia) (ha H₀ O₀) (hb H₀ O₀))
 obtain⟨O,own,e,d,F,ev,k⟩:=hq
 (first | rw[xE_tup] at ev | rw[xE_dlit] at ev)
 obtain⟨d1,e1,ev⟩:=Res.bind_ok ev
 obtain⟨d2,e2,ev⟩:=Res.bind_ok ev
 intro a hn
 have s0:=same_upd hn (.dT [])
 refine⟨O,own,e,d1,F.grow s0,e1,λv1 H1 s1 r1 _=>⟨O,own,e,d2,(F.grow s0).grow s1,e2,λv2 H2 s2 r2 _=>?_⟩⟩
 cases d1 with
 | tup ks =>
  obtain⟨key,e3,ev⟩:=Res.bind_ok (show (Res.of (keysI ks)>>=_)=Res.ok d from ev)
  cases ev
  obtain⟨b,xs,rfl,tq,w1⟩:=r1
  have hb:=s2 _ _ (tup_key (of_ok e3) w1 tq)
  have h2:H2 a=some (.dT []):=s2 _ _ (s1 _ _ upd_same)
  refine⟨h2,b,key,v2,rfl,hb,λo=>?_⟩
  refine k _ _ (λc u hc=>?_) ⟨a,[(key,v2)],rfl,⟨o,upd_same⟩,v2,[],rfl,r2.updD h2,rfl⟩ (λz=>by cases z)
  rw[upd_ne (ne_of_none hc hn)]
  exact s2 _ _ (s1 _ _ (s0 _ _ hc))
 | _=>cases ev
theorem prs_rd {K:PySem.W.Frag} {H:Hp} {O:Addr→Prop}:∀ {ds:List D} {qs:List (List (Sum Int Str)×D)} {xs:List V},pairsR ds=.ok qs→RDs K H O ds xs→∃(as:List Addr) (ys:List (List Key×V)),xs=as.map V.ref∧PrsAt K H as ys∧RDt K H O qs ys
 | [],qs,xs,h,w=>by
  rw[pairsR] at h;cases h
  rw[RDs] at w;subst w
  exact⟨[],[],rfl,rfl,rfl⟩
 | d::r,qs,xs,h,w=>by
  unfold pairsR at h
  split at h
  ·rename_i e;cases e
  ·rename_i ks v r' e
   cases e
   obtain⟨key,e3,h⟩:=Res.bind_ok h
   obtain⟨q,e4,h⟩:=Res.bind_ok h
   cases h
   obtain⟨u,us,rfl,w1,w2⟩:=w
   obtain⟨as,ys,rfl,p1,p2⟩:=prs_rd e4 w2
   obtain⟨a,zs,rfl,tq,z1,zr,rfl,⟨b,xs',rfl,tb,wb⟩,z2,zs2,rfl,rv,e5⟩:=w1
   cases (show zs2=[] from e5)
   exact⟨a::as,(key,z2)::ys,rfl,⟨key,b,z2,ys,rfl,TupV.sq tq,tup_key (of_ok e3) wb tb,p1⟩,z2,ys,rfl,rv,p2⟩
  ·cases h
theorem rdt_putAll {K:PySem.W.Frag} {H:Hp} {O:Addr→Prop}:∀ {qs:List (List (Sum Int Str)×D)} {ys:List (List Key×V)} {ds:List (List (Sum Int Str)×D)} {ps:List (List Key×V)},RDt K H O qs ys→RDt K H O ds ps→RDt K H O (putAllD qs ds) (putAllT ys ps)
 | [],ys,ds,ps,h,w=>by rw[RDt] at h;subst h;exact w
 | (k,d)::qs,ys,ds,ps,h,w=>by
  obtain⟨v,r,rfl,h1,h2⟩:=h
  show RDt K H O (putAllD qs (putTD ds k d)) (putAllT r (putK ps k v))
  exact rdt_putAll h2 (rdt_put h1 w)
theorem se_dcl {pn:Pos} (hh:X.calm=true) (hR:Roomy X) (hm1:X.mg "dict" = none) (hg1:Gl X "dict") (hp:plainX p=true) (ha:SE T cf X x p):SE T cf X (.dcl x) (.Call (.Name "dict" pn) [p] [] pos):=λH₀ O₀=>by
 refine PE.imp (λσ H Q hq=>?_) (pe_callTy (call_dictP hh hR) hg1 hm1 (by decide +kernel) (pa_cons (ha H₀ O₀) pa_nil (plain_star hp)) (by decide) (by decide) (plain_star hp) rfl)
 obtain⟨O,own,e,d,F,ev,k⟩:=hq
 (first | rw[xE_dcl] at ev | rw[xE_lst] at ev)
 obtain⟨d1,e1,ev1⟩:=Res.bind_ok ev
 refine⟨O,own,e,d1,F,e1,λv1 H1 s1 r1 _=>?_⟩
 cases d1 with
 | lst ds =>
  obtain⟨qs,e2,ev2⟩:=Res.bind_ok (show (pairsR ds>>=_)=Res.ok d from ev1)
  cases ev2
  obtain⟨a,xs,rfl,q1,w1⟩:=(RD.rr r1).lst
  obtain⟨as,ys,rfl,p1,p2⟩:=prs_rd e2 w1
  refine⟨a,as,ys,rfl,q1,p1,λp o hn=>?_⟩
  have s2:=same_upd hn (.frz o (.dT (putAllT ys [])))
  exact k _ _ (s1.trans s2) ⟨p,_,rfl,⟨o,upd_same⟩,(rdt_putAll (ds:=[]) (ps:=[]) p2 rfl).same s2⟩ (λz=>by cases z)
 | _=>cases ev1
theorem rds_rng {K:PySem.W.Frag} {H:Hp} {O:Addr→Prop} (n:Nat):RDs K H O (rangeD 0 n) ((List.range n).map λi:Nat=>V.int (0+(i:Nat))):=rds_range 0 n
theorem se_trng {pn pm pos2:Pos} (hh:X.calm=true) (hm1:X.mg "tuple" = none) (hm2:X.mg "range" = none) (hg1:Gl X "tuple") (hg2:Gl X "range") (hp:plainX p=true) (ha:SE T cf X x p) :
 SE T cf X (.trng x) (.Call (.Name "tuple" pn) [.Call (.Name "range" pm) [p] [] pos2] [] pos):=λH₀ O₀=>by
 refine PE.imp (λσ H Q hq=>?_) (pe_callTy (call_tupX hh) hg1 hm1 (by decide +kernel) (pa_cons (pe_callTy call_rangeX hg2 hm2 (by decide +kernel) (pa_cons (ha H₀ O₀) pa_nil (plain_star hp)) (by decide) (by decide) (plain_star hp) rfl) pa_nil rfl) (by decide) (by decide) rfl rfl)
 obtain⟨O,own,e,d,F,ev,k⟩:=hq
 rw[xE_trng] at ev
 obtain⟨d1,e1,ev⟩:=Res.bind_ok ev
 refine⟨O,own,e,d1,F,e1,λv1 H1 s1 r1 _=>?_⟩
 cases d1 with
 | int n =>
  obtain⟨c,ev⟩:=when_ok (show when (small62 n&&decide (n≤1000)) _=Res.ok d from ev)
  cases ev
  cases (show v1=_ from r1)
  simp only[small62,Bool.and_eq_true,decide_eq_true_eq] at c
  refine⟨n,rfl,λp hpn=>⟨p,n,rfl,upd_same,c.1.1,c.1.2,c.2,λl hl=>?_⟩⟩
  have z:=new_tup (K:=X.K) (O:=O) (rds_rng n.toNat) hl
  exact k _ _ ((s1.trans (same_upd hpn _)).trans (same_upd hl _)) z λz=>by cases z
 | _=>cases ev
theorem se_getV {nm:Str} {apos cpos:Pos} (hR:Roomy X) (hnm:nm = "get") (hbase:baseX p=true) (hline:(apos.endLine==cpos.line)=true) (hp:plainX q=true) (ha:SE T cf X x p) (hb:SE T cf X y q) :
 SE T cf X (.getV x y) (.Call (.Attribute p nm apos) [q] [] cpos):=λH₀ O₀=>by
 subst hnm
 have hR':X.A.units+64 < cLine:=hR
 refine PE.imp (λσ H Q hq=>?_) (pe_dget1 (by lia) (ha H₀ O₀) (hb H₀ O₀) ⟨base_of hbase (by decide),by rw[plain_star hp];rfl,hline,by rw[plain_star hp];rfl⟩)
 obtain⟨O,own,e,d,F,ev,k⟩:=hq
 (first | rw[xE_tup] at ev | rw[xE_getV] at ev)
 obtain⟨d1,e1,ev⟩:=Res.bind_ok ev
 obtain⟨d2,e2,ev⟩:=Res.bind_ok ev
 refine⟨O,own,e,d1,F,e1,λv1 H1 s1 r1 _=>?_⟩
 cases d1 with
 | tdc kvs =>
  cases d2 with
  | tup ks =>
   obtain⟨key,e3,ev⟩:=Res.bind_ok (show (Res.of (keysI ks)>>=_)=Res.ok d from ev)
   cases ev
   obtain⟨a,ps,rfl,⟨o,hf⟩,w⟩:=r1
   refine⟨a,rfl,.inr ⟨ps,.inr ⟨o,hf⟩⟩,O,own,e,_,F.grow s1,e2,λv2 H2 s2 r2 _=>?_⟩
   obtain⟨b,xs,rfl,tq,w1⟩:=r2
   refine⟨valV ps key,.inr ⟨ps,key,b,.inr ⟨o,s2 _ _ hf⟩,rfl,tup_key (of_ok e3) w1 tq,rfl⟩,?_⟩
   have rv:=rdt_val (k:=key) (w.same s2)
   cases eV:valT kvs key with
   | some d' =>
    obtain⟨v',h1,h2⟩:=rv.1 d' eV
    rw[h1]
    exact k _ _ (s1.trans s2) (by rw[eV];exact h2) (λz=>by cases z)
   | none =>
    have h1:valV ps key=none:=by
     have:=rv.2
     rw[eV] at this
     cases hz:valV ps key with
     | none=>rfl
     | some _=>rw[hz] at this;cases this
    rw[h1]
    exact k _ _ (s1.trans s2) (by rw[eV];exact rfl) (λz=>by cases z)
  | _=>cases ev
 | _=>cases ev
theorem rdk_get {K:PySem.W.Frag} {H:Hp} {O:Addr→Prop}:∀ {kvs:List (Sum Int Str×D)} {ps:List (Key×V)} {i:Nat} {kv:Sum Int Str×D},RDk K H O kvs ps→kvs[i]?=some kv→∃q,ps[i]?=some q∧q.1=kv.1
 | [],_,_,_,_,e=>by simp at e
 | (k,d)::r,ps,i,kv,h,e=>by
  obtain⟨v,q,rfl,_,h2⟩:=h
  cases i with
  | zero=>cases e;exact⟨_,rfl,rfl⟩
  | succ i=>exact rdk_get (i:=i) h2 (by simpa using e)
theorem rdt_get {K:PySem.W.Frag} {H:Hp} {O:Addr→Prop}:∀ {kvs:List (List (Sum Int Str)×D)} {ps:List (List Key×V)} {i:Nat} {kv:List (Sum Int Str)×D},RDt K H O kvs ps→kvs[i]?=some kv→∃q,ps[i]?=some q∧q.1=kv.1
 | [],_,_,_,_,e=>by simp at e
 | (k,d)::r,ps,i,kv,h,e=>by
  obtain⟨v,q,rfl,_,h2⟩:=h
  cases i with
  | zero=>cases e;exact⟨_,rfl,rfl⟩
  | succ i=>exact rdt_get (i:=i) h2 (by simpa using e)
theorem rd_key {K:PySem.W.Frag} {H:Hp} {O:Addr→Prop} (k:Key):RD K H O (keyD k) (kV k):=by
 cases k with
 | inl i=>exact rfl
 | inr x=>exact rfl
theorem rds_keys {K:PySem.W.Frag} {H:Hp} {O:Addr→Prop}:∀(ks:List Key),RDs K H O (ks.map keyD) (ks.map kV)
 | []=>rfl
 | k::ks=>⟨_,_,rfl,rd_key k,rds_keys ks⟩
theorem wk_keysK {K:PySem.W.Frag} {a:Addr} {o:Obj} {kvs:List (Sum Int Str×D)} {ps:List (Key×V)} (hl:ps.length=kvs.length) (hk:∀(i:Nat) (kv:Sum Int Str×D),kvs[i]?=some kv→∃q:Key×V,ps[i]?=some q∧q.1=kv.1):Wk K (Itk a o kvs.length) [.fr a o (.dK ps)] (kvs.map λkv=>keyD kv.1):=by
 intro i H O r
 have h:H a=some (.frz o (.dK ps)):=r _ (List.mem_singleton.mpr rfl)
 rw[List.length_map]
 refine⟨λhi=>.inl ⟨ps,h,hl,hi⟩,λhi=>⟨.inl ⟨ps,h,hl⟩,hi⟩,λx H' d hd y=>?_⟩
 obtain⟨rfl,y⟩:=y
 refine⟨Same.refl _,?_⟩
 rw[List.getElem?_map] at hd
 cases hz:kvs[i]? with
 | none=>rw[hz] at hd;cases hd
 | some kv =>
  rw[hz] at hd
  cases hd
  obtain⟨q,h1,h2⟩:=hk i kv hz
  rcases y with ⟨ps',y1,y2,y3⟩ | ⟨ps',y1,_⟩
  ·rw[h] at y1
   cases y1
   rw[h1] at y3
   cases y3
   show RD K _ O (keyD kv.1) (kV q.1)
   rw[h2]
   exact rd_key _
  ·rw[h] at y1;cases y1
theorem wk_keysT {K:PySem.W.Frag} {a:Addr} {o:Obj} {kvs:List (List (Sum Int Str)×D)} {ps:List (List Key×V)} (hl:ps.length=kvs.length) (hk:∀(i:Nat) (kv:List (Sum Int Str)×D),kvs[i]?=some kv→∃q:List Key×V,ps[i]?=some q∧q.1=kv.1):Wk K (Itk a o kvs.length) [.fr a o (.dT ps)] (kvs.map λkv=>.tup (kv.1.map keyD)):=by
 intro i H O r
 have h:H a=some (.frz o (.dT ps)):=r _ (List.mem_singleton.mpr rfl)
 rw[List.length_map]
 refine⟨λhi=>.inr ⟨ps,h,hl,hi⟩,λhi=>⟨.inr ⟨ps,h,hl⟩,hi⟩,λx H' d hd y=>?_⟩
 obtain⟨rfl,y⟩:=y
 refine⟨Same.refl _,?_⟩
 rw[List.getElem?_map] at hd
 cases hz:kvs[i]? with
 | none=>rw[hz] at hd;cases hd
 | some kv =>
  rw[hz] at hd
  cases hd
  obtain⟨q,h1,h2⟩:=hk i kv hz
  rcases y with ⟨ps',y1,_⟩ | ⟨ps',y1,y2,y3⟩
  ·rw[h] at y1;cases y1
  ·rw[h] at y1
   cases y1
   rw[h1] at y3
   rcases y3 with ⟨z,_⟩ | ⟨q',b,z1,z2,z3⟩
   ·cases z
   ·cases z1
    cases z2
    rw[h2] at z3
    exact⟨b,_,rfl,.inl z3,rds_keys _⟩
theorem SI.up (h:SI T cf X tg x false p):SI T cf X tg x true p:=λH₀ O₀ pins s σ H R I q =>
 h H₀ O₀ pins s σ H R I (let ⟨O,own,e,ds,F,ev,k⟩:=q;⟨O,own,e,ds,F,ev,λJ H' srs s' r _ wk=>k J H' srs s' r (λz=>nomatch z) wk⟩)
theorem si_seqD (hv:SE T cf X x p):SI T cf X tg (.seqD x) false p:=by
 intro H₀ O₀ pins s σ H R I h
 obtain⟨O,own,e,ds,F,ev,k⟩:=h
 rw[xI_seqD] at ev
 obtain⟨d1,e1,ev⟩:=Res.bind_ok ev
 refine thn (hv H₀ O₀ pins s σ H (λv H1=>Same H H1∧RD X.K H1 O d1 v) I ⟨O,own,e,d1,F,e1,λv H' s' r _=>⟨s',r⟩⟩) λu s1 ⟨v,H1,I1,r1,s1',rr⟩=>?_
 have go:∀(a:Addr) (o:Obj) (n:Nat) (es:Array DictEntry) (ep:Nat) (pn:Pin),o.data=.dict es ep→RawD s1.heap a es ep→(a==sysModules)=false→es.size=n→PinOk X.K H1 O pn→Wk X.K (Itk a o n) [pn] ds→wpAny (model X.prog X.w) X.A (pyIter (.ref a)) (PIE X pins σ tg R) X.xe s1:=by
  intro a o n es ep pn hd rw' ns hn hp wk
  subst hn
  refine raw_iter ns rw' ?_
  refine⟨s1.heap.objs.size,[s1.heap.objs.size],_,Itk a o es.size,H1,rfl,I1.kept (t':=s1.toks) λb u e=>Heap.get?_push_of_some _ e,turn_keys hd a _ es.size rfl,⟨_,Heap.get?_push_size _ rfl,rfl,rfl⟩,λb hb=>?_,k _ H1 [pn] s1' (λt ht=>by rw[List.mem_singleton.mp ht];exact hp.rr) (λ_ t ht=>by rw[List.mem_singleton.mp ht];exact hp) wk⟩
  rcases List.mem_cons.mp hb with rfl | hb
  ·exact I1.fpOk (Nat.le_refl _) (I1.hok.fresh (Nat.le_refl _))
  ·cases hb
 cases d1 with
 | tdc kvs =>
  cases (show Res.ok _=Res.ok ds from ev)
  obtain⟨a,ps,rfl,⟨o,hf⟩,w⟩:=rr
  cases r1
  obtain⟨e1,e2,e3,xs,e4,o',es,ep,g1,g2,g3,g4⟩:=(show ObjOk X.prog X.w H1 s1.heap a (.frz o (.dT ps)) from I1.hok a _ hf)
  have eo:o'=o:=by rw[e1] at g1;cases g1;rfl
  subst eo
  obtain⟨x1,x2,x3,x4⟩:=raw_T I1 hf g3
  exact go a o' kvs.length es ep (.fr a o' (.dT ps)) g3 x1 x2 (by rw[x3,w.length]) hf (wk_keysT w.length λi kv=>rdt_get w)
 | dct kvs =>
  cases (show Res.ok _=Res.ok ds from ev)
  obtain⟨a,ps,rfl,⟨o,hf⟩,w⟩:=rr
  cases r1
  obtain⟨e1,e2,e3,xs,e4,o',es,ep,g1,g2,g3,g4⟩:=(show ObjOk X.prog X.w H1 s1.heap a (.frz o (.dK ps)) from I1.hok a _ hf)
  have eo:o'=o:=by rw[e1] at g1;cases g1;rfl
  subst eo
  obtain⟨x1,x2,x3,x4⟩:=raw_K I1 hf g3
  exact go a o' kvs.length es ep (.fr a o' (.dK ps)) g3 x1 x2 (by rw[x3,w.length]) hf (wk_keysK w.length λi kv=>rdk_get w)
 | _=>cases ev
theorem ss_dputV {i:Nat} {n:Str} {px tpos:Pos} (hR:Roomy X) (hN:X.N[i]?=some n) (hv:Vis X.env.scope n) (hd:(n==("__debug__" : Str))=false) (hc:(n==("__classdict__" : Str))=false) (hx:notComp p=true) (hk:SE T cf X y q) (h:SE T cf X x p) :
 SS T cf X (.dputV i y x) (.Assign [.Subscript (.Name n px) q tpos] p pos):=λH₀ O₀=>by
 have hR':X.A.units+64 < cLine:=hR
 refine PS.imp (λD' σ H hq=>?_) (ps_dput (by lia) (pe_var hN hv hd hc) (hk H₀ O₀) (h H₀ O₀) (swaps_no hx))
 obtain⟨ts,e,out,⟨O,own,F,tt⟩,ev,k⟩:=hq
 rw[xS_dputV] at ev
 obtain⟨d,e1,ev⟩:=Res.bind_ok ev
 obtain⟨l,e2,ev⟩:=Res.bind_ok ev
 obtain⟨dk,e3,ev⟩:=Res.bind_ok ev
 obtain⟨key,e4,ev⟩:=Res.bind_ok ev
 obtain⟨c,ev⟩:=when_ok ev
 cases ev
 refine⟨O,own,e,d,F,e1,λv H1 s1 r1 _=>?_⟩
 obtain⟨q1,xs1,g1,g2,g3,g4,g5⟩:=(F.grow s1).mutT i (Sl.ownT_ok e2)
 refine⟨.ref q1,st_get g1,O,own,e,dk,F.grow s1,e3,λv2 H2 s2 r2 _=>?_⟩
 have F2:=(F.grow s1).grow s2
 obtain⟨q2,xs2,f1,f2,f3,f4,f5⟩:=F2.mutT i (Sl.ownT_ok e2)
 have eq:q2=q1:=by rw[g1] at f1;cases f1;rfl
 subst eq
 cases dk with
 | tup ks =>
  obtain⟨b,xs,rfl,tq,w1⟩:=r2
  have hp3:=tup_key (of_ok (show Res.of (keysI ks)=.ok key from e4)) w1 tq
  refine⟨q2,_,rfl,DPut.t f2 hp3 (by rw[f3.length,←big_line];exact of_decide_eq_true c),?_⟩
  exact k _ _ ⟨O,own,f5 _ _ (rdt_put (r1.same s2) f3),λt ht=>(((tt t ht).same s1).same s2).updM f4 f2 trivial⟩
 | _=>cases e4
end
set_option genInjectivity false in
structure Txt where
 gn:List Str
 dn:List Str
 tf:List (Str×List Nat):=[]
 ts:List (Str×List Str):=[]
 cls:List Str:=[]
 icl:List Str:=[]
 dm:List (Nat×Str):=[]
noncomputable def nodupB {α:Type} [BEq α]:List α→Bool
 | []=>true
 | a::r=>!r.contains a&&nodupB r
theorem nodup_of {α:Type} [BEq α] [LawfulBEq α]:∀ {l:List α},nodupB l=true→l.Nodup
 | [],_=>List.nodup_nil
 | a::r,h=>by
  rw[nodupB,Bool.and_eq_true] at h
  refine List.nodup_cons.mpr ⟨λm=>?_,nodup_of h.2⟩
  have:r.contains a=true:=List.contains_iff_mem.mpr m
  rw[this] at h
  exact absurd h.1 (by simp)
noncomputable def isRd:E→Bool
 | .rd _=>true
 | _=>false
noncomputable def visB (sc:Scope) (n:Str):Bool:=(sc.names.lookup n==some .local)||(sc.names.lookup n==some .cell)||(sc.names.lookup n==some .free)
noncomputable def glB (sc:Scope) (n:Str):Bool:=sc.names.lookup n==some .globalImplicit
noncomputable def dbgB (n:Str):Bool:=!(n==("__debug__" : Str))&&!(n==("__classdict__" : Str))
noncomputable def nameB (N:List Str) (sc:Scope) (i:Nat) (n:Str):Bool:=(N[i]?==some n)&&visB sc n&&dbgB n
noncomputable def relS (scope sc:Scope):Scope:={ scope with names:=scope.names.map λ(n,k)=>if (k==.free&&sc.kind==.function&&sc.names.lookup n==some .cell) then (n,.cell) else (n,k) }
noncomputable def tgNames:Expr→List Str
 | .Name n _=>[n]
 | .Tuple es _ _=>es.filterMap λ| .Name n _=>some n | _=>none
 | _=>[]
noncomputable def mGs (loc:Bool) (N:List Str) (sc:Scope):List Nat→List Expr→Bool
 | [],[]=>true
 | i::is,.Name n _::es=>(N[i]?==some n)&&((sc.names.lookup n==some .local)||(!loc&&sc.names.lookup n==some .cell))&&mGs loc N sc is es
 | _,_=>false
noncomputable def mG (loc:Bool) (N:List Str) (sc:Scope):G→Expr→Bool
 | .one i,.Name n _=>(N[i]?==some n)&&((sc.names.lookup n==some .local)||(!loc&&sc.names.lookup n==some .cell))
 | .many is,.Tuple es _ _=>mGs loc N sc is es
 | _,_=>false
noncomputable def scB (sc scope:Scope):Bool:=(scope.kind==.function)&&scope.names.all (λx=>!(x.2==.cell))&&scope.names.all (λx=>!(x.2==.local)||(scope.names.lookup x.1==some .local)) &&
 scope.names.all (λx=>!(x.2==.free)||(!(scope.names.lookup x.1==some .local)&&((sc.names.lookup x.1==some .cell)||(sc.names.lookup x.1==some .free))))
noncomputable def capNames (N:List Str) (caps:List Nat):List Str:=caps.map λi=>(N[i]?).getD ""
noncomputable def capB (N:List Str) (scope:Scope) (caps:List Nat):Bool:=caps.all λi=>match N[i]? with | some n=>scope.names.contains (n,.free) | none=>false
noncomputable def isTrueC:E→Bool
 | .con (.bl true)=>true
 | _=>false
noncomputable def isOmit:E→Bool
 | .omit=>true
 | _=>false
noncomputable def isTupX:Expr→Bool
 | .Tuple _ _ _=>true
 | _=>false
section
variable (Tx:Txt)
mutual
noncomputable def mE:E→List Str→Scope→Expr→Bool
 | .var i,N,sc,.Name n _=>nameB N sc i n
 | .rd i,N,sc,.Name n _=>nameB N sc i n
 | .con d,_,_,.Constant c _ _=>cstIs d c
 | .glob g,_,sc,.Name n _=>(Tx.gn[g]?==some n)&&glB sc n&&dbgB n
 | .bin o a b,N,sc,.BinOp l o' r _=>(o==o')&&mE a N sc l&&mE b N sc r
 | .cmp o a b,N,sc,.Compare l [o'] [r] _=>(o==o')&&mE a N sc l&&mE b N sc r
 | .neg a,N,sc,.UnaryOp .USub l _=>mE a N sc l
 | .and a b,N,sc,.BoolOp .And [l,r] _=>!isRd a&&!isRd b&&mE a N sc l&&mE b N sc r
 | .and a b,N,sc,.BoolOp .And (l::r::r'::rest) pos=>!isRd a&&!isRd b&&mE a N sc l&&mE b N sc (.BoolOp .And (r::r'::rest) pos)
 | .or a b,N,sc,.BoolOp .Or [l,r] _=>!isRd a&&!isRd b&&mE a N sc l&&mE b N sc r
 | .or a b,N,sc,.BoolOp .Or (l::r::r'::rest) pos=>!isRd a&&!isRd b&&mE a N sc l&&mE b N sc (.BoolOp .Or (r::r'::rest) pos)
 | .not a,N,sc,.UnaryOp .Not l _=>mE a N sc l
 | .ife c a b,N,sc,.IfExp l m r _=>!isRd a&&!isRd b&&mE c N sc l&&mE a N sc m&&mE b N sc r
 | .ix a b,N,sc,.Subscript l r _=>mE a N sc l&&mE b N sc r
 | .sl a lo hi,N,sc,.Subscript l (.Slice p q none _) _=>mE a N sc l&&(match p with | none=>isOmit lo | some p'=>!isRd lo&&mE lo N sc p')&&(match q with | none=>isOmit hi | some q'=>!isRd hi&&mE hi N sc q')
 | .tup a,N,sc,.Tuple es _ _=>mA a false N sc es
 | .lst a,N,sc,.List es _=>mA a false N sc es
 | .call f a,N,sc,.Call (.Name n _) es [] _=>(Tx.dn[f]?==some n)&&glB sc n&&dbgB n&&mA a false N sc es
 | .dlit a b,N,sc,.Dict [some k] [v] _=>!isRd a&&!isRd b&&mE a N sc k&&mE b N sc v
 | .trng a,N,sc,.Call (.Name n _) [.Call (.Name m _) [q] [] _] [] _=>(n == "tuple")&&(m == "range")&&glB sc n&&glB sc m&&!isRd a&&mE a N sc q
 | .getV a b,N,sc,.Call (.Attribute o nm apos) [q] [] cpos=>(nm == "get")&&baseX o&&(apos.endLine==cpos.line)&&!isRd a&&!isRd b&&mE a N sc o&&mE b N sc q
 | .dcl a,N,sc,.Call (.Name n _) [q] [] _=>(n == "dict")&&glB sc n&&!isRd a&&mE a N sc q
 | .bt b a,N,sc,.Call (.Name n _) (e::es) [] _=>b.use&&(n==b.nm)&&glB sc n&&mA a true N sc (e::es)
 | .lset a,N,sc,.Call (.Name n _) [.Call (.Name m _) [q] [] _] [] _=>(n == "len")&&(m == "set")&&glB sc n&&glB sc m&&mE a N sc q
 | .lrng a,N,sc,.Call (.Name n _) [.Call (.Name m _) [q] [] _] [] _=>(n == "list")&&(m == "range")&&glB sc n&&glB sc m&&!isRd a&&mE a N sc q
 | .isi a t,N,sc,.Call (.Name n _) [l,.Name m _] [] _=>(n == "isinstance")&&(m==Str.ofString t.nm)&&glB sc n&&glB sc m&&mE a N sc l
 | .comp own caps g elt src cond,N,sc,.ListComp pe [⟨tg,iter,ifs,isa⟩] scope _ =>
  (isa==0)&&scB sc scope&&capB N scope caps&&nodupB caps&&nodupB (tgNames tg++capNames N caps)&&(own==(tgNames tg).length)&&g.below own&&mG true (tgNames tg++capNames N caps) (relS scope sc) g tg &&
  mI src true N sc tg iter&&!isRd elt&&mE elt (tgNames tg++capNames N caps) (relS scope sc) pe &&
  (match ifs with
   | []=>isTrueC cond
   | [c]=>mE cond (tgNames tg++capNames N caps) (relS scope sc) c
   | _=>false)
 | _,_,_,_=>false
termination_by structural x=>x
noncomputable def mA:E→Bool→List Str→Scope→List Expr→Bool
 | .anil,_,_,_,[]=>true
 | .acons a r,rd,N,sc,p::ps=>(rd||!isRd a)&&mE a N sc p&&mA r rd N sc ps
 | _,_,_,_,_=>false
termination_by structural x=>x
noncomputable def mI:E→Bool→List Str→Scope→Expr→Expr→Bool
 | .seq a,rd,N,sc,_,p=>(rd||!isRd a)&&mE a N sc p
 | .rng a,_,N,sc,_,.Call (.Name n _) [p] [] _=>(n == "range")&&glB sc n&&!isRd a&&mE a N sc p
 | .rng2 a b,_,N,sc,_,.Call (.Name n _) [p,q] [] _=>(n == "range")&&glB sc n&&!isRd a&&!isRd b&&mE a N sc p&&mE b N sc q
 | .enum a,rd,N,sc,tg,.Call (.Name n _) [p] [] _=>(n == "enumerate")&&glB sc n&&isTupX tg&&(rd||!isRd a)&&mE a N sc p
 | .seqD a,_,N,sc,_,p=>!isRd a&&mE a N sc p
 | _,_,_,_,_,_=>false
termination_by structural x=>x
end
end
section
variable {Tx:Txt} {N:List Str} {sc:Scope} {p tg:Expr}
theorem nof {P:Prop} (h:false=true):P:=absurd h Bool.false_ne_true
theorem and2 {a b:Bool} (h:(a&&b)=true):a=true∧b=true:=by rw[Bool.and_eq_true] at h;exact h
theorem not1 {a:Bool} (h:(!a)=true):a=false:=by rw[Bool.not_eq_true'] at h;exact h
theorem beq1 {α:Type} [BEq α] [LawfulBEq α] {a b:α} (h:(a==b)=true):a=b:=eq_of_beq h
theorem i_var {i:Nat} (h:mE Tx (.var i) N sc p=true):∃n pos,p=.Name n pos∧nameB N sc i n=true:=by
 cases p<;>first | exact nof h | exact⟨_,_,rfl,h⟩
theorem i_rd {i:Nat} (h:mE Tx (.rd i) N sc p=true):∃n pos,p=.Name n pos∧nameB N sc i n=true:=by
 cases p<;>first | exact nof h | exact⟨_,_,rfl,h⟩
theorem i_con {d:D} (h:mE Tx (.con d) N sc p=true):∃c k pos,p=.Constant c k pos∧cstIs d c=true:=by
 cases p<;>first | exact nof h | exact⟨_,_,_,rfl,h⟩
theorem i_glob {g:Nat} (h:mE Tx (.glob g) N sc p=true):∃n pos,p=.Name n pos∧(Tx.gn[g]?==some n&&glB sc n&&dbgB n)=true:=by
 cases p<;>first | exact nof h | exact⟨_,_,rfl,h⟩
theorem i_bin {o:Operator} {a b:E} (h:mE Tx (.bin o a b) N sc p=true):∃l r pos,p=.BinOp l o r pos∧mE Tx a N sc l=true∧mE Tx b N sc r=true:=by
 cases p with
 | BinOp l o' r pos =>
  have h:=and2 (show ((o==o')&&mE Tx a N sc l&&mE Tx b N sc r)=true from h)
  have h1:=and2 h.1
  have e:o=o':=beq1 h1.1
  subst e
  exact⟨l,r,pos,rfl,h1.2,h.2⟩
 | _=>exact nof h
theorem i_cmp {o:CmpOp} {a b:E} (h:mE Tx (.cmp o a b) N sc p=true):∃l r pos,p=.Compare l [o] [r] pos∧mE Tx a N sc l=true∧mE Tx b N sc r=true:=by
 cases p with
 | Compare l os rs pos =>
  rcases os with _ | ⟨o',_ | ⟨o'',os⟩⟩
  ·exact nof h
  ·rcases rs with _ | ⟨r,_ | ⟨r',rs⟩⟩
   ·exact nof h
   ·have h:=and2 (show ((o==o')&&mE Tx a N sc l&&mE Tx b N sc r)=true from h)
    have h1:=and2 h.1
    have e:o=o':=beq1 h1.1
    subst e
    exact⟨l,r,pos,rfl,h1.2,h.2⟩
   ·exact nof h
  ·exact nof h
 | _=>exact nof h
theorem i_neg {a:E} (h:mE Tx (.neg a) N sc p=true):∃l pos,p=.UnaryOp .USub l pos∧mE Tx a N sc l=true:=by
 cases p with
 | UnaryOp op l pos=>cases op<;>first | exact nof h | exact⟨_,_,rfl,h⟩
 | _=>exact nof h
theorem i_dlit {a b:E} (h:mE Tx (.dlit a b) N sc p=true):∃k v pos,p=.Dict [some k] [v] pos∧(!isRd a&&!isRd b&&mE Tx a N sc k&&mE Tx b N sc v)=true:=by
 cases p with
 | Dict ks vs pos =>
  rcases ks with _ | ⟨k,_ | ⟨k',ks⟩⟩
  ·exact nof h
  ·cases k with
   | none=>exact nof h
   | some k =>
    rcases vs with _ | ⟨v,_ | ⟨v',vs⟩⟩
    ·exact nof h
    ·exact⟨k,v,pos,rfl,h⟩
    ·exact nof h
  ·cases k<;>exact nof h
 | _=>exact nof h
theorem i_getV {a b:E} (h:mE Tx (.getV a b) N sc p=true):∃o nm apos q cpos,p=.Call (.Attribute o nm apos) [q] [] cpos∧((nm == "get")&&baseX o&&(apos.endLine==cpos.line)&&!isRd a&&!isRd b&&mE Tx a N sc o&&mE Tx b N sc q)=true:=by
 cases p with
 | Call fn es ks pos =>
  cases fn with
  | Attribute o nm apos =>
   rcases es with _ | ⟨q,_ | ⟨q',es⟩⟩
   ·exact nof h
   ·cases ks with
    | nil=>exact⟨o,nm,apos,q,pos,rfl,h⟩
    | cons _ _=>exact nof h
   ·exact nof h
  | _=>exact nof h
 | _=>exact nof h
theorem i_and {a b:E} (h:mE Tx (.and a b) N sc p=true):∃l r rest pos,p=.BoolOp .And (l::r::rest) pos∧isRd a=false∧isRd b=false∧mE Tx a N sc l=true∧((rest=[]∧mE Tx b N sc r=true)∨(∃r' rs,rest=r'::rs∧mE Tx b N sc (.BoolOp .And (r::rest) pos)=true)):=by
 cases p with
 | BoolOp op vs pos =>
  cases op with
  | Or=>exact nof h
  | And =>
   rcases vs with _ | ⟨l,_ | ⟨r,_ | ⟨r',rest⟩⟩⟩
   ·exact nof h
   ·exact nof h
   ·have h:=and2 (show (!isRd a&&!isRd b&&mE Tx a N sc l&&mE Tx b N sc r)=true from h)
    have h1:=and2 h.1
    have h2:=and2 h1.1
    exact⟨l,r,[],pos,rfl,not1 h2.1,not1 h2.2,h1.2,.inl ⟨rfl,h.2⟩⟩
   ·have h:=and2 (show (!isRd a&&!isRd b&&mE Tx a N sc l&&mE Tx b N sc (.BoolOp .And (r::r'::rest) pos))=true from h)
    have h1:=and2 h.1
    have h2:=and2 h1.1
    exact⟨l,r,r'::rest,pos,rfl,not1 h2.1,not1 h2.2,h1.2,.inr ⟨r',rest,rfl,h.2⟩⟩
 | _=>exact nof h
theorem i_or {a b:E} (h:mE Tx (.or a b) N sc p=true):∃l r rest pos,p=.BoolOp .Or (l::r::rest) pos∧isRd a=false∧isRd b=false∧mE Tx a N sc l=true∧((rest=[]∧mE Tx b N sc r=true)∨(∃r' rs,rest=r'::rs∧mE Tx b N sc (.BoolOp .Or (r::rest) pos)=true)):=by
 cases p with
 | BoolOp op vs pos =>
  cases op with
  | And=>exact nof h
  | Or =>
   rcases vs with _ | ⟨l,_ | ⟨r,_ | ⟨r',rest⟩⟩⟩
   ·exact nof h
   ·exact nof h
   ·have h:=and2 (show (!isRd a&&!isRd b&&mE Tx a N sc l&&mE Tx b N sc r)=true from h)
    have h1:=and2 h.1
    have h2:=and2 h1.1
    exact⟨l,r,[],pos,rfl,not1 h2.1,not1 h2.2,h1.2,.inl ⟨rfl,h.2⟩⟩
   ·have h:=and2 (show (!isRd a&&!isRd b&&mE Tx a N sc l&&mE Tx b N sc (.BoolOp .Or (r::r'::rest) pos))=true from h)
    have h1:=and2 h.1
    have h2:=and2 h1.1
    exact⟨l,r,r'::rest,pos,rfl,not1 h2.1,not1 h2.2,h1.2,.inr ⟨r',rest,rfl,h.2⟩⟩
 | _=>exact nof h
theorem i_not {a:E} (h:mE Tx (.not a) N sc p=true):∃l pos,p=.UnaryOp .Not l pos∧mE Tx a N sc l=true:=by
 cases p with
 | UnaryOp op l pos=>cases op<;>first | exact nof h | exact⟨_,_,rfl,h⟩
 | _=>exact nof h
theorem i_ife {c a b:E} (h:mE Tx (.ife c a b) N sc p=true):∃l m r pos,p=.IfExp l m r pos∧isRd a=false∧isRd b=false∧mE Tx c N sc l=true∧mE Tx a N sc m=true∧mE Tx b N sc r=true:=by
 cases p with
 | IfExp l m r pos =>
  have h:=and2 (show (!isRd a&&!isRd b&&mE Tx c N sc l&&mE Tx a N sc m&&mE Tx b N sc r)=true from h)
  have h1:=and2 h.1
  have h2:=and2 h1.1
  have h3:=and2 h2.1
  exact⟨l,m,r,pos,rfl,not1 h3.1,not1 h3.2,h2.2,h1.2,h.2⟩
 | _=>exact nof h
theorem i_ix {a b:E} (h:mE Tx (.ix a b) N sc p=true):∃l r pos,p=.Subscript l r pos∧mE Tx a N sc l=true∧mE Tx b N sc r=true:=by
 cases p with
 | Subscript l r pos =>
  have h:=and2 (show (mE Tx a N sc l&&mE Tx b N sc r)=true from h)
  exact⟨l,r,pos,rfl,h.1,h.2⟩
 | _=>exact nof h
theorem i_sl {a lo hi:E} (h:mE Tx (.sl a lo hi) N sc p=true):∃l pl ph pos pos',p=.Subscript l (.Slice pl ph none pos') pos∧mE Tx a N sc l=true∧((pl=none∧isOmit lo=true)∨∃q,pl=some q∧isRd lo=false∧mE Tx lo N sc q=true)∧((ph=none∧isOmit hi=true)∨∃q,ph=some q∧isRd hi=false∧mE Tx hi N sc q=true):=by
 cases p with
 | Subscript l r pos =>
  cases r with
  | Slice pl ph st pos' =>
   cases st with
   | some _=>exact nof h
   | none =>
    refine⟨l,pl,ph,pos,pos',rfl,?_⟩
    cases pl with
    | none =>
     cases ph with
     | none =>
      have h:=and2 (show (mE Tx a N sc l&&isOmit lo&&isOmit hi)=true from h)
      exact⟨(and2 h.1).1,.inl ⟨rfl,(and2 h.1).2⟩,.inl ⟨rfl,h.2⟩⟩
     | some q =>
      have h:=and2 (show (mE Tx a N sc l&&isOmit lo&&(!isRd hi&&mE Tx hi N sc q))=true from h)
      exact⟨(and2 h.1).1,.inl ⟨rfl,(and2 h.1).2⟩,.inr ⟨q,rfl,not1 (and2 h.2).1,(and2 h.2).2⟩⟩
    | some q0 =>
     cases ph with
     | none =>
      have h:=and2 (show (mE Tx a N sc l&&(!isRd lo&&mE Tx lo N sc q0)&&isOmit hi)=true from h)
      exact⟨(and2 h.1).1,.inr ⟨q0,rfl,not1 (and2 (and2 h.1).2).1,(and2 (and2 h.1).2).2⟩,.inl ⟨rfl,h.2⟩⟩
     | some q =>
      have h:=and2 (show (mE Tx a N sc l&&(!isRd lo&&mE Tx lo N sc q0)&&(!isRd hi&&mE Tx hi N sc q))=true from h)
      exact⟨(and2 h.1).1,.inr ⟨q0,rfl,not1 (and2 (and2 h.1).2).1,(and2 (and2 h.1).2).2⟩,.inr ⟨q,rfl,not1 (and2 h.2).1,(and2 h.2).2⟩⟩
  | _=>exact nof h
 | _=>exact nof h
theorem i_tup {a:E} (h:mE Tx (.tup a) N sc p=true):∃es k pos,p=.Tuple es k pos∧mA Tx a false N sc es=true:=by
 cases p<;>first | exact nof h | exact⟨_,_,_,rfl,h⟩
theorem i_lst {a:E} (h:mE Tx (.lst a) N sc p=true):∃es pos,p=.List es pos∧mA Tx a false N sc es=true:=by
 cases p<;>first | exact nof h | exact⟨_,_,rfl,h⟩
theorem i_call {f:Nat} {a:E} (h:mE Tx (.call f a) N sc p=true):∃n pn es pos,p=.Call (.Name n pn) es [] pos∧(Tx.dn[f]?==some n&&glB sc n&&dbgB n&&mA Tx a false N sc es)=true:=by
 cases p with
 | Call fn es ks pos =>
  cases fn with
  | Name n pn=>cases ks with
   | nil=>exact⟨n,pn,es,pos,rfl,h⟩
   | cons _ _=>exact nof h
  | _=>exact nof h
 | _=>exact nof h
theorem i_dcl {a:E} (h:mE Tx (.dcl a) N sc p=true):∃n pn q pos,p=.Call (.Name n pn) [q] [] pos∧((n == "dict")&&glB sc n&&!isRd a&&mE Tx a N sc q)=true:=by
 cases p with
 | Call fn es ks pos =>
  cases fn with
  | Name n pn =>
   rcases es with _ | ⟨q,_ | ⟨q',es⟩⟩
   ·exact nof h
   ·cases ks with
    | nil=>exact⟨n,pn,q,pos,rfl,h⟩
    | cons _ _=>exact nof h
   ·exact nof h
  | _=>exact nof h
 | _=>exact nof h
theorem i_bt {b:Bt} {a:E} (h:mE Tx (.bt b a) N sc p=true):∃n pn e es pos,p=.Call (.Name n pn) (e::es) [] pos∧(b.use&&(n==b.nm)&&glB sc n&&mA Tx a true N sc (e::es))=true:=by
 cases p with
 | Call fn es ks pos =>
  cases fn with
  | Name n pn=>cases es with
   | nil=>exact nof h
   | cons e es=>cases ks with
    | nil=>exact⟨n,pn,e,es,pos,rfl,h⟩
    | cons _ _=>exact nof h
  | _=>exact nof h
 | _=>exact nof h
theorem i_lset {a:E} (h:mE Tx (.lset a) N sc p=true):∃n pn m pm q pos2 pos,p=.Call (.Name n pn) [.Call (.Name m pm) [q] [] pos2] [] pos∧((n == "len")&&(m == "set")&&glB sc n&&glB sc m&&mE Tx a N sc q)=true:=by
 cases p with
 | Call fn es ks pos =>
  cases fn with
  | Name n pn =>
   rcases es with _ | ⟨c,_ | ⟨c',es⟩⟩
   ·exact nof h
   ·cases c with
    | Call f2 es2 ks2 pos2=>cases f2 with
     | Name m pm =>
      rcases es2 with _ | ⟨q,_ | ⟨q',es2⟩⟩
      ·exact nof h
      ·cases ks2 with
       | nil=>cases ks with
        | nil=>exact⟨n,pn,m,pm,q,pos2,pos,rfl,h⟩
        | cons _ _=>exact nof h
       | cons _ _=>exact nof h
      ·exact nof h
     | _=>exact nof h
    | _=>exact nof h
   ·exfalso
    cases c with
    | Call f2 es2 ks2 pos2 =>
     cases f2<;>first | exact nof h | (rcases es2 with _ | ⟨q,_ | ⟨q',es2⟩⟩<;>first | exact nof h | (cases ks2<;>exact nof h))
    | _=>exact nof h
  | _=>exact nof h
 | _=>exact nof h
theorem i_lrng {a:E} (h:mE Tx (.lrng a) N sc p=true):∃n pn m pm q pos2 pos,p=.Call (.Name n pn) [.Call (.Name m pm) [q] [] pos2] [] pos∧((n == "list")&&(m == "range")&&glB sc n&&glB sc m&&!isRd a&&mE Tx a N sc q)=true:=by
 cases p with
 | Call fn es ks pos =>
  cases fn with
  | Name n pn =>
   rcases es with _ | ⟨c,_ | ⟨c',es⟩⟩
   ·exact nof h
   ·cases c with
    | Call f2 es2 ks2 pos2=>cases f2 with
     | Name m pm =>
      rcases es2 with _ | ⟨q,_ | ⟨q',es2⟩⟩
      ·exact nof h
      ·cases ks2 with
       | nil=>cases ks with
        | nil=>exact⟨n,pn,m,pm,q,pos2,pos,rfl,h⟩
        | cons _ _=>exact nof h
       | cons _ _=>exact nof h
      ·exact nof h
     | _=>exact nof h
    | _=>exact nof h
   ·exfalso
    cases c with
    | Call f2 es2 ks2 pos2 =>
     cases f2<;>first | exact nof h | (rcases es2 with _ | ⟨q,_ | ⟨q',es2⟩⟩<;>first | exact nof h | (cases ks2<;>exact nof h))
    | _=>exact nof h
  | _=>exact nof h
 | _=>exact nof h
theorem i_trng {a:E} (h:mE Tx (.trng a) N sc p=true):∃n pn m pm q pos2 pos,p=.Call (.Name n pn) [.Call (.Name m pm) [q] [] pos2] [] pos∧((n == "tuple")&&(m == "range")&&glB sc n&&glB sc m&&!isRd a&&mE Tx a N sc q)=true:=by
 cases p with
 | Call fn es ks pos =>
  cases fn with
  | Name n pn =>
   rcases es with _ | ⟨c,_ | ⟨c',es⟩⟩
   ·exact nof h
   ·cases c with
    | Call f2 es2 ks2 pos2=>cases f2 with
     | Name m pm =>
      rcases es2 with _ | ⟨q,_ | ⟨q',es2⟩⟩
      ·exact nof h
      ·cases ks2 with
       | nil=>cases ks with
        | nil=>exact⟨n,pn,m,pm,q,pos2,pos,rfl,h⟩
        | cons _ _=>exact nof h
       | cons _ _=>exact nof h
      ·exact nof h
     | _=>exact nof h
    | _=>exact nof h
   ·exfalso
    cases c with
    | Call f2 es2 ks2 pos2 =>
     cases f2<;>first | exact nof h | (rcases es2 with _ | ⟨q,_ | ⟨q',es2⟩⟩<;>first | exact nof h | (cases ks2<;>exact nof h))
    | _=>exact nof h
  | _=>exact nof h
 | _=>exact nof h
theorem i_isi {a:E} {t:Ty} (h:mE Tx (.isi a t) N sc p=true):∃n pn l m pm pos,p=.Call (.Name n pn) [l,.Name m pm] [] pos∧((n == "isinstance")&&(m==Str.ofString t.nm)&&glB sc n&&glB sc m&&mE Tx a N sc l)=true:=by
 cases p with
 | Call fn es ks pos =>
  cases fn with
  | Name n pn =>
   rcases es with _ | ⟨l,_ | ⟨m,_ | ⟨m',es⟩⟩⟩
   ·exact nof h
   ·exact nof h
   ·cases m with
    | Name m pm=>cases ks with
     | nil=>exact⟨n,pn,l,m,pm,pos,rfl,h⟩
     | cons _ _=>exact nof h
    | _=>exact nof h
   ·cases m<;>exact nof h
  | _=>exact nof h
 | _=>exact nof h
end
noncomputable def bltNames:List Str:=["len", "sum", "tuple", "list", "int", "str", "isinstance", "range", "enumerate", "bool", "abs", "min", "max", "all", "any", "set", "zip", "sorted", "dict"]
set_option genInjectivity false in
structure OkX (T:Tab) (cf:Nat→List D→Res D) (Tx:Txt) (X:Cx):Prop where
 calm:X.calm=true
 roomy:Roomy X
 defs:∀f n,Tx.dn[f]?=some n→DefIs T cf X f n
 globs:∀g n,Tx.gn[g]?=some n→GlobIs X n (T.glob g)
 blt:∀n∈bltNames,X.mg n=none
 nd:X.N.Nodup
 tf:∀q∈Tx.tf,TabF T cf X q.1 q.2
 ts:∀q∈Tx.ts,TabS X q.1 q.2
 dm:∀q∈Tx.dm,DefAny T cf X q.1 q.2
section
variable {T:Tab} {cf:Nat→List D→Res D} {Tx:Txt} {X:Cx}
theorem name_of {i:Nat} {n:Str} {N:List Str} {sc:Scope} (h:nameB N sc i n=true):N[i]?=some n∧Vis sc n∧(n==("__debug__" : Str))=false∧(n==("__classdict__" : Str))=false:=by
 simp only[nameB,visB,dbgB,Bool.and_eq_true,Bool.or_eq_true,Bool.not_eq_true',beq_iff_eq] at h
 refine⟨h.1.1,?_,h.2.1,h.2.2⟩
 rcases h.1.2 with (z | z) | z
 ·exact .inl z
 ·exact .inr (.inl z)
 ·exact .inr (.inr z)
theorem gl_of {n:Str} (h:glB X.env.scope n=true):Gl X n:=by
 have h':X.env.scope.names.lookup n=some .globalImplicit:=by simpa[glB] using h
 exact h'
noncomputable def isBoolX:Expr→Bool
 | .BoolOp _ _ _=>true
 | _=>false
theorem dbg_of {n:Str} (h:dbgB n=true):(n==("__debug__" : Str))=false:=by
 simp only[dbgB,Bool.and_eq_true,Bool.not_eq_true'] at h
 exact h.1
theorem sgs_of {loc:Bool} (hN:X.N.Nodup) (hf:∀n,loc=false→X.fn n=true):∀ {is:List Nat} {es:List Expr},mGs loc X.N X.env.scope is es=true→SGs X is es∧names1 es=true∧es.length=is.length
 | [],[],_=>⟨sgs_nil,rfl,rfl⟩
 | [],_::_,h=>by exact nof h
 | _::_,[],h=>by exact nof h
 | i::is,e::es,h=>by
  cases e with
  | Name n pos =>
   simp only[mGs,Bool.and_eq_true,Bool.or_eq_true,beq_iff_eq,Bool.not_eq_true'] at h
   obtain⟨⟨h1,h2⟩,h3⟩:=h
   obtain⟨a1,a2,a3⟩:=sgs_of hN hf h3
   refine⟨sgs_cons hN h1 ?_ ?_ a1,a2,by rw[List.length_cons,List.length_cons,a3]⟩
   ·rcases h2 with z | z
    ·exact .inl z
    ·exact .inr z.2
   ·rcases h2 with z | z
    ·exact .inr z
    ·exact .inl (hf n z.1)
  | _=>exact nof h
theorem sg_of {loc:Bool} {g:G} {tg:Expr} (hc:X.calm=true) (hN:X.N.Nodup) (hf:∀n,loc=false→X.fn n=true) (h:mG loc X.N X.env.scope g tg=true):SG X g tg∧plainX tg=true:=by
 cases g with
 | one i =>
  cases tg with
  | Name n pos =>
   simp only[mG,Bool.and_eq_true,Bool.or_eq_true,beq_iff_eq,Bool.not_eq_true'] at h
   refine⟨sg_one hN h.1 ?_ ?_,rfl⟩
   ·rcases h.2 with z | z
    ·exact .inl z
    ·exact .inr z.2
   ·rcases h.2 with z | z
    ·exact .inr z
    ·exact .inl (hf n z.1)
  | _=>exact nof h
 | many is =>
  cases tg with
  | Tuple es k pos =>
   obtain⟨a1,a2,a3⟩:=sgs_of hN hf h
   exact⟨sg_many hc a2 a3 a1,rfl⟩
  | _=>exact nof h
noncomputable def PEx (T:Tab) (cf:Nat→List D→Res D) (Tx:Txt) (x:E):Prop:=∀X p,OkX T cf Tx X→mE Tx x X.N X.env.scope p=true→SR T cf X x p∧(isRd x=false→SE T cf X x p)∧ST T cf X x p∧plainX p=true∧(isBoolX p=true→SW T cf X x p)
noncomputable def PAx (T:Tab) (cf:Nat→List D→Res D) (Tx:Txt) (x:E):Prop:=∀X rd ps,OkX T cf Tx X→mA Tx x rd X.N X.env.scope ps=true→SAr T cf X x ps∧(rd=false→SAv T cf X x ps)∧ps.all plainX=true
noncomputable def PIx (T:Tab) (cf:Nat→List D→Res D) (Tx:Txt) (x:E):Prop:=∀X rd tg p,OkX T cf Tx X→mI Tx x rd X.N X.env.scope tg p=true→SI T cf X tg x rd p∧plainX p=true
theorem noA {x:E} (h:∀rd N sc ps,mA Tx x rd N sc ps=false):PAx T cf Tx x:=λX rd ps _ m=>by rw[h] at m;cases m
theorem noI {x:E} (h:∀rd N sc tg p,mI Tx x rd N sc tg p=false):PIx T cf Tx x:=λX rd tg p _ m=>by rw[h] at m;cases m
theorem noE {x:E} (h:∀N sc p,mE Tx x N sc p=false):PEx T cf Tx x:=λX p _ m=>by rw[h] at m;cases m
theorem of_se {x:E} {p:Expr} (h:SE T cf X x p) (he:∀whole,isTrue p X.env whole=(do let v ←whole;standAt p.pos;holding [v] (truthy v))) (hp:plainX p=true) (hb:isBoolX p=false:=by rfl):SR T cf X x p∧(isRd x=false→SE T cf X x p)∧ST T cf X x p∧plainX p=true∧(isBoolX p=true→SW T cf X x p) :=
 ⟨h.sr,λ_=>h,st_gen h.sr he,hp,λz=>by rw[hb] at z;cases z⟩
theorem okC (ok:OkX T cf Tx X) {scope:Scope} {C:Addr} {Nc:List Str} {s2:Shared} {H2:Hp} {fp:List Addr} (h:Nc.Nodup):OkX T cf Tx (cxC X scope C Nc s2 H2 fp) :=
 ⟨ok.calm,ok.roomy,ok.defs,ok.globs,ok.blt,h,ok.tf,ok.ts,ok.dm⟩
theorem scC_of {scope:Scope} (h:scB X.env.scope scope=true):ScopeC X scope:=by
 simp only[scB,Bool.and_eq_true,List.all_eq_true,Bool.or_eq_true,Bool.not_eq_true',beq_iff_eq,beq_eq_false_iff_ne,ne_eq] at h
 obtain⟨⟨⟨h1,h2⟩,h3⟩,h4⟩:=h
 refine⟨h1,h2,λx hx e=>?_,λx hx e=>?_,λx hx e=>?_⟩
 ·rcases h3 x hx with z | z
  ·exact absurd e z
  ·exact z
 ·rcases h4 x hx with z | z
  ·exact absurd e z
  ·exact z.1
 ·rcases h4 x hx with z | z
  ·exact absurd e z
  ·exact z.2
theorem capsOk {scope:Scope} {caps:List Nat} {own:Nat} {tn:List Str} (h:capB X.N scope caps=true) (hn:nodupB caps=true) (ho:own=tn.length):CapsOk X scope own caps (tn++capNames X.N caps):=by
 refine⟨by rw[List.length_append,ho,capNames,List.length_map],nodup_of hn,λj i hj=>?_⟩
 simp only[capB,List.all_eq_true] at h
 have:=h i (List.mem_of_getElem? hj)
 cases e:X.N[i]? with
 | none=>rw[e] at this;cases this
 | some n =>
  rw[e] at this
  refine⟨n,rfl,?_,by simpa using this⟩
  rw[ho,List.getElem?_append_right (by lia),show tn.length+j - tn.length=j by lia,capNames,List.getElem?_map,hj]
  simp[e]
theorem i_rng {a:E} {rd:Bool} {N:List Str} {sc:Scope} {tg p:Expr} (h:mI Tx (.rng a) rd N sc tg p=true):∃n pn q pos,p=.Call (.Name n pn) [q] [] pos∧((n == "range")&&glB sc n&&!isRd a&&mE Tx a N sc q)=true:=by
 cases p with
 | Call fn es ks pos =>
  cases fn with
  | Name n pn =>
   rcases es with _ | ⟨q,_ | ⟨q',es⟩⟩
   ·exact nof h
   ·cases ks with
    | nil=>exact⟨n,pn,q,pos,rfl,h⟩
    | cons _ _=>exact nof h
   ·exact nof h
  | _=>exact nof h
 | _=>exact nof h
theorem i_rng2 {a b:E} {rd:Bool} {N:List Str} {sc:Scope} {tg p:Expr} (h:mI Tx (.rng2 a b) rd N sc tg p=true):∃n pn q r pos,p=.Call (.Name n pn) [q,r] [] pos∧((n == "range")&&glB sc n&&!isRd a&&!isRd b&&mE Tx a N sc q&&mE Tx b N sc r)=true:=by
 cases p with
 | Call fn es ks pos =>
  cases fn with
  | Name n pn =>
   rcases es with _ | ⟨q,_ | ⟨r,_ | ⟨q',es⟩⟩⟩
   ·exact nof h
   ·exact nof h
   ·cases ks with
    | nil=>exact⟨n,pn,q,r,pos,rfl,h⟩
    | cons _ _=>exact nof h
   ·exact nof h
  | _=>exact nof h
 | _=>exact nof h
theorem i_enum {a:E} {rd:Bool} {N:List Str} {sc:Scope} {tg p:Expr} (h:mI Tx (.enum a) rd N sc tg p=true):∃n pn q pos,p=.Call (.Name n pn) [q] [] pos∧((n == "enumerate")&&glB sc n&&isTupX tg&&(rd||!isRd a)&&mE Tx a N sc q)=true:=by
 cases p with
 | Call fn es ks pos =>
  cases fn with
  | Name n pn =>
   rcases es with _ | ⟨q,_ | ⟨q',es⟩⟩
   ·exact nof h
   ·cases ks with
    | nil=>exact⟨n,pn,q,pos,rfl,h⟩
    | cons _ _=>exact nof h
   ·exact nof h
  | _=>exact nof h
 | _=>exact nof h
theorem i_comp {own:Nat} {caps:List Nat} {g:G} {elt src cond:E} {N:List Str} {sc:Scope} {p:Expr} (h:mE Tx (.comp own caps g elt src cond) N sc p=true):∃pe tg iter ifs scope pos,p=.ListComp pe [⟨tg,iter,ifs,0⟩] scope pos ∧
 scB sc scope=true∧capB N scope caps=true∧nodupB caps=true∧nodupB (tgNames tg++capNames N caps)=true∧own=(tgNames tg).length∧g.below own=true∧mG true (tgNames tg++capNames N caps) (relS scope sc) g tg=true ∧
 mI Tx src true N sc tg iter=true∧isRd elt=false∧mE Tx elt (tgNames tg++capNames N caps) (relS scope sc) pe=true ∧
 ((ifs=[]∧isTrueC cond=true)∨∃c,ifs=[c]∧mE Tx cond (tgNames tg++capNames N caps) (relS scope sc) c=true):=by
 cases p with
 | ListComp pe gens scope pos =>
  rcases gens with _ | ⟨⟨tg,iter,ifs,isa⟩,_ | ⟨g2,gens⟩⟩
  ·exact nof h
  ·change (_&&_)=true at h;simp only[Bool.and_eq_true,Bool.not_eq_true',beq_iff_eq] at h
   obtain⟨⟨⟨⟨⟨⟨⟨⟨⟨⟨⟨a1,a2⟩,a3⟩,a4⟩,a5⟩,a6⟩,a7⟩,a8⟩,a9⟩,a10⟩,a11⟩,a12⟩:=h
   subst a1
   refine⟨pe,tg,iter,ifs,scope,pos,rfl,a2,a3,a4,a5,a6,a7,a8,a9,a10,a11,?_⟩
   rcases ifs with _ | ⟨c,_ | ⟨c',ifs⟩⟩
   ·exact .inl ⟨rfl,a12⟩
   ·exact .inr ⟨c,rfl,a12⟩
   ·cases a12
  ·exact nof h
 | _=>exact nof h
theorem comp_parts {own:Nat} {caps:List Nat} {g:G} {elt src cond:E} {pe tg iter:Expr} {ifs:List Expr} {scope:Scope} (ok:OkX T cf Tx X) (ie:PEx T cf Tx elt) (is:PIx T cf Tx src) (ic:PEx T cf Tx cond)
 (a2:scB X.env.scope scope=true) (a3:capB X.N scope caps=true) (a4:nodupB caps=true) (a5:nodupB (tgNames tg++capNames X.N caps)=true) (a6:own=(tgNames tg).length) (a8:mG true (tgNames tg++capNames X.N caps) (relS scope X.env.scope) g tg=true)
 (a9:mI Tx src true X.N X.env.scope tg iter=true) (a10:isRd elt=false) (a11:mE Tx elt (tgNames tg++capNames X.N caps) (relS scope X.env.scope) pe=true)
 (a12:(ifs=[]∧isTrueC cond=true)∨∃c,ifs=[c]∧mE Tx cond (tgNames tg++capNames X.N caps) (relS scope X.env.scope) c=true) :
 ScopeC X scope∧CapsOk X scope own caps (tgNames tg++capNames X.N caps)∧plainX iter=true∧SI T cf X tg src true iter ∧
 ∀C s2 H2 fp,(cxC X scope C (tgNames tg++capNames X.N caps) s2 H2 fp).Ok→SG (cxC X scope C (tgNames tg++capNames X.N caps) s2 H2 fp) g tg∧SE T cf (cxC X scope C (tgNames tg++capNames X.N caps) s2 H2 fp) elt pe∧testsIs ifs cond (ST T cf (cxC X scope C (tgNames tg++capNames X.N caps) s2 H2 fp) cond):=by
 obtain⟨s1,s2⟩:=is X true tg iter ok a9
 refine⟨scC_of a2,capsOk a3 a4 a6,s2,s1,λC s2 H2 fp _=>?_⟩
 have okc:OkX T cf Tx (cxC X scope C (tgNames tg++capNames X.N caps) s2 H2 fp):=okC ok (nodup_of a5)
 refine⟨(sg_of (X:=cxC X scope C (tgNames tg++capNames X.N caps) s2 H2 fp) ok.calm okc.nd (λn z=>by cases z) a8).1,(ie _ _ okc a11).2.1 a10,?_⟩
 rcases a12 with ⟨z1,z2⟩ | ⟨c,z1,z2⟩
 ·refine .inl ⟨z1,?_⟩
  unfold isTrueC at z2
  split at z2
  ·rfl
  ·cases z2
 ·exact .inr ⟨c,z1,(ic _ _ okc z2).2.2.1⟩
theorem wholeE:∀x:E,PEx T cf Tx x∧PAx T cf Tx x∧PIx T cf Tx x:=by
 intro x
 induction x with
 | var i =>
  refine⟨λX p ok h=>?_,noA λrd N sc ps=>rfl,noI λrd N sc tg p=>rfl⟩
  obtain⟨n,pos,rfl,hn⟩:=i_var h
  obtain⟨a1,a2,a3,a4⟩:=name_of hn
  exact of_se (se_var a1 a2 a3 a4) (λ_=>rfl) rfl
 | rd i =>
  refine⟨λX p ok h=>?_,noA λrd N sc ps=>rfl,noI λrd N sc tg p=>rfl⟩
  obtain⟨n,pos,rfl,hn⟩:=i_rd h
  obtain⟨a1,a2,a3,a4⟩:=name_of hn
  exact⟨sr_rd a1 a2 a3 a4,(λz=>by cases z),st_gen (sr_rd a1 a2 a3 a4) (λ_=>rfl),rfl,λz=>by cases z⟩
 | con d =>
  refine⟨λX p ok h=>?_,noA λrd N sc ps=>rfl,noI λrd N sc tg p=>rfl⟩
  obtain⟨c,k,pos,rfl,hn⟩:=i_con h
  exact of_se (se_con hn) (λ_=>rfl) rfl
 | glob g =>
  refine⟨λX p ok h=>?_,noA λrd N sc ps=>rfl,noI λrd N sc tg p=>rfl⟩
  obtain⟨n,pos,rfl,hn⟩:=i_glob h
  simp only[Bool.and_eq_true,beq_iff_eq] at hn
  exact of_se (se_glob (gl_of hn.1.2) (ok.globs g n hn.1.1) (dbg_of hn.2)) (λ_=>rfl) rfl
 | bin o a b iha ihb =>
  refine⟨λX p ok h=>?_,noA λrd N sc ps=>rfl,noI λrd N sc tg p=>rfl⟩
  obtain⟨l,r,pos,rfl,h1,h2⟩:=i_bin h
  exact of_se (se_bin (iha.1 X l ok h1).1 (ihb.1 X r ok h2).1) (λ_=>rfl) rfl
 | cmp o a b iha ihb =>
  refine⟨λX p ok h=>?_,noA λrd N sc ps=>rfl,noI λrd N sc tg p=>rfl⟩
  obtain⟨l,r,pos,rfl,h1,h2⟩:=i_cmp h
  have hb:=ihb.1 X r ok h2
  have se:=se_cmp (o:=o) (pos:=pos) ok.roomy hb.2.2.2.1 (iha.1 X l ok h1).1 hb.1
  exact⟨se.sr,λ_=>se,st_cmp ok.roomy hb.2.2.2.1 (iha.1 X l ok h1).1 hb.1,rfl,λz=>by cases z⟩
 | dlit a b iha ihb =>
  refine⟨λX p ok h=>?_,noA λrd N sc ps=>rfl,noI λrd N sc tg p=>rfl⟩
  obtain⟨k,v,pos,rfl,hn⟩:=i_dlit h
  simp only[Bool.and_eq_true,Bool.not_eq_true'] at hn
  exact of_se (se_dlit ok.roomy ((iha.1 X k ok hn.1.2).2.1 hn.1.1.1) ((ihb.1 X v ok hn.2).2.1 hn.1.1.2)) (λ_=>rfl) rfl
 | getV a b iha ihb =>
  refine⟨λX p ok h=>?_,noA λrd N sc ps=>rfl,noI λrd N sc tg p=>rfl⟩
  obtain⟨o,nm,apos,q,cpos,rfl,hn⟩:=i_getV h
  simp only[Bool.and_eq_true,Bool.not_eq_true'] at hn
  obtain⟨⟨⟨⟨⟨⟨h1,h2⟩,h3⟩,h4⟩,h5⟩,h6⟩,h7⟩:=hn
  obtain⟨_,b2,_,b4,_⟩:=ihb.1 X q ok h7
  exact of_se (se_getV ok.roomy (eq_of_beq h1) h2 h3 b4 ((iha.1 X o ok h6).2.1 h4) (b2 h5)) (λ_=>rfl) rfl
 | trng a iha =>
  refine⟨λX p ok h=>?_,noA λrd N sc ps=>rfl,noI λrd N sc tg p=>rfl⟩
  obtain⟨n,pn,m,pm,q,pos2,pos,rfl,hn⟩:=i_trng h
  simp only[Bool.and_eq_true,Bool.not_eq_true'] at hn
  obtain⟨⟨⟨⟨⟨h1,h2⟩,h3⟩,h4⟩,h0⟩,h5⟩:=hn
  obtain⟨_,a2,_,a4,_⟩:=iha.1 X q ok h5
  cases eq_of_beq h1
  cases eq_of_beq h2
  exact of_se (se_trng ok.calm (ok.blt _ (by decide)) (ok.blt _ (by decide)) (gl_of h3) (gl_of h4) a4 (a2 h0)) (λ_=>rfl) rfl
 | seqD a iha =>
  refine⟨noE λN sc p=>rfl,noA λrd N sc ps=>rfl,λX rd tg p ok h=>?_⟩
  change (_&&_)=true at h;simp only[Bool.and_eq_true,Bool.not_eq_true'] at h
  obtain⟨a1,a2,_,a4,_⟩:=iha.1 X p ok h.2
  cases rd with
  | true=>exact⟨(si_seqD (a2 h.1)).up,a4⟩
  | false=>exact⟨si_seqD (a2 h.1),a4⟩
 | and a b iha ihb =>
  refine⟨λX p ok h=>?_,noA λrd N sc ps=>rfl,noI λrd N sc tg p=>rfl⟩
  obtain⟨l,r,rest,pos,rfl,ra,rb,h1,h2⟩:=i_and h
  obtain⟨_,sa,ta,_⟩:=iha.1 X l ok h1
  have sb:SE T cf X b (.BoolOp .And (r::rest) pos)∧SW T cf X b (.BoolOp .And (r::rest) pos):=by
   rcases h2 with ⟨rfl,h2⟩ | ⟨r',rs,rfl,h2⟩
   ·obtain⟨_,b1,b2,_⟩:=ihb.1 X r ok h2
    exact⟨se_one (b1 rb),sw_and1 b2⟩
   ·obtain⟨_,b1,b2,_,b5⟩:=ihb.1 X _ ok h2
    exact⟨b1 rb,b5 rfl⟩
  exact⟨(se_and (sa ra) sb.1).sr,λ_=>se_and (sa ra) sb.1,(sw_and ta sb.2).st,rfl,λ_=>sw_and ta sb.2⟩
 | or a b iha ihb =>
  refine⟨λX p ok h=>?_,noA λrd N sc ps=>rfl,noI λrd N sc tg p=>rfl⟩
  obtain⟨l,r,rest,pos,rfl,ra,rb,h1,h2⟩:=i_or h
  obtain⟨_,sa,ta,_⟩:=iha.1 X l ok h1
  have sb:SE T cf X b (.BoolOp .Or (r::rest) pos)∧SW T cf X b (.BoolOp .Or (r::rest) pos):=by
   rcases h2 with ⟨rfl,h2⟩ | ⟨r',rs,rfl,h2⟩
   ·obtain⟨_,b1,b2,_⟩:=ihb.1 X r ok h2
    exact⟨se_one (b1 rb),sw_or1 b2⟩
   ·obtain⟨_,b1,b2,_,b5⟩:=ihb.1 X _ ok h2
    exact⟨b1 rb,b5 rfl⟩
  exact⟨(se_or (sa ra) sb.1).sr,λ_=>se_or (sa ra) sb.1,(sw_or ta sb.2).st,rfl,λ_=>sw_or ta sb.2⟩
 | not a iha =>
  refine⟨λX p ok h=>?_,noA λrd N sc ps=>rfl,noI λrd N sc tg p=>rfl⟩
  obtain⟨l,pos,rfl,h1⟩:=i_not h
  obtain⟨a1,_,a3,_,_⟩:=iha.1 X l ok h1
  exact⟨(se_not a3 a1).sr,λ_=>se_not a3 a1,st_not a3,rfl,λz=>by cases z⟩
 | neg a iha =>
  refine⟨λX p ok h=>?_,noA λrd N sc ps=>rfl,noI λrd N sc tg p=>rfl⟩
  obtain⟨l,pos,rfl,h1⟩:=i_neg h
  exact of_se (se_neg (iha.1 X l ok h1).1) (λ_=>rfl) rfl
 | ife c a b ihc iha ihb =>
  refine⟨λX p ok h=>?_,noA λrd N sc ps=>rfl,noI λrd N sc tg p=>rfl⟩
  obtain⟨l,m,r,pos,rfl,ra,rb,h1,h2,h3⟩:=i_ife h
  have se:=se_ife (pos:=pos) (ihc.1 X l ok h1).2.2.1 ((iha.1 X m ok h2).2.1 ra) ((ihb.1 X r ok h3).2.1 rb)
  exact⟨se.sr,λ_=>se,st_ife (ihc.1 X l ok h1).2.2.1 (iha.1 X m ok h2).2.2.1 (ihb.1 X r ok h3).2.2.1,rfl,λz=>by cases z⟩
 | ix a b iha ihb =>
  refine⟨λX p ok h=>?_,noA λrd N sc ps=>rfl,noI λrd N sc tg p=>rfl⟩
  obtain⟨l,r,pos,rfl,h1,h2⟩:=i_ix h
  have hb:=ihb.1 X r ok h2
  exact of_se (se_ix ok.roomy hb.2.2.2.1 (iha.1 X l ok h1).1 hb.1) (λ_=>rfl) rfl
 | sl a lo hi iha ihl ihh =>
  refine⟨λX p ok h=>?_,noA λrd N sc ps=>rfl,noI λrd N sc tg p=>rfl⟩
  obtain⟨l,pl,ph,pos,pos',rfl,h1,h2,h3⟩:=i_sl h
  have part:∀ {y:E} {q:Option Expr},PEx T cf Tx y→((q=none∧isOmit y=true)∨∃r,q=some r∧isRd y=false∧mE Tx y X.N X.env.scope r=true)→SO T cf X y q:=by
   intro y q ih hq
   rcases hq with ⟨rfl,z⟩ | ⟨r,rfl,z1,z2⟩
   ·unfold isOmit at z
    split at z
    ·exact so_omit
    ·cases z
   ·exact so_some ((ih X r ok z2).2.1 z1)
  exact of_se (se_sl (iha.1 X l ok h1).1 (part ihl.1 h2) (part ihh.1 h3)) (λ_=>rfl) rfl
 | «omit»=>exact⟨noE λN sc p=>rfl,noA λrd N sc ps=>rfl,noI λrd N sc tg p=>rfl⟩
 | tup a iha =>
  refine⟨λX p ok h=>?_,noA λrd N sc ps=>rfl,noI λrd N sc tg p=>rfl⟩
  obtain⟨es,k,pos,rfl,h1⟩:=i_tup h
  exact of_se (se_tup ((iha.2.1 X false es ok h1).2.1 rfl)) (λ_=>rfl) rfl
 | lst a iha =>
  refine⟨λX p ok h=>?_,noA λrd N sc ps=>rfl,noI λrd N sc tg p=>rfl⟩
  obtain⟨es,pos,rfl,h1⟩:=i_lst h
  exact of_se (se_lst ((iha.2.1 X false es ok h1).2.1 rfl)) (λ_=>rfl) rfl
 | anil =>
  refine⟨noE λN sc p=>rfl,λX rd ps ok h=>?_,noI λrd N sc tg p=>rfl⟩
  cases ps with
  | nil=>exact⟨sar_nil,λ_=>sav_nil,rfl⟩
  | cons _ _=>exact nof h
 | acons a r iha ihr =>
  refine⟨noE λN sc p=>rfl,λX rd ps ok h=>?_,noI λrd N sc tg p=>rfl⟩
  cases ps with
  | nil=>exact nof h
  | cons p ps =>
   change (_&&_)=true at h;simp only[Bool.and_eq_true,Bool.or_eq_true,Bool.not_eq_true'] at h
   obtain⟨a1,a2,_,a4,_⟩:=iha.1 X p ok h.1.2
   obtain⟨b1,b2,b3⟩:=ihr.2.1 X rd ps ok h.2
   refine⟨sar_cons a4 a1 b1,λz=>sav_cons a4 (a2 ?_) (b2 z),by rw[List.all_cons,a4,b3];rfl⟩
   rcases h.1.1 with q | q
   ·rw[z] at q;cases q
   ·exact q
 | call f a iha =>
  refine⟨λX p ok h=>?_,noA λrd N sc ps=>rfl,noI λrd N sc tg p=>rfl⟩
  obtain⟨n,pn,es,pos,rfl,hn⟩:=i_call h
  simp only[Bool.and_eq_true,beq_iff_eq] at hn
  obtain⟨_,b2,b3⟩:=iha.2.1 X false es ok hn.2
  cases es with
  | nil =>
   cases a with
   | anil=>exact of_se (se_call0 (ok.defs f n hn.1.1.1) (gl_of hn.1.1.2) (dbg_of hn.1.2)) (λ_=>rfl) rfl
   | _=>exact nof hn.2
  | cons e es=>exact of_se (se_call (ok.defs f n hn.1.1.1) (gl_of hn.1.1.2) (dbg_of hn.1.2) b3 (b2 rfl)) (λ_=>rfl) rfl
 | dcl a iha =>
  refine⟨λX p ok h=>?_,noA λrd N sc ps=>rfl,noI λrd N sc tg p=>rfl⟩
  obtain⟨n,pn,q,pos,rfl,hn⟩:=i_dcl h
  simp only[Bool.and_eq_true,beq_iff_eq,Bool.not_eq_true'] at hn
  obtain⟨⟨⟨rfl,h2⟩,h0⟩,h3⟩:=hn
  obtain⟨_,a2,_,a4,_⟩:=iha.1 X q ok h3
  exact of_se (se_dcl ok.calm ok.roomy (ok.blt _ (by decide)) (gl_of h2) a4 (a2 h0)) (λ_=>rfl) rfl
 | bt b a iha =>
  refine⟨λX p ok h=>?_,noA λrd N sc ps=>rfl,noI λrd N sc tg p=>rfl⟩
  obtain⟨n,pn,e,es,pos,rfl,hn⟩:=i_bt h
  simp only[Bool.and_eq_true,beq_iff_eq] at hn
  obtain⟨b1,_,b3⟩:=iha.2.1 X true (e::es) ok hn.2
  exact of_se (se_bt hn.1.1.1 ok.calm hn.1.1.2 (ok.blt _ (by cases b<;>decide)) (gl_of hn.1.2) b3 b1) (λ_=>rfl) rfl
 | lset a iha =>
  refine⟨λX p ok h=>?_,noA λrd N sc ps=>rfl,noI λrd N sc tg p=>rfl⟩
  obtain⟨n,pn,m,pm,q,pos2,pos,rfl,hn⟩:=i_lset h
  simp only[Bool.and_eq_true] at hn
  obtain⟨⟨⟨⟨h1,h2⟩,h3⟩,h4⟩,h5⟩:=hn
  obtain⟨a1,_,_,a4,_⟩:=iha.1 X q ok h5
  cases eq_of_beq h1
  cases eq_of_beq h2
  exact of_se (se_lset ok.calm ok.roomy (ok.blt _ (by decide)) (ok.blt _ (by decide)) (gl_of h3) (gl_of h4) a4 a1) (λ_=>rfl) rfl
 | lrng a iha =>
  refine⟨λX p ok h=>?_,noA λrd N sc ps=>rfl,noI λrd N sc tg p=>rfl⟩
  obtain⟨n,pn,m,pm,q,pos2,pos,rfl,hn⟩:=i_lrng h
  simp only[Bool.and_eq_true,Bool.not_eq_true'] at hn
  obtain⟨⟨⟨⟨⟨h1,h2⟩,h3⟩,h4⟩,h0⟩,h5⟩:=hn
  obtain⟨_,a2,_,a4,_⟩:=iha.1 X q ok h5
  cases eq_of_beq h1
  cases eq_of_beq h2
  exact of_se (se_lrng ok.calm (ok.blt _ (by decide)) (ok.blt _ (by decide)) (gl_of h3) (gl_of h4) a4 (a2 h0)) (λ_=>rfl) rfl
 | isi a t iha =>
  refine⟨λX p ok h=>?_,noA λrd N sc ps=>rfl,noI λrd N sc tg p=>rfl⟩
  obtain⟨n,pn,l,m,pm,pos,rfl,hn⟩:=i_isi h
  simp only[Bool.and_eq_true,beq_iff_eq] at hn
  obtain⟨a1,_,_,a4,_⟩:=iha.1 X l ok hn.2
  exact of_se (se_isi hn.1.1.1.1 hn.1.1.1.2 (ok.blt _ (by simp[bltNames])) (ok.blt _ (by cases t<;>simp[bltNames,Ty.nm])) (gl_of hn.1.1.2) (gl_of hn.1.2) a4 a1) (λ_=>rfl) rfl
 | comp own caps g elt src cond ihe ihs ihc =>
  refine⟨λX p ok h=>?_,noA λrd N sc ps=>rfl,noI λrd N sc tg p=>rfl⟩
  obtain⟨pe,tg,iter,ifs,scope,pos,rfl,a2,a3,a4,a5,a6,a7,a8,a9,a10,a11,a12⟩:=i_comp h
  obtain⟨c1,c2,c3,c4,c5⟩:=comp_parts ok ihe.1 ihs.2.2 ihc.1 a2 a3 a4 a5 a6 a8 a9 a10 a11 a12
  exact of_se (se_comp ok.calm c1 c2 a7 c3 c4 c5) (λ_=>rfl) rfl
 | seq a iha =>
  refine⟨noE λN sc p=>rfl,noA λrd N sc ps=>rfl,λX rd tg p ok h=>?_⟩
  change (_&&_)=true at h;simp only[Bool.and_eq_true,Bool.or_eq_true,Bool.not_eq_true'] at h
  obtain⟨a1,a2,_,a4,_⟩:=iha.1 X p ok h.2
  refine⟨si_seq a1 λz=>a2 ?_,a4⟩
  rcases h.1 with q | q
  ·rw[z] at q;cases q
  ·exact q
 | rng a iha =>
  refine⟨noE λN sc p=>rfl,noA λrd N sc ps=>rfl,λX rd tg p ok h=>?_⟩
  obtain⟨n,pn,q,pos,rfl,hn⟩:=i_rng h
  simp only[Bool.and_eq_true,beq_iff_eq,Bool.not_eq_true'] at hn
  obtain⟨_,a2,_,a4,_⟩:=iha.1 X q ok hn.2
  exact⟨si_rng hn.1.1.1 (gl_of hn.1.1.2) (ok.blt _ (by simp[bltNames])) a4 (a2 hn.1.2),rfl⟩
 | rng2 a b iha ihb =>
  refine⟨noE λN sc p=>rfl,noA λrd N sc ps=>rfl,λX rd tg p ok h=>?_⟩
  obtain⟨n,pn,q,r,pos,rfl,hn⟩:=i_rng2 h
  simp only[Bool.and_eq_true,beq_iff_eq,Bool.not_eq_true'] at hn
  obtain⟨_,a2,_,a4,_⟩:=iha.1 X q ok hn.1.2
  obtain⟨_,b2,_,b4,_⟩:=ihb.1 X r ok hn.2
  exact⟨si_rng2 hn.1.1.1.1.1 (gl_of hn.1.1.1.1.2) (ok.blt _ (by simp[bltNames])) a4 b4 (a2 hn.1.1.1.2) (b2 hn.1.1.2),rfl⟩
 | enum a iha =>
  refine⟨noE λN sc p=>rfl,noA λrd N sc ps=>rfl,λX rd tg p ok h=>?_⟩
  obtain⟨n,pn,q,pos,rfl,hn⟩:=i_enum h
  simp only[Bool.and_eq_true,beq_iff_eq,Bool.not_eq_true',Bool.or_eq_true] at hn
  obtain⟨a1,a2,_,a4,_⟩:=iha.1 X q ok hn.2
  cases tg with
  | Tuple es kk tpos =>
   refine⟨si_enum hn.1.1.1.1 (gl_of hn.1.1.1.2) (ok.blt _ (by simp[bltNames])) a4 a1 λz=>a2 ?_,rfl⟩
   rcases hn.1.2 with q | q
   ·rw[z] at q;cases q
   ·exact q
  | _=>exact absurd hn.1.1.2 (by simp[isTupX])
end
section
variable (Tx:Txt)
noncomputable def isCallE:E→Bool
 | .call _ _=>true
 | _=>false
mutual
noncomputable def mB:S→List Str→Scope→List Stmt→Bool
 | .nil,_,_,[]=>true
 | .cons (.sealed _) r,N,sc,ps=>mB r N sc ps
 | .cons a r,N,sc,p::ps=>mS a N sc p&&mB r N sc ps
 | _,_,_,_=>false
termination_by structural x=>x
noncomputable def mS:S→List Str→Scope→Stmt→Bool
 | .ret x,N,sc,.Return (some p) _=>!isRd x&&mE Tx x N sc p
 | .retO i,N,sc,.Return (some (.Name n _)) _=>nameB N sc i n
 | .asg g x,N,sc,.Assign [tg] p _=>!isRd x&&mG false N sc g tg&&mE Tx x N sc p&&((notComp p&&notTup p)||(match g,tg with | .one _,.Name _ _=>true | _,_=>false))
 | .asgO i x,N,sc,.Assign [.Name n pn] p _=>!isRd x&&mG false N sc (.one i) (.Name n pn)&&mE Tx x N sc p
 | .ite c a b,N,sc,.If p ps qs _=>mE Tx c N sc p&&mB a N sc ps&&mB b N sc qs
 | .forS g src b,N,sc,.For tg p ps [] _=>mI Tx src false N sc tg p&&mG false N sc g tg&&mB b N sc ps
 | .app i x,N,sc,.Expr (.Call (.Attribute (.Name n _) nm apos) [p] [] cpos) _=>nameB N sc i n&&(nm == "append")&&(apos.endLine==cpos.line)&&!isRd x&&mE Tx x N sc p
 | .rev i,N,sc,.Expr (.Call (.Attribute (.Name n _) nm apos) [] [] cpos) _=>nameB N sc i n&&(nm == "reverse")&&(apos.endLine==cpos.line)
 | .ext i x,N,sc,.Expr (.Call (.Attribute (.Name n _) nm apos) [p] [] cpos) _=>nameB N sc i n&&(nm == "extend")&&(apos.endLine==cpos.line)&&!isRd x&&mE Tx x N sc p
 | .dput i y x,N,sc,.Assign [.Subscript (.Name n _) q _] p _=>nameB N sc i n&&notComp p&&!isRd y&&mE Tx y N sc q&&!isRd x&&mE Tx x N sc p
 | .exp x,N,sc,.Expr p _=>isCallE x&&mE Tx x N sc p
 | .newD i,N,sc,.Assign [.Name n pn] (.Dict [] [] _) _=>mG false N sc (.one i) (.Name n pn)
 | .newT i,N,sc,.Assign [.Name n pn] (.Dict [] [] _) _=>mG false N sc (.one i) (.Name n pn)
 | .dputV i y x,N,sc,.Assign [.Subscript (.Name n _) q _] p _=>nameB N sc i n&&notComp p&&!isRd y&&mE Tx y N sc q&&!isRd x&&mE Tx x N sc p
 | _,_,_,_=>false
termination_by structural x=>x
end
end
set_option genInjectivity false in
structure OkS (T:Tab) (cf:Nat→List D→Res D) (Tx:Txt) (X:Cx):Prop where
 ok:OkX T cf Tx X
 xe:X.xe=λ_ _=>False
 fn:∀n,X.fn n=true
section
variable {T:Tab} {cf:Nat→List D→Res D} {Tx:Txt} {X:Cx}
theorem OkS.pass (o:OkS T cf Tx X):PassesOwn (model X.prog X.w) X.A X.env X.xe:=by rw[o.xe];exact PassesOwn.never
noncomputable def PSx (T:Tab) (cf:Nat→List D→Res D) (Tx:Txt) (x:S):Prop:=∀X p,OkS T cf Tx X→mS Tx x X.N X.env.scope p=true→SS T cf X x p
noncomputable def PBx (T:Tab) (cf:Nat→List D→Res D) (Tx:Txt) (x:S):Prop:=∀X ps,OkS T cf Tx X→mB Tx x X.N X.env.scope ps=true→SB T cf X x ps
theorem noB {x:S} (h:∀N sc ps,mB Tx x N sc ps=false):PBx T cf Tx x:=λX ps _ m=>by rw[h] at m;cases m
theorem noS {x:S} (h:∀N sc p,mS Tx x N sc p=false):PSx T cf Tx x:=λX ps _ m=>by rw[h] at m;cases m
theorem x_comp {x:E} {N:List Str} {sc:Scope} {p:Expr} (hp:notComp p=false) (h:mE Tx x N sc p=true):∃own caps g elt src cond,x=.comp own caps g elt src cond:=by
 cases x with
 | comp own caps g elt src cond=>exact⟨_,_,_,_,_,_,rfl⟩
 | var i=>obtain⟨n,pos,rfl,_⟩:=i_var h;cases hp
 | rd i=>obtain⟨n,pos,rfl,_⟩:=i_rd h;cases hp
 | con d=>obtain⟨c,k,pos,rfl,_⟩:=i_con h;cases hp
 | glob d=>obtain⟨c,pos,rfl,_⟩:=i_glob h;cases hp
 | bin o a b=>obtain⟨c,_,pos,rfl,_⟩:=i_bin h;cases hp
 | cmp o a b=>obtain⟨c,_,pos,rfl,_⟩:=i_cmp h;cases hp
 | and a b=>obtain⟨c,_,_,pos,rfl,_⟩:=i_and h;cases hp
 | or a b=>obtain⟨c,_,_,pos,rfl,_⟩:=i_or h;cases hp
 | not a=>obtain⟨c,pos,rfl,_⟩:=i_not h;cases hp
 | ife c a b=>obtain⟨c,_,_,pos,rfl,_⟩:=i_ife h;cases hp
 | ix a b=>obtain⟨c,_,pos,rfl,_⟩:=i_ix h;cases hp
 | sl a b c=>obtain⟨c,_,_,_,pos,rfl,_⟩:=i_sl h;cases hp
 | tup a=>obtain⟨c,_,pos,rfl,_⟩:=i_tup h;cases hp
 | lst a=>obtain⟨c,pos,rfl,_⟩:=i_lst h;cases hp
 | call f a=>obtain⟨c,_,_,pos,rfl,_⟩:=i_call h;cases hp
 | dcl a=>obtain⟨c,_,_,pos,rfl,_⟩:=i_dcl h;cases hp
 | bt f a=>obtain⟨c,_,_,_,pos,rfl,_⟩:=i_bt h;cases hp
 | lset a=>obtain⟨_,_,_,_,_,_,pos,rfl,_⟩:=i_lset h;cases hp
 | lrng a=>obtain⟨_,_,_,_,_,_,pos,rfl,_⟩:=i_lrng h;cases hp
 | isi a t=>obtain⟨c,_,_,_,_,pos,rfl,_⟩:=i_isi h;cases hp
 | neg a=>obtain⟨c,pos,rfl,_⟩:=i_neg h;cases hp
 | dlit a b=>obtain⟨_,_,pos,rfl,_⟩:=i_dlit h;cases hp
 | getV a b=>obtain⟨_,_,_,_,pos,rfl,_⟩:=i_getV h;cases hp
 | trng a=>obtain⟨_,_,_,_,_,_,pos,rfl,_⟩:=i_trng h;cases hp
 | _=>exact nof h
theorem i_newD {i:Nat} {N:List Str} {sc:Scope} {p:Stmt} (h:mS Tx (.newD i) N sc p=true):∃n pn dpos pos,p=.Assign [.Name n pn] (.Dict [] [] dpos) pos∧mG false N sc (.one i) (.Name n pn)=true:=by
 cases p with
 | Assign tgs v pos =>
  rcases tgs with _ | ⟨tg,_ | ⟨t2,tgs⟩⟩
  ·exact nof h
  ·cases tg with
   | Name n pn =>
    cases v with
    | Dict ks vs dpos =>
     cases ks with
     | nil=>cases vs with
      | nil=>exact⟨n,pn,dpos,pos,rfl,h⟩
      | cons _ _=>exact nof h
     | cons _ _=>exact nof h
    | _=>exact nof h
   | _=>exact nof h
  ·cases tg<;>exact nof h
 | _=>exact nof h
theorem i_newT {i:Nat} {N:List Str} {sc:Scope} {p:Stmt} (h:mS Tx (.newT i) N sc p=true):∃n pn dpos pos,p=.Assign [.Name n pn] (.Dict [] [] dpos) pos∧mG false N sc (.one i) (.Name n pn)=true:=by
 cases p with
 | Assign tgs v pos =>
  rcases tgs with _ | ⟨tg,_ | ⟨t2,tgs⟩⟩
  ·exact nof h
  ·cases tg with
   | Name n pn =>
    cases v with
    | Dict ks vs dpos =>
     cases ks with
     | nil=>cases vs with
      | nil=>exact⟨n,pn,dpos,pos,rfl,h⟩
      | cons _ _=>exact nof h
     | cons _ _=>exact nof h
    | _=>exact nof h
   | _=>exact nof h
  ·cases tg<;>exact nof h
 | _=>exact nof h
theorem mG_name {i:Nat} {n:Str} {pos:Pos} (o:OkS T cf Tx X) (h:mG false X.N X.env.scope (.one i) (.Name n pos)=true):X.N[i]?=some n∧Loc X.env.scope n∧(X.fn n=true∨X.env.scope.names.lookup n=some .local):=by
 simp only[mG,Bool.and_eq_true,Bool.or_eq_true,beq_iff_eq,Bool.not_eq_true',Bool.not_false,true_and] at h
 exact⟨h.1,h.2,.inl (o.fn n)⟩
theorem asg_comp {i:Nat} {n:Str} {pos pos':Pos} {x:E} {p:Expr} (b:Bool) (o:OkS T cf Tx X) (hp:notComp p=false) (h1:mG false X.N X.env.scope (.one i) (.Name n pos)=true) (h2:mE Tx x X.N X.env.scope p=true):SS T cf X (if b then .asgO i x else .asg (.one i) x) (.Assign [.Name n pos] p pos'):=by
 obtain⟨own,caps,g,elt,src,cond,rfl⟩:=x_comp hp h2
 obtain⟨pe,tg,iter,ifs,scope,pos2,rfl,a2,a3,a4,a5,a6,a7,a8,a9,a10,a11,a12⟩:=i_comp h2
 obtain⟨c1,c2,c3,c4,c5⟩:=comp_parts o.ok (wholeE elt).1 (wholeE src).2.2 (wholeE cond).1 a2 a3 a4 a5 a6 a8 a9 a10 a11 a12
 obtain⟨n1,n2,n3⟩:=mG_name o h1
 exact ss_asg_comp o.ok.nd n1 n2 n3 o.ok.calm c1 c2 a7 c3 c4 b c5
theorem i_app {i:Nat} {x:E} {N:List Str} {sc:Scope} {p:Stmt} (h:mS Tx (.app i x) N sc p=true):∃n px nm apos q cpos pos,p=.Expr (.Call (.Attribute (.Name n px) nm apos) [q] [] cpos) pos∧(nameB N sc i n&&(nm == "append")&&(apos.endLine==cpos.line)&&!isRd x&&mE Tx x N sc q)=true:=by
 cases p with
 | Expr v pos=>cases v with
  | Call f es ks cpos=>cases f with
   | Attribute o nm apos=>cases o with
    | Name n px =>
     rcases es with _ | ⟨q,_ | ⟨q',es⟩⟩
     ·exact nof h
     ·cases ks with
      | nil=>exact⟨n,px,nm,apos,q,cpos,pos,rfl,h⟩
      | cons _ _=>exact nof h
     ·exact nof h
    | _=>exact nof h
   | _=>exact nof h
  | _=>exact nof h
 | _=>exact nof h
theorem i_ext {i:Nat} {x:E} {N:List Str} {sc:Scope} {p:Stmt} (h:mS Tx (.ext i x) N sc p=true):∃n px nm apos q cpos pos,p=.Expr (.Call (.Attribute (.Name n px) nm apos) [q] [] cpos) pos∧(nameB N sc i n&&(nm == "extend")&&(apos.endLine==cpos.line)&&!isRd x&&mE Tx x N sc q)=true:=by
 cases p with
 | Expr v pos=>cases v with
  | Call f es ks cpos=>cases f with
   | Attribute o nm apos=>cases o with
    | Name n px =>
     rcases es with _ | ⟨q,_ | ⟨q',es⟩⟩
     ·exact nof h
     ·cases ks with
      | nil=>exact⟨n,px,nm,apos,q,cpos,pos,rfl,h⟩
      | cons _ _=>exact nof h
     ·exact nof h
    | _=>exact nof h
   | _=>exact nof h
  | _=>exact nof h
 | _=>exact nof h
theorem i_dput {i:Nat} {y x:E} {N:List Str} {sc:Scope} {p:Stmt} (h:mS Tx (.dput i y x) N sc p=true):∃n px q tpos v pos,p=.Assign [.Subscript (.Name n px) q tpos] v pos∧(nameB N sc i n&&notComp v&&!isRd y&&mE Tx y N sc q&&!isRd x&&mE Tx x N sc v)=true:=by
 cases p with
 | Assign tgs v pos =>
  rcases tgs with _ | ⟨tg,_ | ⟨t2,tgs⟩⟩
  ·exact nof h
  ·cases tg with
   | Subscript o q tpos=>cases o with
    | Name n px=>exact⟨n,px,q,tpos,v,pos,rfl,h⟩
    | _=>exact nof h
   | _=>exact nof h
  ·cases tg with
   | Subscript o q tpos=>cases o<;>exact nof h
   | _=>exact nof h
 | _=>exact nof h
theorem i_dputV {i:Nat} {y x:E} {N:List Str} {sc:Scope} {p:Stmt} (h:mS Tx (.dputV i y x) N sc p=true):∃n px q tpos v pos,p=.Assign [.Subscript (.Name n px) q tpos] v pos∧(nameB N sc i n&&notComp v&&!isRd y&&mE Tx y N sc q&&!isRd x&&mE Tx x N sc v)=true:=by
 cases p with
 | Assign tgs v pos =>
  rcases tgs with _ | ⟨tg,_ | ⟨t2,tgs⟩⟩
  ·exact nof h
  ·cases tg with
   | Subscript o q tpos=>cases o with
    | Name n px=>exact⟨n,px,q,tpos,v,pos,rfl,h⟩
    | _=>exact nof h
   | _=>exact nof h
  ·cases tg with
   | Subscript o q tpos=>cases o<;>exact nof h
   | _=>exact nof h
 | _=>exact nof h
theorem i_rev {i:Nat} {N:List Str} {sc:Scope} {p:Stmt} (h:mS Tx (.rev i) N sc p=true):∃n px nm apos cpos pos,p=.Expr (.Call (.Attribute (.Name n px) nm apos) [] [] cpos) pos∧(nameB N sc i n&&(nm == "reverse")&&(apos.endLine==cpos.line))=true:=by
 cases p with
 | Expr v pos=>cases v with
  | Call f es ks cpos=>cases f with
   | Attribute o nm apos=>cases o with
    | Name n px =>
     cases es with
     | nil =>
      cases ks with
      | nil=>exact⟨n,px,nm,apos,cpos,pos,rfl,h⟩
      | cons _ _=>exact nof h
     | cons _ _=>exact nof h
    | _=>exact nof h
   | _=>exact nof h
  | _=>exact nof h
 | _=>exact nof h
theorem ss_asg1 {i:Nat} {n:Str} {x:E} {p:Expr} {pos pos':Pos} (hx:notComp p=true) (hN:X.N.Nodup) (hi:X.N[i]?=some n) (hl:Loc X.env.scope n) (hf:X.fn n=true∨X.env.scope.names.lookup n=some .local) (h:SE T cf X x p):SS T cf X (.asg (.one i) x) (.Assign [.Name n pos'] p pos):=λH₀ O₀=>by
 refine PS.imp (λD' σ H hq=>?_) (ps_set hN hi hl (h H₀ O₀) (swaps_no hx) hf)
 obtain⟨ts,e,out,⟨O,own,F,tt⟩,ev,k⟩:=hq
 rw[xS_asg] at ev
 obtain⟨d,e1,ev⟩:=Res.bind_ok ev
 obtain⟨e2,e3,ev⟩:=Res.bind_ok ev
 cases ev
 cases e3
 exact⟨O,own,e,d,F,e1,λv H' s' r n=>k _ H' ⟨O,_,(F.grow s').setV i r,λt ht=>(tt t ht).same s'⟩⟩
theorem wholeS:∀x:S,PSx T cf Tx x∧PBx T cf Tx x:=by
 intro x
 induction x with
 | nil =>
  refine⟨noS λN sc p=>rfl,λX ps o h=>?_⟩
  cases ps with
  | nil=>exact sb_nil
  | cons _ _=>exact nof h
 | cons a r iha ihr =>
  refine⟨noS λN sc p=>rfl,λX ps o h=>?_⟩
  by_cases hs:∃i,a=.sealed i
  ·obtain⟨i,rfl⟩:=hs
   rw[mB] at h
   exact sb_seal (ihr.2 X ps o h)
  ·cases ps with
   | nil =>
    exfalso
    cases a<;>first | (exact hs ⟨_,rfl⟩) | exact nof h
   | cons p ps =>
    have h':(mS Tx a X.N X.env.scope p&&mB Tx r X.N X.env.scope ps)=true:=by
     cases a<;>first | (exact absurd ⟨_,rfl⟩ hs) | exact h
    rw[Bool.and_eq_true] at h'
    exact sb_cons (iha.1 X p o h'.1) (ihr.2 X ps o h'.2)
 | ret x =>
  refine⟨λX p o h=>?_,noB λN sc ps=>rfl⟩
  cases p with
  | Return v pos=>cases v with
   | some p =>
    change (_&&_)=true at h;simp only[Bool.and_eq_true,Bool.not_eq_true'] at h
    exact ss_ret (((wholeE x).1 X p o.ok h.2).2.1 h.1)
   | none=>exact nof h
  | _=>exact nof h
 | retO i =>
  refine⟨λX p o h=>?_,noB λN sc ps=>rfl⟩
  cases p with
  | Return v pos=>cases v with
   | some p=>cases p with
    | Name n pn =>
     obtain⟨a1,a2,a3,a4⟩:=name_of h
     exact ss_retO a1 a2 a3 a4
    | _=>exact nof h
   | none=>exact nof h
  | _=>exact nof h
 | asg g x =>
  refine⟨λX p o h=>?_,noB λN sc ps=>rfl⟩
  cases p with
  | Assign tgs p pos =>
   rcases tgs with _ | ⟨tg,_ | ⟨t2,tgs⟩⟩
   ·exact nof h
   ·change (_&&_)=true at h;simp only[Bool.and_eq_true,Bool.not_eq_true',Bool.or_eq_true] at h
    obtain⟨⟨⟨h1,h2⟩,h3⟩,h4⟩:=h
    obtain⟨g1,g2⟩:=sg_of o.ok.calm o.ok.nd (λn _=>o.fn n) h2
    by_cases hc:notComp p=true
    ·by_cases ht:notTup p=true
     ·exact ss_asg hc ht g2 (((wholeE x).1 X p o.ok h3).2.1 h1) g1
     ·rcases h4 with z | z
      ·exact absurd z.2 ht
      ·cases g with
       | one i=>cases tg with
        | Name n pn =>
         obtain⟨n1,n2,n3⟩:=mG_name o h2
         exact ss_asg1 hc o.ok.nd n1 n2 n3 (((wholeE x).1 X p o.ok h3).2.1 h1)
        | _=>cases z
       | many _=>cases z
    ·have hc':notComp p=false:=by simpa using hc
     rcases h4 with z | z
     ·exact absurd z.1 hc
     ·cases g with
      | one i=>cases tg with
       | Name n pn=>exact asg_comp false o hc' h2 h3
       | _=>cases z
      | many _=>cases z
   ·exact nof h
  | _=>exact nof h
 | asgO i x =>
  refine⟨λX p o h=>?_,noB λN sc ps=>rfl⟩
  cases p with
  | Assign tgs p pos =>
   rcases tgs with _ | ⟨tg,_ | ⟨t2,tgs⟩⟩
   ·exact nof h
   ·cases tg with
    | Name n pn =>
     change (_&&_)=true at h;simp only[Bool.and_eq_true,Bool.not_eq_true'] at h
     obtain⟨⟨h1,h2⟩,h3⟩:=h
     by_cases hc:notComp p=true
     ·obtain⟨n1,n2,n3⟩:=mG_name o h2
      exact ss_asgO hc o.ok.nd n1 n2 n3 (((wholeE x).1 X p o.ok h3).2.1 h1)
     ·exact asg_comp true o (by simpa using hc) h2 h3
    | _=>exact nof h
   ·cases tg<;>exact nof h
  | _=>exact nof h
 | «sealed» i=>exact⟨noS λN sc p=>rfl,noB λN sc ps=>rfl⟩
 | ite c a b iha ihb =>
  refine⟨λX p o h=>?_,noB λN sc ps=>rfl⟩
  cases p with
  | If p ps qs pos =>
   change (_&&_)=true at h;simp only[Bool.and_eq_true] at h
   exact ss_ite ((wholeE c).1 X p o.ok h.1.1).2.2.1 (iha.2 X ps o h.1.2) (ihb.2 X qs o h.2)
  | _=>exact nof h
 | forS g src b ihb =>
  refine⟨λX p o h=>?_,noB λN sc ps=>rfl⟩
  cases p with
  | For tg p ps qs pos=>cases qs with
   | nil =>
    change (_&&_)=true at h;simp only[Bool.and_eq_true] at h
    have hg:=(sg_of o.ok.calm o.ok.nd (λn _=>o.fn n) h.1.2).1
    obtain⟨s1,s2⟩:=(wholeE src).2.2 X false tg p o.ok h.1.1
    exact ss_for o.pass o.ok.calm s2 s1 hg (ihb.2 X ps o h.2)
   | cons _ _=>exact nof h
  | _=>exact nof h
 | app i x =>
  refine⟨λX p o h=>?_,noB λN sc ps=>rfl⟩
  obtain⟨n,px,nm,apos,q,cpos,pos,rfl,hn⟩:=i_app h
  simp only[Bool.and_eq_true,beq_iff_eq,Bool.not_eq_true'] at hn
  obtain⟨a1,a2,a3,a4⟩:=name_of hn.1.1.1.1
  obtain⟨_,b2,_,b4,_⟩:=(wholeE x).1 X q o.ok hn.2
  exact ss_app a1 a2 a3 a4 hn.1.1.1.2 (by simpa using hn.1.1.2) b4 (b2 hn.1.2)
 | rev i =>
  refine⟨λX p o h=>?_,noB λN sc ps=>rfl⟩
  obtain⟨n,px,nm,apos,cpos,pos,rfl,hn⟩:=i_rev h
  simp only[Bool.and_eq_true,beq_iff_eq] at hn
  obtain⟨a1,a2,a3,a4⟩:=name_of hn.1.1
  exact ss_rev a1 a2 a3 a4 hn.1.2 (by simpa using hn.2)
 | ext i x =>
  refine⟨λX p o h=>?_,noB λN sc ps=>rfl⟩
  obtain⟨n,px,nm,apos,q,cpos,pos,rfl,hn⟩:=i_ext h
  simp only[Bool.and_eq_true,beq_iff_eq,Bool.not_eq_true'] at hn
  obtain⟨a1,a2,a3,a4⟩:=name_of hn.1.1.1.1
  obtain⟨_,b2,_,b4,_⟩:=(wholeE x).1 X q o.ok hn.2
  exact ss_ext a1 a2 a3 a4 hn.1.1.1.2 (by simpa using hn.1.1.2) b4 (b2 hn.1.2)
 | dput i y x =>
  refine⟨λX p o h=>?_,noB λN sc ps=>rfl⟩
  obtain⟨n,px,q,tpos,v,pos,rfl,hn⟩:=i_dput h
  simp only[Bool.and_eq_true,Bool.not_eq_true'] at hn
  obtain⟨a1,a2,a3,a4⟩:=name_of hn.1.1.1.1.1
  obtain⟨_,b2,_⟩:=(wholeE y).1 X q o.ok hn.1.1.2
  obtain⟨_,c2,_⟩:=(wholeE x).1 X v o.ok hn.2
  exact ss_dput o.ok.roomy a1 a2 a3 a4 hn.1.1.1.1.2 (b2 hn.1.1.1.2) (c2 hn.1.2)
 | exp x =>
  refine⟨λX p o h=>?_,noB λN sc ps=>rfl⟩
  cases p with
  | Expr q pos =>
   change (_&&_)=true at h;simp only[Bool.and_eq_true] at h
   cases x with
   | call f a =>
    have b:=((wholeE (.call f a)).1 X q o.ok h.2).2.1 rfl
    obtain⟨c,_,_,pos2,rfl,_⟩:=i_call h.2
    exact ss_exp rfl b
   | _=>exact nof h.1
  | _=>exact nof h
 | newD i =>
  refine⟨λX p o h=>?_,noB λN sc ps=>rfl⟩
  obtain⟨n,pn,dpos,pos,rfl,hn⟩:=i_newD h
  obtain⟨n1,n2,n3⟩:=mG_name o hn
  exact ss_newD o.ok.nd n1 n2 n3
 | newT i =>
  refine⟨λX p o h=>?_,noB λN sc ps=>rfl⟩
  obtain⟨n,pn,dpos,pos,rfl,hn⟩:=i_newT h
  obtain⟨n1,n2,n3⟩:=mG_name o hn
  exact ss_newT o.ok.nd n1 n2 n3
 | dputV i y x =>
  refine⟨λX p o h=>?_,noB λN sc ps=>rfl⟩
  obtain⟨n,px,q,tpos,v,pos,rfl,hn⟩:=i_dputV h
  simp only[Bool.and_eq_true,Bool.not_eq_true'] at hn
  obtain⟨⟨⟨⟨⟨h1,h2⟩,h3⟩,h4⟩,h5⟩,h6⟩:=hn
  obtain⟨a1,a2,a3,a4⟩:=name_of h1
  exact ss_dputV o.ok.roomy a1 a2 a3 a4 h2 (((wholeE y).1 X q o.ok h4).2.1 h3) (((wholeE x).1 X v o.ok h6).2.1 h5)
end
end Tr
namespace Tr
open PySem PySem.Spec PyProof.Rows L2 PySem.W
section
variable {T:Tab} {cf:Nat→List D→Res D} {Tx:Txt}
end
end Tr
namespace Tr
open PySem PySem.Spec PyProof.Rows L2
set_option genInjectivity false in
structure DefT where
 nm:Str
 st:Stmt
 N:List Str
 ps:List Str
 body:S
 told:Option Told:=none
noncomputable def DefT.df (t:DefT):Df:=⟨t.N.length,t.ps.length,t.body,t.told⟩
noncomputable def fnScB (N P:List Str) (sc:Scope):Bool:=(sc.kind==.function)&&!sc.isCoroutine&&!sc.isGenerator&&nodupB N&&(N.take P.length==P)&&P.all (λx=>(sc.names.lookup x==some .local)||(sc.names.lookup x==some .cell))&&sc.names.all (λy=>!(y.2==.free))
theorem fnSc_of {N P:List Str} {sc:Scope} (h:fnScB N P sc=true):FnScope N P sc:=by
 simp only[fnScB,Bool.and_eq_true,List.all_eq_true,Bool.or_eq_true,Bool.not_eq_true',beq_iff_eq,beq_eq_false_iff_ne,ne_eq] at h
 obtain⟨⟨⟨⟨⟨⟨h1,h2⟩,h3⟩,h4⟩,h5⟩,h6⟩,h7⟩:=h
 exact⟨h1,h2,h3,nodup_of h4,h5,h6,h7⟩
noncomputable def DefT.okB (Tx:Txt) (t:DefT):Bool:=fnScB t.N t.ps (defScope t.st)&&(t.told.isSome||mB Tx t.body t.N (defScope t.st) (defBody t.st))
noncomputable def GlobK (K:PySem.W.Frag) (mg:Str→Option Value) (n:Str) (d:D):Prop:=∃v u,mg n=some u∧RelV v u∧∀H O,RD K H O d v
noncomputable def initB (f:Str) (ps N:List Str) (st:Stmt):Bool:=fnScB N ps (defScope st)&&(ps.length==2)&&(match defBody st with
 | [.Assign [.Attribute (.Name s _) g _] (.Name x _) _]=>(g==f)&&nameB N (defScope st) 0 s&&nameB N (defScope st) 1 x
 | _=>false)
noncomputable def IniK (K:PySem.W.Frag) (mg:Str→Option Value) (c:Str):Prop:=∃(C fI:Addr) (fd:FuncData) (ps N:List Str) (qual:Str) (st:Stmt),mg c=some (.ref C)∧cvK K c=.ref C∧InitCls K C fI "at" ∧ PySem.W.isFn K (.ref fI)=true∧Fun K "__init__" qual st fI fd∧Binds K fd ps []∧initB "at" ps N st=true
structure TextOk0 (K:PySem.W.Frag) (mg:Str→Option Value) (T:Tab) (Tx:Txt) (defs:List DefT):Prop where
 dn:∀g nm,Tx.dn[g]?=some nm→T.mv g=none∧∃t,defs[g]?=some t∧nm=t.nm
 ok:defs.all (·.okB Tx)=true
 funs:∀t∈defs,∃f fd,Fun K t.nm t.nm t.st f fd∧mg t.nm=some (.ref f)∧Binds K fd t.ps []
 globs:∀g n,Tx.gn[g]?=some n→GlobK K mg n (T.glob g)
 blt:∀n∈bltNames,mg n=none
 tf:∀q∈Tx.tf,∃(a:Addr) (xs:List V),mg q.1=some (.ref a)∧(∀H,SqT K H a xs)∧xs.length=q.2.length∧∀(j f:Nat),q.2[j]?=some f→∃(ad:Addr) (t:DefT),xs[j]?=some (V.ref ad)∧mg t.nm=some (.ref ad)∧defs[f]?=some t
 ts:∀q∈Tx.ts,∃a:Addr,mg q.1=some (.ref a)∧ModS K a q.2
 cls:∀c∈Tx.cls,∃C,ClsIs K mg c C
 ini:∀c∈Tx.icl,IniK K mg c
 dm:∀q∈Tx.dm,∃t,defs[q.1]?=some t∧q.2=t.nm
 tmv:∀q∈Tx.tf,∀f∈q.2,T.mv f=none
noncomputable def ToldOk (K:PySem.W.Frag) (mg:Str→Option Value) (T:Tab) (defs:List DefT) (t:DefT):Prop:=∀(P:Program) (w:World) (base:Heap) (n i:Nat) (f:Addr) (fd:FuncData),defs[i]?=some t→Fun K t.nm t.nm t.st f fd →
 (∀i t,defs[i]?=some t→∀f fd,Fun K t.nm t.nm t.st f fd→FnOk P w K mg base (CXE P w) (n+2) f fd t.ps (spOf K T (callF T (defs.map DefT.df) n i) i)) →
 FnOk P w K mg base (CXE P w) (n+1+2) f fd t.ps (spD K (callF T (defs.map DefT.df) (n+1) i) (T.fresh i))
set_option genInjectivity false in
structure TextOk (K:PySem.W.Frag) (mg:Str→Option Value) (T:Tab) (Tx:Txt) (defs:List DefT):Prop extends TextOk0 K mg T Tx defs where
 told:∀t∈defs,∀td,t.told=some td→ToldOk K mg T defs t
 nmv:∀i t,defs[i]?=some t→t.told.isSome=true→T.mv i=none
theorem dn_of {T:Tab} {Tx:Txt} {defs:List DefT} (h1:(defs.take Tx.dn.length).map (·.nm)=Tx.dn) (h2:(List.range Tx.dn.length).all (λg=>(T.mv g).isNone)=true):∀g nm,Tx.dn[g]?=some nm→T.mv g=none∧∃t,defs[g]?=some t∧nm=t.nm:=λg nm h=>by
 have hl:g < Tx.dn.length:=by
  by_cases z:g < Tx.dn.length
  ·exact z
  ·rw[List.getElem?_eq_none (by lia)] at h;cases h
 refine⟨Option.isNone_iff_eq_none.mp (List.all_eq_true.mp h2 g (List.mem_range.mpr hl)),?_⟩
 rw[←h1,List.getElem?_map,List.getElem?_take_of_lt hl] at h
 cases e:defs[g]? with
 | none=>rw[e] at h;cases h
 | some t=>rw[e] at h;cases h;exact⟨t,rfl,rfl⟩
theorem okx_of {P:Program} {w:World} {K:PySem.W.Frag} {mg:Str→Option Value} {base:Heap} {T:Tab} {Tx:Txt} {defs:List DefT} (X:TextOk0 K mg T Tx defs) {n:Nat} {N:List Str} {nm:Str} {sc:Scope} {f:Addr} {cdv:Value} {A:Around} {outer:List Env} {s:Shared} {H:Hp} {E:XK} (hr:Room (n+2) (A.deeper (envOfC nm sc s.heap.objs.size f cdv))) (nd:N.Nodup)
 (ih:∀i t,defs[i]?=some t→∀f fd,Fun K t.nm t.nm t.st f fd→FnOk P w K mg base (CXE P w) (n+2) f fd t.ps (spOf K T (callF T (defs.map DefT.df) n i) i)) :
 OkX T (callF T (defs.map DefT.df) n) Tx (cxOf (CXE P w) P w K mg base N nm sc f cdv A outer s H E).nox:=by
 have dfa:∀g t',defs[g]?=some t'→DefAny T (callF T (defs.map DefT.df) n) (cxOf (CXE P w) P w K mg base N nm sc f cdv A outer s H E).nox g t'.nm:=λg t' e=>by
  obtain⟨f',fd',F',m',b'⟩:=X.funs t' (List.mem_of_getElem? e)
  exact⟨n+2,f',fd',t'.ps,ih g t' e f' fd' F',hr,m',F'.kp,b'⟩
 have dfi:∀g t',T.mv g=none→defs[g]?=some t'→DefIs T (callF T (defs.map DefT.df) n) (cxOf (CXE P w) P w K mg base N nm sc f cdv A outer s H E).nox g t'.nm:=λg t' hm e=>by
  obtain⟨k',f',fd',ps',h1,h2⟩:=dfa g t' e
  rw[spOf_none hm] at h1
  exact⟨k',f',fd',ps',h1,h2⟩
 exact⟨rfl,hr.units,λg nm hg=>by
  obtain⟨hm,t',e,rfl⟩:=X.dn g nm hg
  exact dfi g t' hm e,λg nm hg=>X.globs g nm hg,X.blt,nd,λq hq=>by
  obtain⟨a,xs,h1,h2,h3,h4⟩:=X.tf q hq
  refine⟨a,xs,h1,h2,h3,λj g hg=>?_⟩
  obtain⟨ad,t',h5,h6,h7⟩:=h4 j g hg
  exact⟨ad,t'.nm,h5,h6,dfi g t' (X.tmv q hq g (List.mem_of_getElem? hg)) h7⟩,X.ts,λq hq=>by
  obtain⟨t',e,e2⟩:=X.dm q hq
  rw[e2]
  exact dfa q.1 t' e⟩
theorem fun_okE {P:Program} {w:World} {K:PySem.W.Frag} {mg:Str→Option Value} {base:Heap} {x qual:Str} {st:Stmt} {f:Addr} {fd:FuncData} {N ps:List Str} {k:Nat} {sp:Sp} (F:Fun K x qual st f fd) (S:FnScope N ps (defScope st)) (len:∀vs H Q E,sp vs H Q E→vs.length=ps.length)
 (hbody:∀(cdv:Value) (A:Around) (outer:List Env) (s:Shared) (H:Hp) (vs:List V) (Q:VK) (E:XK),Room k (A.deeper (envOfC qual (defScope st) s.heap.objs.size f cdv))→sp vs H Q E →
  ∃t,PSs (cxOf (CXE P w) P w K mg base N qual (defScope st) f cdv A outer s H E) (defBody st) t∧t { nx:=λ_ H'=>Q .non H',rt:=Q } (start N vs) H):FnOk P w K mg base (CXE P w) (k+1) f fd ps sp:=by
 obtain⟨oc,od,kV,doc,pm,an,cdv,ct,osl,rfl,lk,hcd⟩:=F.ex
 exact fn_of lk hcd S len λA outer s H vs Q E hr hsp=>hbody cdv A outer s H vs Q E hr hsp
section
variable {P:Program} {w:World} {K:PySem.W.Frag} {mg:Str→Option Value} {base:Heap} {T:Tab} {Tx:Txt} {defs:List DefT}
theorem fm_start0 {H Hb:Hp} {O:Addr→Prop} {N:List Str} {ds:List D} {vs:List V} (sm:Same Hb H) (w:RDs K H O ds vs) (tr:∀a,O a→∃o,Hb a=some o) (n:Nat) (hn:n=N.length - vs.length) :
 Fm K Hb O H O (λ_=>none) (ds.map Sl.v++List.replicate n Sl.no) (start N vs) where
 len:=by
  unfold L2.start
  rw[List.length_append,List.length_append,List.length_map,List.length_map,List.length_replicate,List.length_replicate,w.length,hn,w.length]
 sl:=λi=>by
  by_cases hi:i < ds.length
  ·obtain⟨v,h1,h2⟩:=w.get (List.getElem?_eq_getElem hi)
   have e1:Nv.at (ds.map Sl.v++List.replicate n Sl.no) i=.v ds[i]:=by
    unfold Nv.at
    rw[List.getElem?_append_left (by rw[List.length_map];exact hi),List.getElem?_map,List.getElem?_eq_getElem hi];rfl
   have e2:stAt (start N vs) i=some v:=by
    unfold stAt L2.start
    rw[List.getElem?_append_left (by rw[List.length_map,w.length];exact hi),List.getElem?_map,h1];rfl
   rw[e1,e2]
   exact⟨v,rfl,h2⟩
  ·have e1:Nv.at (ds.map Sl.v++List.replicate n Sl.no) i=.no:=by
    unfold Nv.at
    rw[List.getElem?_append_right (by rw[List.length_map];lia),List.getElem?_replicate]
    split<;>rfl
   rw[e1];trivial
 inj:=λ_ _ _ h=>by cases h
 same:=sm
 sub:=λ_ h=>h
 trk0:=tr
 trk:=λa h=>let ⟨o,q⟩:=tr a h;⟨o,sm _ _ q⟩
 new:=λ_ _ h=>by cases h
 nw:=λi d a h _=>by
  exfalso
  by_cases hi:i < ds.length
  ·have e1:Nv.at (ds.map Sl.v++List.replicate n Sl.no) i=.v ds[i]:=by
    unfold Nv.at
    rw[List.getElem?_append_left (by rw[List.length_map];exact hi),List.getElem?_map,List.getElem?_eq_getElem hi];rfl
   rw[e1] at h;cases h
  ·have e1:Nv.at (ds.map Sl.v++List.replicate n Sl.no) i=.no:=by
    unfold Nv.at
    rw[List.getElem?_append_right (by rw[List.length_map];lia),List.getElem?_replicate]
    split<;>rfl
   rw[e1] at h;cases h
theorem fm_start {H:Hp} {O:Addr→Prop} {N:List Str} {ds:List D} {vs:List V} (w:RDs K H O ds vs) (tr:∀a,O a→∃o,H a=some o) (n:Nat) (hn:n=N.length - vs.length) :
 Fm K H O H O (λ_=>none) (ds.map Sl.v++List.replicate n Sl.no) (start N vs):=fm_start0 (Same.refl H) w tr n hn
theorem fm_startM {H Hb:Hp} {O:Addr→Prop} {N:List Str} {ds:List D} {vs:List V} (sm:Same Hb H) (w:RDs K H O ds vs) (tr:∀a,O a→∃o,Hb a=some o) (n:Nat) (hn:n=N.length - vs.length) {j:Nat} {d0:D} {v0:V} (h1:ds[j]?=some d0) (h2:vs[j]?=some v0) (h3:NV K H O d0 v0) (h4:∀a,v0=.ref a→Hb a=none) :
 ∃own,Fm K Hb O H O own (startE (some j) ds++List.replicate n Sl.no) (start N vs):=by
 have F:=(fm_start0 (N:=N) sm w tr n hn).setN j h3 h4
 have e1:(ds.map Sl.v++List.replicate n Sl.no).set j (.n d0)=startE (some j) ds++List.replicate n Sl.no:=by
  have hj:j < ds.length:=by
   by_cases z:j < ds.length
   ·exact z
   ·rw[List.getElem?_eq_none (by lia)] at h1;cases h1
  rw[List.set_append_left _ _ (by rw[List.length_map];exact hj)]
  show _=(ds.map Sl.v).set j (.n (ds.getD j .non))++_
  rw[List.getD_eq_getElem?_getD,h1];rfl
 have e2:(start N vs).set j (some v0)=start N vs:=by
  have q:(start N vs)[j]?=some (some v0):=by
   unfold L2.start
   have hj:j < vs.length:=by
    by_cases z:j < vs.length
    ·exact z
    ·rw[List.getElem?_eq_none (by lia)] at h2;cases h2
   rw[List.getElem?_append_left (by rw[List.length_map];exact hj),List.getElem?_map,h2];rfl
  apply List.ext_getElem?
  intro i
  by_cases z:j=i
  ·subst z
   obtain⟨hl,_⟩:=List.getElem?_eq_some_iff.mp q
   rw[List.getElem?_set_self hl,q]
  ·rw[List.getElem?_set_ne z]
 rw[e1,e2] at F
 exact⟨_,F⟩
theorem defs_ok (X:TextOk K mg T Tx defs):∀n i t,defs[i]?=some t→∀f fd,Fun K t.nm t.nm t.st f fd→FnOk P w K mg base (CXE P w) (n+2) f fd t.ps (spOf K T (callF T (defs.map DefT.df) n i) i)
 | 0,i,t,hi,f,fd,F=>by
  have no:∀vs H Q E,¬spOf K T (callF T (defs.map DefT.df) 0 i) i vs H Q E:=λvs H Q E h=>by
   cases hmv:T.mv i with
   | none =>
    rw[spOf_none hmv] at h
    obtain⟨O,ds,_,_,⟨d,ev,_⟩ | ⟨c,d,ev,_⟩⟩:=h
    ·rw[callF] at ev;cases ev
    ·rw[callF] at ev;cases ev
   | some j =>
    rw[spOf_some hmv] at h
    obtain⟨O,ds,Hb,d0,v0,_,_,_,_,_,_,_,⟨d,ev,_⟩ | ⟨c,d,ev,_⟩⟩:=h
    ·rw[callF] at ev;cases ev
    ·rw[callF] at ev;cases ev
  exact⟨λvs H Q E h=>absurd h (no vs H Q E),λA outer s H args us vs Q E _ _ _ _ h=>absurd h (no vs H Q E)⟩
 | n+1,i,t,hi,f,fd,F=>by
  have ih:=defs_ok X n
  cases ht:t.told with
  | some td =>
   rw[spOf_none (X.nmv i t hi (by rw[ht];rfl))]
   exact X.told t (List.mem_of_getElem? hi) td ht P w base n i f fd hi F ih
  | none =>
  have hok:=List.all_eq_true.mp X.ok t (List.mem_of_getElem? hi)
  unfold DefT.okB at hok
  rw[ht,Option.isSome_none,Bool.false_or,Bool.and_eq_true] at hok
  have S:=fnSc_of hok.1
  have hdf:(defs.map DefT.df)[i]?=some ⟨t.N.length,t.ps.length,t.body,none⟩:=by rw[List.getElem?_map,hi];show some (DefT.df t)=_;unfold DefT.df;rw[ht]
  have lenOf:∀ds r,callF T (defs.map DefT.df) (n+1) i ds=r→r≠.no→ds.length=t.ps.length:=by
   intro ds r ev hr
   rw[callF,hdf] at ev
   by_cases c:(ds.length==t.df.pars)=true
   ·exact (by simpa using c:ds.length=t.df.pars)
   ·have c':(ds.length==t.df.pars)=false:=by simpa using c
    have ev:when (ds.length==t.df.pars) _=r:=ev
    rw[c'] at ev
    exact absurd ev.symm hr
  have open1:∀ds,ds.length=t.ps.length→callF T (defs.map DefT.df) (n+1) i ds=(match exX T (callF T (defs.map DefT.df) n) t.body (startE (T.mv i) ds++List.replicate (t.N.length - t.ps.length) Sl.no) with
   | some z=>.err z.1 z.2
   | none=>match exS T (callF T (defs.map DefT.df) n) t.body (startE (T.mv i) ds++List.replicate (t.N.length - t.ps.length) Sl.no) with
    | .ok (.rt x k)=>when (k||!T.fresh i) (.ok x)
    | .ok (.nx _)=>when (!T.fresh i) (.ok .non)
    | _=>.no):=by
   intro ds hl
   rw[callF,hdf]
   exact when_of (by simpa using hl) _
  have un:∀ds d,callF T (defs.map DefT.df) (n+1) i ds=.ok d→∃out,exS T (callF T (defs.map DefT.df) n) t.body (startE (T.mv i) ds++List.replicate (t.N.length - t.ps.length) Sl.no)=.ok out ∧
   ((∃k,out=.rt d k∧(k=true∨T.fresh i=false))∨(∃e,out=.nx e∧d=.non∧T.fresh i=false)):=by
   intro ds d ev
   rw[open1 ds (lenOf ds _ ev (λz=>by cases z))] at ev
   cases hx:exX T (callF T (defs.map DefT.df) n) t.body (startE (T.mv i) ds++List.replicate (t.N.length - t.ps.length) Sl.no) with
   | some z=>rw[hx] at ev;cases ev
   | none =>
    rw[hx] at ev
    cases hs:exS T (callF T (defs.map DefT.df) n) t.body (startE (T.mv i) ds++List.replicate (t.N.length - t.ps.length) Sl.no) with
    | ok out =>
     rw[hs] at ev
     refine⟨out,rfl,?_⟩
     cases out with
     | nx e =>
      obtain⟨c2,ev⟩:=when_ok ev
      cases ev
      exact .inr ⟨e,rfl,rfl,by simpa using c2⟩
     | rt x k =>
      obtain⟨c2,ev⟩:=when_ok ev
      cases ev
      exact .inl ⟨k,rfl,by simpa using c2⟩
     | bk e=>cases ev
     | ct e=>cases ev
    | err _ _=>rw[hs] at ev;cases ev
    | no=>rw[hs] at ev;cases ev
  have unX:∀ds c d,callF T (defs.map DefT.df) (n+1) i ds=.err c d→exX T (callF T (defs.map DefT.df) n) t.body (startE (T.mv i) ds++List.replicate (t.N.length - t.ps.length) Sl.no)=some (c,d):=by
   intro ds c d ev
   rw[open1 ds (lenOf ds _ ev (λz=>by cases z))] at ev
   cases hx:exX T (callF T (defs.map DefT.df) n) t.body (startE (T.mv i) ds++List.replicate (t.N.length - t.ps.length) Sl.no) with
   | some z=>rw[hx] at ev;cases ev;rfl
   | none =>
    rw[hx] at ev
    exfalso
    cases hs:exS T (callF T (defs.map DefT.df) n) t.body (startE (T.mv i) ds++List.replicate (t.N.length - t.ps.length) Sl.no) with
    | ok out =>
     rw[hs] at ev
     cases out with
     | nx e=>have ev:when (!T.fresh i) (Res.ok D.non)=Res.err c d:=ev;unfold when at ev;split at ev<;>cases ev
     | rt x k=>have ev:when (k||!T.fresh i) (Res.ok x)=Res.err c d:=ev;unfold when at ev;split at ev<;>cases ev
     | bk e=>cases ev
     | ct e=>cases ev
    | err _ _=>rw[hs] at ev;cases ev
    | no=>rw[hs] at ev;cases ev
  have core:∀(cdv:Value) (A:Around) (outer:List Env) (s:Shared) (H Hb:Hp) (O:Addr→Prop) (ds:List D) (vs:List V) (own:Nat→Option Addr) (Q:VK) (E:XK),Room (n+2) (A.deeper (envOfC t.nm (defScope t.st) s.heap.objs.size f cdv))→Fm K Hb O H O own (startE (T.mv i) ds++List.replicate (t.N.length - t.ps.length) Sl.no) (start t.N vs) →
   ((∃d,callF T (defs.map DefT.df) (n+1) i ds=.ok d∧∀v H',Same Hb H'→RD K H' O d v→(T.fresh i=true→NewR K Hb H' O d v)→Q v H')∨∃c d,callF T (defs.map DefT.df) (n+1) i ds=.err c d∧∀od H',Same Hb H'→PayOk d od H'→E (cvK K c) od H') →
   ∃tt,PSs (cxOf (CXE P w) P w K mg base t.N t.nm (defScope t.st) f cdv A outer s H E) (defBody t.st) tt∧tt { nx:=λ_ H'=>Q .non H',rt:=Q } (start t.N vs) H:=by
   intro cdv A outer s H Hb O ds vs own Q E hr Fs h
   have okx:=okx_of (P:=P) (w:=w) (base:=base) X.toTextOk0 (cdv:=cdv) (outer:=outer) (H:=H) (E:=E) (f:=f) hr S.nd ih
   have oks:OkS T (callF T (defs.map DefT.df) n) Tx (cxOf (CXE P w) P w K mg base t.N t.nm (defScope t.st) f cdv A outer s H E).nox:=⟨okx,rfl,λ_=>rfl⟩
   rcases h with ⟨d,ev,k⟩ | ⟨c,d,ev,k⟩
   ·obtain⟨out,e1,e2⟩:=un ds d ev
    refine⟨_,((wholeS t.body).2 _ _ oks hok.2 Hb O).nox,?_⟩
    refine⟨[],_,out,⟨O,own,Fs,λt ht=>by cases ht⟩,e1,?_⟩
    rcases e2 with ⟨fr,rfl,hf⟩ | ⟨e,rfl,rfl,hf⟩
    ·intro v H' s' r nl
     refine k v H' s' r λz=>nl ?_
     rcases hf with q | q
     ·exact q
     ·rw[z] at q;cases q
    ·rintro σ' H' ⟨O',own',F',_⟩
     exact k .non H' F'.same rfl λz=>by rw[z] at hf;cases hf
   ·exact nomatch unX ds c d ev
  cases hmv:T.mv i with
  | none =>
   rw[spOf_none hmv]
   rw[hmv] at core
   refine fun_okE F S (λvs H Q E h=>?_) (λcdv A outer s H vs Q E hr h=>?_)
   ·obtain⟨O,ds,_,rr,⟨d,ev,_⟩ | ⟨c,d,ev,_⟩⟩:=h
    ·rw[rr.length];exact lenOf ds _ ev (λz=>by cases z)
    ·rw[rr.length];exact lenOf ds _ ev (λz=>by cases z)
   ·obtain⟨O,ds,tr,rr,h⟩:=h
    have hl:ds.length=t.ps.length:=by
     rcases h with ⟨d,ev,_⟩ | ⟨c,d,ev,_⟩
     ·exact lenOf ds _ ev (λz=>by cases z)
     ·exact lenOf ds _ ev (λz=>by cases z)
    exact core cdv A outer s H H O ds vs _ Q E hr (fm_start (N:=t.N) rr tr (t.N.length - t.ps.length) (by rw[rr.length,hl])) h
  | some j =>
   rw[spOf_some hmv]
   rw[hmv] at core
   refine fun_okE F S (λvs H Q E h=>?_) (λcdv A outer s H vs Q E hr h=>?_)
   ·obtain⟨O,ds,Hb,d0,v0,_,_,rr,_,_,_,_,⟨d,ev,_⟩ | ⟨c,d,ev,_⟩⟩:=h
    ·rw[rr.length];exact lenOf ds _ ev (λz=>by cases z)
    ·rw[rr.length];exact lenOf ds _ ev (λz=>by cases z)
   ·obtain⟨O,ds,Hb,d0,v0,sm,tr,rr,g1,g2,g3,g4,h⟩:=h
    have hl:ds.length=t.ps.length:=by
     rcases h with ⟨d,ev,_⟩ | ⟨c,d,ev,_⟩
     ·exact lenOf ds _ ev (λz=>by cases z)
     ·exact lenOf ds _ ev (λz=>by cases z)
    obtain⟨own,Fs⟩:=fm_startM (N:=t.N) sm rr tr (t.N.length - t.ps.length) (by rw[rr.length,hl]) g1 g2 g3 g4
    exact core cdv A outer s H Hb O ds vs own Q E hr Fs h
theorem law_sp {i n:Nat} (hT:∀ns:List Int,ns.length≤63→callF T (defs.map DefT.df) n i [.lst (ns.map D.int)]=.ok (.bl true)) (K:PySem.W.Frag) (H:Hp) (a:Addr) (ns:List Int) (hl:ns.length≤63) (hS:SqL K H a (ns.map V.int)) :
 spD K (callF T (defs.map DefT.df) n i) (T.fresh i) [.ref a] H (λv _=>v=.bl true) (λ_ _ _=>False):=by
 refine⟨no,[.lst (ns.map D.int)],λa h=>h.elim,⟨.ref a,[],rfl,⟨a,ns.map V.int,rfl,?_,?_⟩,rfl⟩,.inl ⟨.bl true,hT ns hl,λv H' _ r _=>r⟩⟩
 ·rcases hS with z | z
  ·exact .inl ⟨λq=>q,z⟩
  ·exact .inr z
 ·clear hl hS
  induction ns with
  | nil=>exact rfl
  | cons i r ih=>exact⟨.int i,r.map V.int,rfl,rfl,ih⟩
end
end Tr
namespace Tr
open PySem PySem.Spec PyProof.Rows L2 PySem.W
section
variable {X:Cx} {i:Nat} {x c:Str} {C:Addr} {b:Bool} {p:Expr}
end
noncomputable def isNon:D→Bool
 | .non=>true
 | _=>false
section
variable {T:Tab} {cf:Nat→List D→Res D}
end
section
variable {K:PySem.W.Frag} {mg:Str→Option Value} {T:Tab} {Tx:Txt} {defs:List DefT}
end
section
variable {K:PySem.W.Frag} {mg:Str→Option Value} {T:Tab} {Tx:Txt} {defs:List DefT}
theorem text_plain (X:TextOk0 K mg T Tx defs) (h:defs.filter (λt=>t.told.isSome)=[]):TextOk K mg T Tx defs :=
 ⟨X,λt ht td e=>by
  have:t∈defs.filter (λt=>t.told.isSome):=List.mem_filter.mpr ⟨ht,by rw[e];rfl⟩
  rw[h] at this;exact (nomatch this),λi t hi hs=>by
  have:t∈defs.filter (λt=>t.told.isSome):=List.mem_filter.mpr ⟨List.mem_of_getElem? hi,hs⟩
  rw[h] at this;cases this⟩
end
section
variable {K:PySem.W.Frag} {mg:Str→Option Value} {T:Tab} {Tx:Txt} {defs:List DefT}
end
section
variable {K:PySem.W.Frag} {mg:Str→Option Value} {T:Tab} {Tx:Txt} {defs:List DefT}
end
end Tr
namespace Tr
open PySem PySem.Spec PyProof.Rows L2
theorem len1 {P:List Value→Prop} (h:∀a0:Value,P [a0]):∀us:List Value,us.length=1→P us
 | [_],_=>h _
theorem len2 {P:List Value→Prop} (h:∀a0 a1:Value,P [a0,a1]):∀us:List Value,us.length=2→P us
 | [_,_],_=>h _ _
theorem len3 {P:List Value→Prop} (h:∀a0 a1 a2:Value,P [a0,a1,a2]):∀us:List Value,us.length=3→P us
 | [_,_,_],_=>h _ _ _
theorem len4 {P:List Value→Prop} (h:∀a0 a1 a2 a3:Value,P [a0,a1,a2,a3]):∀us:List Value,us.length=4→P us
 | [_,_,_,_],_=>h _ _ _ _
theorem len5 {P:List Value→Prop} (h:∀a0 a1 a2 a3 a4:Value,P [a0,a1,a2,a3,a4]):∀us:List Value,us.length=5→P us
 | [_,_,_,_,_],_=>h _ _ _ _ _
theorem len6 {P:List Value→Prop} (h:∀a0 a1 a2 a3 a4 a5:Value,P [a0,a1,a2,a3,a4,a5]):∀us:List Value,us.length=6→P us
 | [_,_,_,_,_,_],_=>h _ _ _ _ _ _
theorem fun_in {K:PySem.W.Frag} {h:Heap} {mg:Str→Option Value} (X:K.In h) (G:h.Ns mainGlobals mg) {x:Str} {st:Stmt} {ps:List Str} {f:Addr} {oc:Value} {od an:Option Addr} {osl:Array (Option Value)} {kV doc pm cdv ct:Value}
 (a:PySem.W.nsIn K mainGlobals x=some (some (.ref f))) (l:K.lookup f=some ⟨oc,od,.func (PySem.W.fnOf x x (defArgs st) (defBody st) (defScope st) .none kV doc pm an cdv ct),osl⟩)
 (c:PySem.W.codeIn K cdv x=true) (k:PySem.W.keepIn K (.ref f)=true)
 (hb:∀(kV doc pm:Value) (an:Option Addr) (cdv ct:Value) (us:List Value),us.length=ps.length→bindArgs (PySem.W.fnOf x x (defArgs st) (defBody st) (defScope st) .none kV doc pm an cdv ct) ⟨us,[]⟩=pure (ps.zip us)) :
 ∃f fd,Fun K x x st f fd∧mg x=some (.ref f)∧Binds K fd ps [] :=
 ⟨f,_,fun_mk l c k,PySem.W.mg_of X G a,(fun_mk (st:=st) l c k).binds hb⟩
theorem glob_int {K:PySem.W.Frag} {h:Heap} {mg:Str→Option Value} (X:K.In h) (G:h.Ns mainGlobals mg) {x:Str} {i:Int} {t:Tok} (a:PySem.W.nsIn K mainGlobals x=some (some (.int i t))):GlobK K mg x (.int i) :=
 ⟨.int i,.int i t,PySem.W.mg_of X G a,⟨t,rfl⟩,λ_ _=>rfl⟩
theorem blt_none {K:PySem.W.Frag} {h:Heap} {mg:Str→Option Value} (X:K.In h) (G:h.Ns mainGlobals mg) {x:Str} (a:PySem.W.nsIn K mainGlobals x=some none):mg x=none:=PySem.W.mg_none_of X G a
theorem walkT {l:PySem.W.OpenLaw} {q:Program} {loose:List Str} {XP:(Str→Option Value)→Heap→Prop} {YP:World→Heap→Prop} {d:DefRec} {K:Params→PySem.W.Frag} {T:Tab} {Tx:Txt} {defs:List DefT} {i n:Nat} {tl:DefT} {x:Str}
 (hi:defs[i]?=some tl) (hps:tl.ps=[x]) (hnm:tl.nm=d.name)
 (hn:l.most=some 63) (hdf:d.params.defaults=[]) (hr:Room (n+2) callerA)
 (hT:∀ns:List Int,ns.length≤63→callF T (defs.map DefT.df) n i [.lst (ns.map D.int)]=.ok (.bl true))
 (hY:∀(w:World) (h:Heap),YP w h→(K w.params).In h)
 (hX:∀(w:World) (mg:Str→Option Value) (h:Heap),(K w.params).In h→h.Ns mainGlobals mg→TextOk (K w.params) mg T Tx defs)
 (hb:∀(kV doc pm:Value) (an:Option Addr) (cdv ct:Value) (u:Value),bindArgs (PySem.W.fnOf tl.nm tl.nm (defArgs tl.st) (defBody tl.st) (defScope tl.st) .none kV doc pm an cdv ct) ⟨[u],[]⟩=pure [(x,u)]) (hmv:T.mv i=none:=by rfl) :
 PySem.W.WalkO q loose XP YP l.row.toRowW d [] (λf vs=>PySem.call f vs):=by
 refine L2.walk_of (K:=K) (n:=63) (k:=n+2) (x:=x) (CX:=λw=>CXE l.prog w) (sp:=λw=>spD (K w.params) (callF T (defs.map DefT.df) n i) (T.fresh i)) hn (by decide) hdf hr hY ?_ (λw H a ns hl _ hS=>law_sp hT (K w.params) H a ns hl hS) (λ_ _ _ _ _ h=>by obtain⟨_,_,_,_,_,_,_,_,_,_,_,_,_,_,_,_,_,z⟩:=h;exact z.elim)
 intro w mg fa h KX G hmg
 have tx:=hX w mg h KX G
 obtain⟨f,fd,F,m,_⟩:=tx.funs tl (List.mem_of_getElem? hi)
 rw[hnm,hmg] at m
 cases m
 refine⟨fd,λs u=>?_,λbase kb nb=>?_⟩
 ·obtain⟨oc,od,kV,doc,pm,an,cdv,ct,osl,rfl,lk,hcd⟩:=F.ex
  exact .of_eq (hb kV doc pm an cdv ct u)
 ·have:=defs_ok (P:=l.prog) (w:=w) (base:=base) tx n i tl hi fa fd F
  rw[hps,spOf_none hmv] at this
  exact this
end Tr
namespace Tr
theorem all_cons {α:Type} {p:α→Prop} {a:α} {l:List α} (h:p a) (r:∀x∈l,p x):∀x∈a::l,p x:=List.forall_mem_cons.mpr ⟨h,r⟩
theorem all_nil {α:Type} {p:α→Prop}:∀x∈([]:List α),p x:=λ_ h=>by cases h
theorem gl_cons {α:Type} {p:Nat→α→Prop} {a:α} {l:List α} (h:p 0 a) (r:∀g n,l[g]?=some n→p (g+1) n):∀g n,(a::l)[g]?=some n→p g n
 | 0,n,e=>by simp at e;subst e;exact h
 | g+1,n,e=>r g n (by simpa using e)
theorem gl_nil {α:Type} {p:Nat→α→Prop}:∀g n,([]:List α)[g]?=some n→p g n:=λg n e=>by simp at e
end Tr
namespace Tr
open PySem
section
variable {T:Tab} {cf:Nat→List D→Res D} {e:Nv}
@[simp] theorem evE_var {i:Nat}:evE T cf (.var i) e=(e.at i).val:=id rfl
@[simp] theorem evE_rd {i:Nat}:evE T cf (.rd i) e=(e.at i).any:=id rfl
@[simp] theorem evE_con {d:D}:evE T cf (.con d) e=.ok d:=id rfl
@[simp] theorem evE_glob {g:Nat}:evE T cf (.glob g) e=.ok (T.glob g):=id rfl
@[simp] theorem evE_bin {o:Operator} {a b:E}:evE T cf (.bin o a b) e=(do let x ←evE T cf a e;let y ←evE T cf b e;D.bin o x y):=id rfl
@[simp] theorem evE_cmp {o:CmpOp} {a b:E}:evE T cf (.cmp o a b) e=(do let x ←evE T cf a e;let y ←evE T cf b e;D.cmp o x y):=id rfl
@[simp] theorem evE_and {a b:E}:evE T cf (.and a b) e=(do let x ←evE T cf a e;let k ←x.truth;if k then evE T cf b e else .ok x):=id rfl
@[simp] theorem evE_or {a b:E}:evE T cf (.or a b) e=(do let x ←evE T cf a e;let k ←x.truth;if k then .ok x else evE T cf b e):=id rfl
@[simp] theorem evE_not {a:E}:evE T cf (.not a) e=(do let x ←evE T cf a e;let k ←x.truth;.ok (.bl (!k))):=id rfl
@[simp] theorem evE_ife {c a b:E}:evE T cf (.ife c a b) e=(do let x ←evE T cf c e;let k ←x.truth;if k then evE T cf a e else evE T cf b e):=id rfl
@[simp] theorem evE_ix {a b:E}:evE T cf (.ix a b) e=(do let x ←evE T cf a e;let y ←evE T cf b e;D.ix x y):=id rfl
@[simp] theorem evE_sl {a lo hi:E}:evE T cf (.sl a lo hi) e=(do let x ←evE T cf a e;let l ←evE T cf lo e;let l ←l.part;let h ←evE T cf hi e;let h ←h.part;D.sl x l h):=id rfl
@[simp] theorem evE_omit:evE T cf .omit e=.ok .non:=id rfl
@[simp] theorem evE_tup {a:E}:evE T cf (.tup a) e=(do let xs ←evA T cf a e;.ok (.tup xs)):=id rfl
@[simp] theorem evE_lst {a:E}:evE T cf (.lst a) e=(do let xs ←evA T cf a e;.ok (.lst xs)):=id rfl
@[simp] theorem evE_call {f:Nat} {a:E}:evE T cf (.call f a) e=(do let xs ←evA T cf a e;cf f xs):=id rfl
@[simp] theorem evE_dlit {a b:E}:evE T cf (.dlit a b) e=(do let x ←evE T cf a e;let y ←evE T cf b e;dlitR x y):=id rfl
@[simp] theorem evE_trng {a:E}:evE T cf (.trng a) e=(do let x ←evE T cf a e;trngR x):=id rfl
@[simp] theorem evE_getV {a b:E}:evE T cf (.getV a b) e=(do let x ←evE T cf a e;let y ←evE T cf b e;getR x y):=id rfl
@[simp] theorem evI_seqD {a:E}:evI T cf (.seqD a) e=(do let x ←evE T cf a e;dkeysR x):=id rfl
@[simp] theorem evE_dcl {a:E}:evE T cf (.dcl a) e=(do let x ←evE T cf a e;dclR x):=id rfl
@[simp] theorem evE_bt {b:Bt} {a:E}:evE T cf (.bt b a) e=(do let xs ←evA T cf a e;b.run xs):=id rfl
@[simp] theorem evE_isi {a:E} {t:Ty}:evE T cf (.isi a t) e=(do let x ←evE T cf a e;when (!x.isDct) (.ok (.bl (x.isTy t)))):=id rfl
@[simp] theorem evE_lset {a:E}:evE T cf (.lset a) e=(do let x ←evE T cf a e;x.setN):=id rfl
@[simp] theorem evE_lrng {a:E}:evE T cf (.lrng a) e=(do let x ←evE T cf a e;lrngR x):=id rfl
noncomputable def negR:D→Res D
 | .int i=>.ok (.int (-i))
 | _=>.no
@[simp] theorem neg_int {i:Int}:negR (.int i)=.ok (.int (-i)):=id rfl
@[simp] theorem evE_neg {a:E}:evE T cf (.neg a) e=(evE T cf a e>>=negR):=by
 rw[xE_neg]
 cases evE T cf a e with
 | ok x=>cases x<;>rfl
 | err _ _=>rfl
 | no=>rfl
noncomputable def compF (T:Tab) (cf:Nat→List D→Res D) (own:Nat) (caps:List Nat) (g:G) (elt cond:E) (e:Nv) (d:D):Res (Option D):=do
 let e1 ←g.put d (compEnv own caps e)
 let c ←evE T cf cond e1
 let k ←c.truth
 if k then do let y ←evE T cf elt e1;.ok (some y) else .ok none
@[simp] theorem evE_comp {own:Nat} {caps:List Nat} {g:G} {elt src cond:E}:evE T cf (.comp own caps g elt src cond) e=(do
 let ds ←evI T cf src e
 let ys ←compL (compF T cf own caps g elt cond e) ds
 when (decide (ds.length≤big)) (.ok (.lst ys))):=id rfl
@[simp] theorem evA_nil:evA T cf .anil e=.ok []:=id rfl
@[simp] theorem evA_cons {a r:E}:evA T cf (.acons a r) e=(do let x ←evE T cf a e;let q ←evA T cf r e;when (decide (q.length < 1000)) (.ok (x::q))):=id rfl
@[simp] theorem evI_seq {a:E}:evI T cf (.seq a) e=(do let x ←evE T cf a e;x.items):=id rfl
noncomputable def rngR:D→Res (List D)
 | .int n=>when (small62 n) (.ok (rangeD 0 n.toNat))
 | _=>.no
noncomputable def rng2R:D→D→Res (List D)
 | .int n,.int m=>when (small62 n&&small62 m) (.ok (rangeD n (m - n).toNat))
 | _,_=>.no
noncomputable def enumR:D→Res (List D)
 | .lst ds=>.ok (enumD 0 ds)
 | .tup ds=>.ok (enumD 0 ds)
 | _=>.no
@[simp] theorem evI_rng {a:E}:evI T cf (.rng a) e=(do let x ←evE T cf a e;rngR x):=by
 rw[xI_rng]
 cases evE T cf a e with
 | ok x=>cases x<;>rfl
 | err _ _=>rfl
 | no=>rfl
@[simp] theorem evI_rng2 {a b:E}:evI T cf (.rng2 a b) e=(do let x ←evE T cf a e;match x with | .int _=>do let y ←evE T cf b e;rng2R x y | _=>.no):=by
 rw[xI_rng2]
 cases evE T cf a e with
 | ok x =>
  cases x<;>try rfl
  show (do let y ←evE T cf b e;_)=(do let y ←evE T cf b e;_)
  cases evE T cf b e with
  | ok y=>cases y<;>rfl
  | err _ _=>rfl
  | no=>rfl
 | err _ _=>rfl
 | no=>rfl
@[simp] theorem evI_enum {a:E}:evI T cf (.enum a) e=(do let x ←evE T cf a e;enumR x):=by
 rw[xI_enum]
 cases evE T cf a e with
 | ok x=>cases x<;>rfl
 | err _ _=>rfl
 | no=>rfl
theorem rng_ok {n:Nat} (h:n < 4611686018427387904):rngR (.int n)=.ok (rangeD 0 n):=by
 show when (small62 n) _=_
 rw[when_of (by unfold small62;rw[decide_eq_true (by lia),decide_eq_true (by lia)];rfl)]
 simp
theorem rng2_ok {n m:Nat} (h:n < 4611686018427387904) (h2:m < 4611686018427387904):rng2R (.int n) (.int m)=.ok (rangeD n (m - n)):=by
 show when (small62 n&&small62 m) _=_
 rw[when_of (by unfold small62;rw[decide_eq_true (by lia),decide_eq_true (by lia),decide_eq_true (by lia),decide_eq_true (by lia)];rfl)]
 congr 2
 lia
@[simp] theorem enum_ok {ds:List D}:enumR (.lst ds)=.ok (enumD 0 ds):=id rfl
noncomputable def bodyF (T:Tab) (cf:Nat→List D→Res D) (g:G) (b:S) (d:D) (e0:Nv):Res Out:=do let e1 ←g.put d e0;exS T cf b e1
noncomputable def thenS (T:Tab) (cf:Nat→List D→Res D) (r:S):Out→Res Out
 | .nx e1=>exS T cf r e1
 | o=>.ok o
@[simp] theorem thenS_nx {r:S}:thenS T cf r (.nx e)=exS T cf r e:=id rfl
@[simp] theorem thenS_rt {r:S} {d:D} {k:Bool}:thenS T cf r (.rt d k)=.ok (.rt d k):=id rfl
@[simp] theorem exS_nil:exS T cf .nil e=.ok (.nx e):=id rfl
@[simp] theorem exS_cons {a r:S}:exS T cf (.cons a r) e=(exS T cf a e>>=thenS T cf r):=by
 rw[xS_cons]
 cases exS T cf a e with
 | ok o=>cases o<;>rfl
 | err _ _=>rfl
 | no=>rfl
@[simp] theorem exS_ret {x:E}:exS T cf (.ret x) e=(do let d ←evE T cf x e;.ok (.rt d (freshE T x&&!tupL d))):=id rfl
@[simp] theorem tupL_lst {a:List D}:tupL (.lst a)=false:=id rfl
@[simp] theorem tupL_int {a:Int}:tupL (.int a)=false:=id rfl
@[simp] theorem exS_retO {i:Nat}:exS T cf (.retO i) e=(do let a ←(e.at i).ownA;.ok (.rt a (!a.isDct))):=id rfl
@[simp] theorem exS_newD {i:Nat}:exS T cf (.newD i) e=.ok (.nx (e.set i (.o (.dct [])))):=id rfl
@[simp] theorem exS_newT {i:Nat}:exS T cf (.newT i) e=.ok (.nx (e.set i (.o (.tdc [])))):=id rfl
@[simp] theorem exS_dputV {i:Nat} {k x:E}:exS T cf (.dputV i k x) e=(do
 let d ←evE T cf x e
 let a ←(e.at i).ownT
 let y ←evE T cf k e
 let key ←keyV y
 when (decide (a.length < big)) (.ok (.nx (e.set i (.o (.tdc (putTD a key d))))))):=id rfl
@[simp] theorem exS_asg {g:G} {x:E}:exS T cf (.asg g x) e=(do let d ←evE T cf x e;let e1 ←g.put d e;.ok (.nx e1)):=id rfl
noncomputable def setO (k:Bool) (i:Nat) (e:Nv):D→Res Out
 | .lst a=>when k (.ok (.nx (e.set i (.o (.lst a)))))
 | .dct a=>when k (.ok (.nx (e.set i (.o (.dct a)))))
 | .tdc a=>when k (.ok (.nx (e.set i (.o (.tdc a)))))
 | _=>.no
@[simp] theorem setO_ok {i:Nat} {a:List D}:setO true i e (.lst a)=.ok (.nx (e.set i (.o (.lst a)))):=id rfl
@[simp] theorem exS_asgO {i:Nat} {x:E}:exS T cf (.asgO i x) e=(do let d ←evE T cf x e;setO (freshE T x) i e d):=by
 rw[xS_asgO]
 cases evE T cf x e with
 | ok o=>cases o<;>rfl
 | err _ _=>rfl
 | no=>rfl
@[simp] theorem exS_ite {c:E} {a b:S}:exS T cf (.ite c a b) e=(do let x ←evE T cf c e;let k ←x.truth;if k then exS T cf a e else exS T cf b e):=id rfl
@[simp] theorem exS_for {g:G} {src:E} {b:S}:exS T cf (.forS g src b) e=(do let ds ←evI T cf src e;forL (bodyF T cf g b) ds e):=id rfl
@[simp] theorem exS_app {i:Nat} {x:E}:exS T cf (.app i x) e=(do
 let d ←evE T cf x e
 let a ←(e.at i).own
 when (decide (a.length < big)) (.ok (.nx (e.set i (.o (.lst (a++[d]))))))):=id rfl
@[simp] theorem exS_rev {i:Nat}:exS T cf (.rev i) e=(do let a ←(e.at i).own;.ok (.nx (e.set i (.o (.lst a.reverse))))):=id rfl
@[simp] theorem exS_dput {i:Nat} {k x:E}:exS T cf (.dput i k x) e=(do
 let d ←evE T cf x e
 let a ←(e.at i).ownD
 let y ←evE T cf k e
 let key ←Res.of (keyOf y)
 when (decide (a.length < big)) (.ok (.nx (e.set i (.o (.dct (putKD a key d))))))):=id rfl
noncomputable def extO (k:Bool) (i:Nat) (e:Nv):D→Res Out
 | .lst b=>do
  let a ←(e.at i).own
  when (k&&decide (a.length+b.length≤big)) (.ok (.nx (e.set i (.o (.lst (a++b))))))
 | _=>.no
@[simp] theorem extO_eq {k:Bool} {i:Nat} {b:List D}:extO k i e (.lst b)=(do
 let a ←(e.at i).own
 when (k&&decide (a.length+b.length≤big)) (.ok (.nx (e.set i (.o (.lst (a++b))))))):=id rfl
@[simp] theorem exS_ext {i:Nat} {x:E}:exS T cf (.ext i x) e=(do let d ←evE T cf x e;extO (freshE T x) i e d):=by
 rw[xS_ext]
 cases evE T cf x e with
 | ok o=>cases o<;>rfl
 | err _ _=>rfl
 | no=>rfl
@[simp] theorem fresh_lst {a:E}:freshE T (.lst a)=true:=id rfl
@[simp] theorem fresh_sl {a b c:E}:freshE T (.sl a b c)=true:=id rfl
@[simp] theorem fresh_add {a b:E}:freshE T (.bin .Add a b)=true:=id rfl
@[simp] theorem fresh_comp {n:Nat} {c:List Nat} {g:G} {x y z:E}:freshE T (.comp n c g x y z)=true:=id rfl
@[simp] theorem fresh_call {f:Nat} {a:E}:freshE T (.call f a)=T.fresh f:=id rfl
end
@[simp] theorem when_if {α:Type} {c:Bool} (h:c=true) (r:Res α):when c r=r:=when_of h r
@[simp] theorem at_zero {x:Sl} {r:List Sl}:Nv.at (x::r) 0=x:=id rfl
@[simp] theorem at_succ {x:Sl} {r:List Sl} {i:Nat}:Nv.at (x::r) (i+1)=Nv.at r i:=id rfl
@[simp] theorem val_v {d:D}:(Sl.v d).val=.ok d:=id rfl
@[simp] theorem any_o {d:D}:(Sl.o d).any=.ok d:=id rfl
@[simp] theorem own_o {a:List D}:(Sl.o (.lst a)).own=.ok a:=id rfl
@[simp] theorem ownA_o {d:D}:(Sl.o d).ownA=.ok d:=id rfl
@[simp] theorem ownT_o {a:List (List (Sum Int Str)×D)}:(Sl.o (.tdc a)).ownT=.ok a:=id rfl
@[simp] theorem ownD_o {a:List (Sum Int Str×D)}:(Sl.o (.dct a)).ownD=.ok a:=id rfl
@[simp] theorem key_int {i:Int}:Res.of (keyOf (.int i))=.ok (.inl i):=id rfl
@[simp] theorem isDct_lst {i:List D}:(D.lst i).isDct=false:=id rfl
theorem cmp_in_dct {k:D} {kvs:List (Sum Int Str×D)}:D.cmp .In k (.dct kvs)=(do let q ←Res.of (keyOf k);.ok (.bl (valK kvs q).isSome)):=by
 show (do let b ←(do let q ←Res.of (keyOf k);.ok (valK kvs q).isSome:Res Bool);.ok (D.bl b))=_
 cases Res.of (keyOf k)<;>rfl
theorem ix_dct {k:D} {kvs:List (Sum Int Str×D)}:D.ix (.dct kvs) k=(do let q ←Res.of (keyOf k);Res.of (valK kvs q)):=by cases k<;>rfl
@[simp] theorem put_one {i:Nat} {d:D} {e:Nv}:G.put (.one i) d e=.ok (e.set i (.v d)):=id rfl
@[simp] theorem put_many {is:List Nat} {ds:List D} {e:Nv}:G.put (.many is) (.tup ds) e=puts is ds e:=id rfl
@[simp] theorem puts_nil {e:Nv}:puts [] [] e=.ok e:=id rfl
@[simp] theorem puts_cons {i:Nat} {is:List Nat} {d:D} {ds:List D} {e:Nv}:puts (i::is) (d::ds) e=puts is ds (e.set i (.v d)):=id rfl
@[simp] theorem truth_bl {b:Bool}:(D.bl b).truth=.ok b:=id rfl
@[simp] theorem bin_add {i j:Int}:D.bin .Add (.int i) (.int j)=.ok (.int (i+j)):=id rfl
@[simp] theorem bin_sub {i j:Int}:D.bin .Sub (.int i) (.int j)=.ok (.int (i - j)):=id rfl
@[simp] theorem bin_mulL {i j:Int} (h:-(2^64) < i∧i < 2^64):D.bin .Mult (.int i) (.int j)=.ok (.int (i*j)):=by
 show when (small64 i||small64 j) _=_
 rw[when_of]
 unfold small64
 rw[decide_eq_true h.1,decide_eq_true h.2];rfl
@[simp] theorem bin_mulR {i j:Int} (h:-(2^64) < j∧j < 2^64):D.bin .Mult (.int i) (.int j)=.ok (.int (i*j)):=by
 show when (small64 i||small64 j) _=_
 rw[when_of]
 unfold small64
 rw[decide_eq_true h.1,decide_eq_true h.2];simp
@[simp] theorem bin_mod {i j:Int} (h:0 < j):D.bin .Mod (.int i) (.int j)=.ok (.int (i % j)):=by
 show when (decide (0 < j)) _=_
 rw[when_of (decide_eq_true h)]
@[simp] theorem bin_fdiv {i j:Int} (h:0 < j∧j < 1073741824):D.bin .FloorDiv (.int i) (.int j)=.ok (.int (i / j)):=by
 show when (decide (0 < j)&&decide (j < 1073741824)) _=_
 rw[when_of]
 rw[decide_eq_true h.1,decide_eq_true h.2];rfl
theorem bin_pow {i j:Int} (h:0≤j∧j≤1000000∧i.natAbs < 2^64):D.bin .Pow (.int i) (.int j)=.ok (.int (i^j.toNat)):=by
 show when (decide (0≤j)&&decide (j≤1000000)&&decide (i.natAbs < 2^64)) _=_
 rw[when_of]
 rw[decide_eq_true h.1,decide_eq_true h.2.1,decide_eq_true h.2.2];rfl
@[simp] theorem bin_pow9:D.bin .Pow (.int 10) (.int 9)=.ok (.int 1000000000):=bin_pow ⟨by decide,by decide,by decide⟩
@[simp] theorem cmp_lt {i j:Int}:D.cmp .Lt (.int i) (.int j)=.ok (.bl (decide (i < j))):=id rfl
@[simp] theorem cmp_le {i j:Int}:D.cmp .LtE (.int i) (.int j)=.ok (.bl (decide (i≤j))):=id rfl
@[simp] theorem cmp_gt {i j:Int}:D.cmp .Gt (.int i) (.int j)=.ok (.bl (decide (j < i))):=id rfl
@[simp] theorem cmp_ge {i j:Int}:D.cmp .GtE (.int i) (.int j)=.ok (.bl (decide (j≤i))):=id rfl
@[simp] theorem cmp_eqi {i j:Int}:D.cmp .Eq (.int i) (.int j)=.ok (.bl (i==j)):=id rfl
@[simp] theorem cmp_nei {i j:Int}:D.cmp .NotEq (.int i) (.int j)=.ok (.bl (!(i==j))):=id rfl
@[simp] theorem cmp_is {a:D}:D.cmp .Is a .non=.ok (.bl a.isNon):=id rfl
@[simp] theorem cmp_isnot {a:D}:D.cmp .IsNot a .non=.ok (.bl (!a.isNon)):=id rfl
@[simp] theorem isNon_non:D.non.isNon=true:=id rfl
@[simp] theorem isNon_int {i:Int}:(D.int i).isNon=false:=id rfl
@[simp] theorem isNon_tup {i:List D}:(D.tup i).isNon=false:=id rfl
@[simp] theorem run_len_l {a:List D}:Bt.run .len [.lst a]=.ok (.int a.length):=id rfl
@[simp] theorem run_len_t {a:List D}:Bt.run .len [.tup a]=.ok (.int a.length):=id rfl
@[simp] theorem run_tup_l {a:List D}:Bt.run .tuple [.lst a]=.ok (.tup a):=id rfl
@[simp] theorem run_int_b {b:Bool}:Bt.run .int [.bl b]=.ok (.int (b2z b)):=id rfl
theorem intsOf_map:∀ns:List Int,intsOf (ns.map D.int)=.ok ns
 | []=>rfl
 | i::r=>by rw[List.map_cons,intsOf,intsOf_map r];rfl
@[simp] theorem run_sum {ns:List Int}:Bt.run .sum [.lst (ns.map D.int)]=.ok (.int ns.sum):=by
 show (do let q ←intsOf (ns.map D.int);.ok (D.int q.sum))=_
 rw[intsOf_map];rfl
@[simp] theorem run_sum_map {α:Type} {f:α→Int} {xs:List α}:Bt.run .sum [.lst (xs.map (D.int∘f))]=.ok (.int (xs.map f).sum):=by rw[←List.map_map,run_sum]
@[simp] theorem part_int {i:Int}:(D.int i).part=.ok (some i):=id rfl
@[simp] theorem part_non:D.non.part=.ok none:=id rfl
@[simp] theorem sl_l {a:List D} {lo hi:Option Int}:D.sl (.lst a) lo hi=.ok (.lst (cut a lo hi)):=id rfl
@[simp] theorem sl_t {a:List D} {lo hi:Option Int}:D.sl (.tup a) lo hi=.ok (.tup (cut a lo hi)):=id rfl
@[simp] theorem items_l {a:List D}:(D.lst a).items=.ok a:=id rfl
@[simp] theorem items_t {a:List D}:(D.tup a).items=.ok a:=id rfl
theorem ix_l {a:List D} {i:Nat} {d:D} (h:a[i]?=some d):D.ix (.lst a) (.int i)=.ok d:=by
 have hi:=(List.getElem?_eq_some_iff.mp h).1
 show Res.of (atI a i)=_
 unfold atI ixN
 rw[if_pos (Int.natCast_nonneg i),if_pos (by lia)]
 simp[h,Res.of]
theorem ix_t {a:List D} {i:Nat} {d:D} (h:a[i]?=some d):D.ix (.tup a) (.int i)=.ok d:=by
 have hi:=(List.getElem?_eq_some_iff.mp h).1
 show Res.of (atI a i)=_
 unfold atI ixN
 rw[if_pos (Int.natCast_nonneg i),if_pos (by lia)]
 simp[h,Res.of]
theorem callF_rt {T:Tab} {D:List Df} {n f:Nat} {ds:List Tr.D} {d:Df} {x:Tr.D} {k:Bool} (h:D[f]?=some d) (hl:ds.length=d.pars) (hk:(k||!T.fresh f)=true)
 (he:exS T (callF T D n) d.body (ds.map Sl.v++List.replicate (d.names - d.pars) Sl.no)=.ok (.rt x k)) (ht:d.told=none:=by rfl) (hm:T.mv f=none:=by rfl):callF T D (n+1) f ds=.ok x:=by
 rw[callF,h]
 show when (ds.length==d.pars) _=_
 rw[when_of (by simpa using hl),ht,hm,show startE none ds=ds.map Sl.v from rfl]
 cases hx:exX T (callF T D n) d.body (ds.map Sl.v++List.replicate (d.names - d.pars) Sl.no) with
 | some z=>exact absurd he (exX_not hx _)
 | none =>
  dsimp only
  rw[he]
  show when (k||!T.fresh f) _=_
  rw[when_of hk]
@[simp] theorem ix_t0 {a:D} {r:List D}:D.ix (.tup (a::r)) (.int 0)=.ok a:=ix_t (i:=0) rfl
@[simp] theorem ix_t1 {a b:D} {r:List D}:D.ix (.tup (a::b::r)) (.int 1)=.ok b:=ix_t (i:=1) rfl
@[simp] theorem ix_t2 {a b c:D} {r:List D}:D.ix (.tup (a::b::c::r)) (.int 2)=.ok c:=ix_t (i:=2) rfl
@[simp] theorem ix_t3 {a b c d:D} {r:List D}:D.ix (.tup (a::b::c::d::r)) (.int 3)=.ok d:=ix_t (i:=3) rfl
theorem forL_nx {f:D→Nv→Res Out} {d:D} {r:List D} {e e1:Nv} (h:f d e=.ok (.nx e1)):forL f (d::r) e=forL f r e1:=by rw[forL,h];rfl
theorem forL_ct {f:D→Nv→Res Out} {d:D} {r:List D} {e e1:Nv} (h:f d e=.ok (.ct e1)):forL f (d::r) e=forL f r e1:=by rw[forL,h];rfl
theorem forL_rt {f:D→Nv→Res Out} {d:D} {r:List D} {e:Nv} {x:D} {k:Bool} (h:f d e=.ok (.rt x k)):forL f (d::r) e=.ok (.rt x k):=by rw[forL,h];rfl
theorem forL_inv {f:D→Nv→Res Out} (I:Nat→Nv→Prop):∀(ds:List D) (e:Nv) (j:Nat),I j e→(∀i d e,ds[i]?=some d→I (j+i) e→∃e',(f d e=.ok (.nx e')∨f d e=.ok (.ct e'))∧I (j+i+1) e')→∃e',forL f ds e=.ok (.nx e')∧I (j+ds.length) e'
 | [],e,j,h,_=>⟨e,rfl,h⟩
 | d::r,e,j,h,st=>by
  obtain⟨e1,h1,h2⟩:=st 0 d e rfl h
  obtain⟨e2,h3,h4⟩:=forL_inv I r e1 (j+1) h2 λi d' e' hd hI=>by
   have:=st (i+1) d' e' (by simpa using hd) (by rw[show j+(i+1)=j+1+i by lia];exact hI)
   rw[show j+(i+1)+1=j+1+i+1 by lia] at this
   exact this
  refine⟨e2,?_,by rw[List.length_cons,show j+(r.length+1)=j+1+r.length by lia];exact h4⟩
  rcases h1 with h1 | h1
  ·rw[forL_nx h1,h3]
  ·rw[forL_ct h1,h3]
theorem rangeD_eq:∀(lo:Int) (n:Nat),rangeD lo n=(List.range n).map λi=>.int (lo+(i:Int))
 | lo,0=>rfl
 | lo,n+1=>by
  rw[rangeD,rangeD_eq (lo+1) n,List.range_succ_eq_map,List.map_cons,List.map_map]
  congr 1
  ·simp
  ·apply List.map_congr_left
   intro i _
   simp only[Function.comp]
   congr 1
   push_cast
   lia
theorem rangeD_at {lo:Int} {n i:Nat} {d:D} (h:(rangeD lo n)[i]?=some d):i < n∧d=.int (lo+i):=by
 rw[rangeD_eq,List.getElem?_map] at h
 cases e:(List.range n)[i]? with
 | none=>rw[e] at h;cases h
 | some j =>
  rw[e] at h
  cases h
  obtain⟨hi,e2⟩:=List.getElem?_eq_some_iff.mp e
  simp at hi e2
  subst e2
  exact⟨hi,rfl⟩
@[simp] theorem rangeD_length {lo:Int} {n:Nat}:(rangeD lo n).length=n:=by rw[rangeD_eq];simp
theorem enumD_at:∀ {k:Int} {ds:List D} {i:Nat} {d:D},(enumD k ds)[i]?=some d→∃x,ds[i]?=some x∧d=.tup [.int (k+i),x]
 | k,[],i,d,h=>by simp[enumD] at h
 | k,x::r,0,d,h=>by simp[enumD] at h;exact⟨x,rfl,by rw[←h];simp⟩
 | k,x::r,i+1,d,h=>by
  rw[enumD,List.getElem?_cons_succ] at h
  obtain⟨y,h1,h2⟩:=enumD_at h
  refine⟨y,by simpa using h1,?_⟩
  rw[h2]
  congr 3
  push_cast
  lia
@[simp] theorem enumD_length:∀ {k:Int} {ds:List D},(enumD k ds).length=ds.length
 | k,[]=>rfl
 | k,x::r=>by rw[enumD,List.length_cons,List.length_cons,enumD_length]
theorem compL_ok {f:D→Res (Option D)} (g:D→Option D):∀ {ds:List D},(∀d∈ds,f d=.ok (g d))→compL f ds=.ok (ds.filterMap g)
 | [],_=>rfl
 | d::r,h=>by
  rw[compL,h d List.mem_cons_self,Res.ok_bind,compL_ok g (λx hx=>h x (List.mem_cons_of_mem _ hx)),Res.ok_bind,List.filterMap_cons]
  cases g d<;>rfl
end Tr
set_option maxRecDepth 100000
namespace Tr
open PySem
noncomputable def cellV (ns:List Int) (k:Nat):Int:=ns.getD k 0
noncomputable def mixV (c k:Int):Int:=(c*48271+k*k*69621+5) % 2147483647
theorem mixV_lo (c k:Int):0≤mixV c k:=by unfold mixV;lia
theorem mixV_hi (c k:Int):mixV c k < 2147483647:=by unfold mixV;lia
noncomputable def minV (n:Int):Int:=([0,n / 5 % 7,n / 5 % 31,n / 5 % 400,n*n % 1000000000]:List Int).getD (n % 5).toNat 0
theorem five (m:Int):m % 5=0∨m % 5=1∨m % 5=2∨m % 5=3∨m % 5=4:=by lia
theorem minV_lo (n:Int):0≤minV n:=by
 unfold minV
 rcases five n with h | h | h | h | h<;>rw[h]<;>simp<;>lia
set_option genInjectivity false in
structure Part where
 name:Str
 voice:Str
 off:Int
 on:Int
noncomputable def Part.enc (p:Part):D:=.tup [.str p.name,.str p.voice,.int p.off,.int p.on]
structure Scene where
 name:Str
 len:Int
 pause:Int
 who:List Nat
noncomputable def natD (ws:List Nat):List D:=ws.map λ(i:Nat)=>D.int (i:Int)
noncomputable def Scene.enc (s:Scene):D:=.tup [.str s.name,.int s.len,.int s.pause,.tup (natD s.who)]
theorem ix_str {x:Str} {i:Nat} (h:i < x.cps.size) (hb:x.length≤big):∃y:Str,D.ix (.str x) (.int i)=.ok (.str y)∧y.length=1:=by
 refine⟨⟨#[x.cps[i]]⟩,?_,rfl⟩
 show when (decide (x.length≤big)) (Res.of ((atI x.cps.toList i).map λc=>D.str ⟨#[c]⟩))=_
 rw[when_of (decide_eq_true hb)]
 unfold atI ixN
 rw[if_pos (Int.natCast_nonneg i),if_pos (by simp;lia)]
 simp[h,Res.of]
theorem ix_strI {x:Str} {i:Int} (h0:0≤i) (h:i.toNat < x.cps.size) (hb:x.length≤big):∃y:Str,D.ix (.str x) (.int i)=.ok (.str y)∧y.length=1:=by
 obtain⟨n,rfl⟩:=Int.eq_ofNat_of_zero_le h0
 exact ix_str (by simpa using h) hb
@[simp] theorem add_str {x y:Str} (h:x.length+y.length≤big):D.bin .Add (.str x) (.str y)=.ok (.str (x++y)):=by
 show when (decide (x.length+y.length≤big)) _=_
 rw[when_of (decide_eq_true h)]
theorem ix2i {a b:Int} {c:Bool}:D.ix (.lst [.int a,.int b]) (.int (b2z c))=.ok (.int (if c=true then b else a)):=by cases c<;>rfl
theorem nodup_rev {l:List Nat} (h:l.Nodup):l.reverse.Nodup:=List.pairwise_reverse.mpr (h.imp λh=>Ne.symm h)
theorem size_ah:("abcdefgh" : Str).cps.size=8:=by decide +kernel
theorem size_stb:("stb" : Str).cps.size=3:=by decide +kernel
theorem size_ax:("abcdefghijklmnopqrstuvwx" : Str).cps.size=24:=by decide +kernel
theorem ten_big:(1000:Nat) < big:=by decide
set_option genInjectivity false in
structure GoodScene (many:Nat) (s:Scene):Prop where
 len:0≤s.len
 pause:0≤s.pause
 nd:s.who.Nodup
 lt:∀i∈s.who,i < many
theorem natD_length (ws:List Nat):(natD ws).length=ws.length:=by unfold natD;simp
theorem natD_mem (i:Nat):∀ws:List Nat,D.mem (.int i) (natD ws)=decide (i∈ws)
 | []=>rfl
 | w::r=>by
  show (D.eqb (.int w) (.int i)||D.mem (.int i) (natD r))=_
  rw[natD_mem i r]
  have:D.eqb (.int w) (.int i)=decide (i=w):=by
   show ((w:Int)==(i:Int))=_
   by_cases h:i=w
   ·subst h;simp
   ·rw[decide_eq_false h];simp;lia
  rw[this]
  by_cases h1:i=w<;>by_cases h2:i∈r<;>simp[h1,h2]
theorem natD_pls (k:Nat):∀ws:List Nat,D.pls (k+1) (natD ws)=true
 | []=>rfl
 | w::r=>by
  show (D.pl k (.int w)&&D.pls (k+1) (natD r))=true
  rw[natD_pls k r];cases k<;>rfl
@[simp] theorem inn_natD {i:Nat} {ws:List Nat}:D.cmp .In (.int i) (.tup (natD ws))=.ok (.bl (decide (i∈ws))):=by
 show (do let k ←D.inn (.int i) (.tup (natD ws));.ok (D.bl k))=_
 show (do let k ←when (D.pls 30 (natD ws)&&D.pl 29 (.int i)) (.ok (D.mem (.int i) (natD ws)));.ok (D.bl k))=_
 rw[natD_pls,natD_mem];rfl
theorem pls_map {α:Type} (f:α→D) (k:Nat) (h:∀a,D.pl k (f a)=true):∀xs:List α,D.pls (k+1) (xs.map f)=true
 | []=>rfl
 | a::r=>by rw[List.map_cons,D.pls,h a,pls_map f k h r];rfl
@[simp] theorem pl_tup {n:Nat} {a:List D}:D.pl n (.tup a)=D.pls n a:=by rw[D.pl]
@[simp] theorem pl_lst {n:Nat} {a:List D}:D.pl n (.lst a)=D.pls n a:=by rw[D.pl]
theorem cmp_same {a:D} (h:D.pl 30 a=true):D.cmp .Eq a a=.ok (.bl true):=by
 show when (D.eqOk a a) (.ok (D.bl (D.eqb a a)))=_
 rw[D.eqb_refl 30 a h,when_of (by unfold D.eqOk;rw[h];rfl)]
noncomputable def Scene.both (s:Scene):Int:=s.len+s.pause
noncomputable def between (ss:List Scene) (s t:Nat):Int:=((ss[s]?).map Scene.pause).getD 0+(((ss.drop (s+1)).take (t - (s+1))).map Scene.both).sum
theorem between_next (ss:List Scene) (s:Nat):between ss s (s+1)=((ss[s]?).map Scene.pause).getD 0:=by unfold between;simp
theorem take_add_one {α:Type} (l:List α) (n:Nat) (a:α) (h:l[n]?=some a):l.take (n+1)=l.take n++[a]:=by
 rw[List.take_add_one,h];rfl
theorem between_succ {ss:List Scene} {s t:Nat} {x:Scene} (h:s < t) (hx:ss[t]?=some x):between ss s (t+1)=between ss s t+x.both:=by
 unfold between
 have e:(ss.drop (s+1))[t - (s+1)]?=some x:=by rw[List.getElem?_drop,show s+1+(t - (s+1))=t by lia];exact hx
 rw[show t+1 - (s+1)=t - (s+1)+1 by lia,take_add_one _ _ _ e,List.map_append,List.sum_append]
 simp
 lia
theorem cut_nn {α:Type} {xs:List α} {a b:Nat} (ha:a≤xs.length) (hb:b≤xs.length):cut xs (some (a:Int)) (some (b:Int))=(xs.drop a).take (b - a):=by
 unfold cut sIx
 simp only[]
 rw[if_neg (by lia),if_neg (by lia),Int.toNat_natCast,Int.toNat_natCast,Nat.min_eq_left ha,Nat.min_eq_left hb]
theorem ss_at {ss:List Scene} {s:Nat} {x:Scene} (h:ss[s]?=some x):D.ix (.tup (ss.map Scene.enc)) (.int s)=.ok x.enc:=ix_t (by rw[List.getElem?_map,h];rfl)
theorem ps_at {ss:List Part} {s:Nat} {x:Part} (h:ss[s]?=some x):D.ix (.tup (ss.map Part.enc)) (.int s)=.ok x.enc:=ix_t (by rw[List.getElem?_map,h];rfl)
@[simp] theorem enc1 {s:Scene}:D.ix s.enc (.int 1)=.ok (.int s.len):=ix_t1
@[simp] theorem enc2 {s:Scene}:D.ix s.enc (.int 2)=.ok (.int s.pause):=ix_t2
@[simp] theorem enc3 {s:Scene}:D.ix s.enc (.int 3)=.ok (.tup (natD s.who)):=ix_t3
@[simp] theorem penc2 {s:Part}:D.ix s.enc (.int 2)=.ok (.int s.off):=ix_t2
@[simp] theorem penc3 {s:Part}:D.ix s.enc (.int 3)=.ok (.int s.on):=ix_t3
@[simp] theorem run_len_map {α:Type} {f:α→D} {xs:List α}:Bt.run .len [.tup (xs.map f)]=.ok (.int xs.length):=by rw[run_len_t,List.length_map]
end Tr
set_option maxRecDepth 100000
namespace Tr
open PySem
noncomputable def natI (t:Nat):D:=.int (t:Int)
theorem rangeD_nat (lo n:Nat):rangeD (lo:Int) n=(List.range' lo n).map natI:=by
 rw[rangeD_eq,List.range'_eq_map_range,List.map_map]
 apply List.map_congr_left
 intro i _
 simp[natI]
theorem rng_nat {n:Nat} (h:n≤1000):rngR (.int (n:Int))=.ok ((List.range n).map natI):=by
 rw[rng_ok (by lia),rangeD_eq]
 congr 1
 apply List.map_congr_left
 intro i _
 simp[natI]
theorem rng2_succ {s m:Nat} (h:s≤1000) (h2:m≤1000):rng2R (.int ((s:Int)+1)) (.int (m:Int))=.ok ((List.range' (s+1) (m - (s+1))).map natI):=by
 have:rng2R (.int ((s+1:Nat):Int)) (.int (m:Int))=_:=rng2_ok (by lia) (by lia)
 rw[rangeD_nat] at this
 exact this
theorem forL_findN {f:D→Nv→Res Out} (I:Nv→Prop) (g:Nat→Option (D×Bool)) (ts:List Nat) (e:Nv) (h:I e)
 (st:∀t∈ts,∀e,I e→match g t with | some (x,k)=>f (natI t) e=.ok (.rt x k) | none=>∃e',(f (natI t) e=.ok (.nx e')∨f (natI t) e=.ok (.ct e'))∧I e') :
 match ts.findSome? g with | some (x,k)=>forL f (ts.map natI) e=.ok (.rt x k) | none=>∃e',forL f (ts.map natI) e=.ok (.nx e')∧I e':=by
 induction ts generalizing e with
 | nil=>exact⟨e,rfl,h⟩
 | cons t r ih =>
  have h1:=st t List.mem_cons_self e h
  rw[List.findSome?_cons,List.map_cons]
  cases hg:g t with
  | some y =>
   rw[hg] at h1
   exact forL_rt h1
  | none =>
   rw[hg] at h1
   obtain⟨e',h2,h3⟩:=h1
   have eq:forL f (natI t::r.map natI) e=forL f (r.map natI) e':=by
    rcases h2 with h2 | h2
    ·exact forL_nx h2
    ·exact forL_ct h2
   rw[eq]
   exact ih e' h3 λd' hd=>st d' (List.mem_cons_of_mem _ hd)
theorem findSome_omap {α β γ:Type} (h:α→Option β) (F:β→γ):∀l:List α,l.findSome? (λt=>(h t).map F)=(l.findSome? h).map F
 | []=>rfl
 | a::r=>by
  rw[List.findSome?_cons,List.findSome?_cons]
  cases e:h a with
  | none=>simp[findSome_omap h F r]
  | some b=>rfl
inductive Rz where
 | sc (s:Nat) | ch (s t:Nat) (have_ need:Int)
noncomputable def Rz.enc:Rz→D
 | .sc s=>.tup [.str "scene", .int s]
 | .ch s t h n=>.tup [.str "change", .int s,.int t,.int h,.int n]
noncomputable def optR:Option Rz→D
 | none=>.non
 | some r=>r.enc
@[simp] theorem isNon_optR {o:Option Rz}:(optR o).isNon=o.isNone:=by
 cases o with
 | none=>rfl
 | some r=>cases r<;>rfl
noncomputable def whoAt (ss:List Scene) (t:Nat):List Nat:=((ss[t]?).map Scene.who).getD []
noncomputable def needV (ps:List Part) (i j:Nat):Int:=((ps[i]?).map Part.off).getD 0+((ps[j]?).map Part.on).getD 0
noncomputable def shortAt (ps:List Part) (ss:List Scene) (s one other t:Nat):Option Rz :=
 if other∈whoAt ss t∧between ss s t < needV ps one other then some (.ch s t (between ss s t) (needV ps one other)) else none
noncomputable def shortFrom (ps:List Part) (ss:List Scene) (s one other:Nat):Option Rz:=(List.range' (s+1) (ss.length - (s+1))).findSome? (shortAt ps ss s one other)
noncomputable def reasonFrom (ps:List Part) (ss:List Scene) (i j s:Nat):Option Rz :=
 if i∈whoAt ss s∧j∈whoAt ss s then some (.sc s) else if i∈whoAt ss s then shortFrom ps ss s i j else if j∈whoAt ss s then shortFrom ps ss s j i else none
noncomputable def reasonOf (ps:List Part) (ss:List Scene) (i j:Nat):Option Rz:=(List.range ss.length).findSome? (reasonFrom ps ss i j)
theorem reasonFrom_symm (ps:List Part) (ss:List Scene) (i j s:Nat):reasonFrom ps ss i j s=reasonFrom ps ss j i s:=by
 unfold reasonFrom
 by_cases h1:i∈whoAt ss s<;>by_cases h2:j∈whoAt ss s<;>simp[h1,h2]
noncomputable def begV (ss:List Scene) (k:Nat):Int:=((ss.take k).map Scene.both).sum
theorem begV_succ {ss:List Scene} {k:Nat} {x:Scene} (h:ss[k]?=some x):begV ss (k+1)=begV ss k+x.both:=by
 unfold begV
 rw[take_add_one _ _ _ h,List.map_append,List.sum_append]
 simp
theorem begV_between {ss:List Scene} {s:Nat} {x:Scene} (hx:ss[s]?=some x):∀ {t:Nat},s < t→t≤ss.length→begV ss t - begV ss s - x.len=between ss s t:=by
 intro t
 induction t with
 | zero=>intro h;lia
 | succ t ih =>
  intro h1 h2
  by_cases hs:s=t
  ·subst hs
   rw[begV_succ hx,between_next,hx]
   simp[Scene.both]
   lia
  ·have hy:=List.getElem?_eq_getElem (l:=ss) (i:=t) (by lia)
   rw[begV_succ hy,between_succ (by lia) hy,←ih (by lia) (by lia)]
   lia
theorem who_at {ss:List Scene} {s:Nat} (h:s < ss.length):whoAt ss s=ss[s].who:=by unfold whoAt;rw[List.getElem?_eq_getElem h];rfl
theorem need_at {ps:List Part} {i j:Nat} (h:i < ps.length) (h2:j < ps.length):needV ps i j=ps[i].off+ps[j].on:=by unfold needV;rw[List.getElem?_eq_getElem h,List.getElem?_eq_getElem h2];rfl
noncomputable def Rz.out (r:Rz):D×Bool:=(r.enc,false)
theorem rz_find {f:D→Nv→Res Out} {I:Nv→Prop} {g:Nat→Option Rz} {ts:List Nat} {e:Nv} (h:I e)
 (st:∀t∈ts,∀e,I e→match g t with | some r=>f (natI t) e=.ok (.rt r.enc false) | none=>∃e',f (natI t) e=.ok (.nx e')∧I e') :
 match ts.findSome? g with | some r=>forL f (ts.map natI) e=.ok (.rt r.enc false) | none=>∃e',forL f (ts.map natI) e=.ok (.nx e')∧I e':=by
 have:=forL_findN (f:=f) I (λt=>(g t).map Rz.out) ts e h (by
  intro t ht e he
  have:=st t ht e he
  cases hg:g t with
  | none=>rw[hg] at this;obtain⟨e',h1,h2⟩:=this;exact⟨e',.inl h1,h2⟩
  | some r=>rw[hg] at this;exact this)
 rw[findSome_omap] at this
 cases hg:ts.findSome? g with
 | none=>rw[hg] at this;exact this
 | some r=>rw[hg] at this;exact this
end Tr
set_option maxRecDepth 100000
namespace Tr
open PySem
theorem valK_map (k j:Sum Int Str) (y:D):∀kvs:List (Sum Int Str×D),valK (kvs.map λkv=>if kv.1=k then (kv.1,y) else kv) j=(valK kvs j).map λx=>if j=k then y else x
 | []=>rfl
 | (k',d)::r=>by
  have ih:=valK_map k j y r
  rw[List.map_cons]
  unfold valK at ih ⊢
  by_cases h1:k'=k<;>by_cases h2:k'=j
  ·subst h1;subst h2;simp[List.find?_cons]
  ·rw[if_pos h1]
   simp only[List.find?_cons,h2,decide_false,ih]
  ·have h3:j≠k:=λz=>h1 (h2.trans z)
   rw[if_neg h1]
   simp[List.find?_cons,h2,h3]
  ·rw[if_neg h1]
   simp only[List.find?_cons,h2,decide_false,ih]
theorem valK_any (k:Sum Int Str):∀kvs:List (Sum Int Str×D),(kvs.any λkv=>decide (kv.1=k))=(valK kvs k).isSome
 | []=>rfl
 | (k',d)::r=>by
  have ih:=valK_any k r
  unfold valK at ih ⊢
  by_cases h:k'=k
  ·simp[List.find?_cons,h]
  ·simp only[List.any_cons,List.find?_cons,h,decide_false,Bool.false_or,ih]
theorem valK_snoc (k j:Sum Int Str) (y:D):∀kvs:List (Sum Int Str×D),valK kvs k=none→valK (kvs++[(k,y)]) j=if j=k then some y else valK kvs j
 | [],_=>by
  by_cases h:k=j
  ·subst h;simp[valK,List.find?_cons]
  ·have h':¬j=k:=λz=>h z.symm
   simp[valK,List.find?_cons,h,h']
 | (k',d)::r,hn=>by
  have hk:¬k'=k:=λz=>by subst z;simp[valK,List.find?_cons] at hn
  have hn':valK r k=none:=by simpa[valK,List.find?_cons,hk] using hn
  have ih:=valK_snoc k j y r hn'
  unfold valK at ih ⊢
  by_cases h:k'=j
  ·have h':¬j=k:=λz=>hk (h.trans z)
   simp[List.find?_cons,h,h']
  ·simp only[List.cons_append,List.find?_cons,h,decide_false,ih]
theorem valK_put (kvs:List (Sum Int Str×D)) (k j:Sum Int Str) (y:D):valK (putKD kvs k y) j=if j=k then some y else valK kvs j:=by
 unfold putKD
 rw[valK_any]
 cases h:valK kvs k with
 | none =>
  rw[if_neg (by simp)]
  exact valK_snoc k j y kvs h
 | some x =>
  rw[if_pos (by simp),valK_map]
  by_cases e:j=k
  ·subst e;rw[h];simp
  ·rw[if_neg e]
   cases valK kvs j<;>simp[e]
theorem putKD_length (kvs:List (Sum Int Str×D)) (k:Sum Int Str) (y:D):(putKD kvs k y).length≤kvs.length+1:=by
 unfold putKD
 split
 ·simp
 ·simp
theorem compL_enc {α:Type} {f:D→Res (Option D)} (enc:α→D) (g:α→Option D):∀ {xs:List α},(∀a∈xs,f (enc a)=.ok (g a))→compL f (xs.map enc)=.ok (xs.filterMap g)
 | [],_=>rfl
 | a::r,h=>by
  rw[List.map_cons,compL,h a List.mem_cons_self,Res.ok_bind,compL_enc enc g λx hx=>h x (List.mem_cons_of_mem _ hx),Res.ok_bind,List.filterMap_cons]
  cases g a<;>rfl
theorem compL_keep {α:Type} {f:D→Res (Option D)} (enc:α→D) (p:α→Bool) {xs:List α} (h:∀a∈xs,f (enc a)=.ok (if p a=true then some (enc a) else none)):compL f (xs.map enc)=.ok ((xs.filter p).map enc):=by
 rw[compL_enc enc (λa=>if p a=true then some (enc a) else none) h]
 congr 1
 induction xs with
 | nil=>rfl
 | cons a r ih =>
  rw[List.filterMap_cons,List.filter_cons,ih λx hx=>h x (List.mem_cons_of_mem _ hx)]
  cases p a<;>rfl
noncomputable def pairD (p:Nat×Nat):D:=.tup [.int p.1,.int p.2]
noncomputable def pairsFrom (many i:Nat):List (Nat×Nat):=(List.range' (i+1) (many - (i+1))).map λj=>(i,j)
noncomputable def pairsTo (many:Nat):Nat→List (Nat×Nat)
 | 0=>[]
 | k+1=>pairsTo many k++pairsFrom many k
noncomputable def pairsOf (many:Nat):List (Nat×Nat):=pairsTo many many
theorem pairsTo_length (many:Nat):∀k,(pairsTo many k).length≤k*many
 | 0=>by simp[pairsTo]
 | k+1=>by
  have:=pairsTo_length many k
  rw[pairsTo,List.length_append,pairsFrom,List.length_map,List.length_range',Nat.succ_mul]
  lia
theorem pair_pl (k:Nat) (p:Nat×Nat):D.pl (k+1) (pairD p)=true:=by
 show D.pls (k+1) [D.int p.1,.int p.2]=true
 simp only[D.pls,D.pl,Bool.and_true,Bool.true_and]
noncomputable def lenAt (ss:List Scene) (t:Nat):Int:=((ss[t]?).map Scene.len).getD 0
noncomputable def lastEnd (ss:List Scene) (one:Nat):Nat→Option Int
 | 0=>none
 | k+1=>if one∈whoAt ss k then some (begV ss k+lenAt ss k) else lastEnd ss one k
noncomputable def hitAt (ps:List Part) (ss:List Scene) (one other t:Nat):Bool :=
 decide (other∈whoAt ss t)&&(match lastEnd ss one t with | some e=>decide (begV ss t - e < needV ps one other) | none=>false)
noncomputable def hit (ps:List Part) (ss:List Scene) (i j t:Nat):Bool:=(decide (i∈whoAt ss t)&&decide (j∈whoAt ss t))||hitAt ps ss i j t||hitAt ps ss j i t
theorem lastEnd_some {ss:List Scene} {one:Nat} {e:Int}:∀ {t:Nat},lastEnd ss one t=some e→∃s,s < t∧one∈whoAt ss s∧e=begV ss s+lenAt ss s
 | 0,h=>by cases h
 | t+1,h=>by
  rw[lastEnd] at h
  split at h
  ·rename_i hw
   cases h
   exact⟨t,Nat.lt_succ_self t,hw,rfl⟩
  ·obtain⟨s,h1,h2,h3⟩:=lastEnd_some h
   exact⟨s,by lia,h2,h3⟩
theorem begV_mono {ss:List Scene} (g:∀s∈ss,0≤s.len∧0≤s.pause) {s t:Nat} (h:s < t) (ht:t≤ss.length):begV ss s+lenAt ss s≤begV ss t:=by
 have hs:s < ss.length:=by lia
 have hx:=List.getElem?_eq_getElem hs
 have e:=begV_between hx h ht
 have hl:lenAt ss s=ss[s].len:=by unfold lenAt;rw[hx];rfl
 have hb:0≤between ss s t:=by
  unfold between
  rw[hx]
  have h1:=(g ss[s] (List.getElem_mem hs)).2
  have h2:0≤(((ss.drop (s+1)).take (t - (s+1))).map Scene.both).sum:=by
   have:∀l:List Scene,(∀x∈l,0≤x.len∧0≤x.pause)→0≤(l.map Scene.both).sum:=by
    intro l
    induction l with
    | nil=>intro _;simp
    | cons x r ih =>
     intro h
     have a:=h x List.mem_cons_self
     have b:=ih λy hy=>h y (List.mem_cons_of_mem _ hy)
     rw[List.map_cons,List.sum_cons]
     unfold Scene.both at *
     lia
   exact this _ λx hx=>g x (List.mem_of_mem_drop (List.mem_of_mem_take hx))
  simp only[Option.map_some,Option.getD_some]
  lia
 lia
theorem lastEnd_ge {ss:List Scene} (g:∀s∈ss,0≤s.len∧0≤s.pause) {one s:Nat} (hw:one∈whoAt ss s):∀ {t:Nat},s < t→t≤ss.length→∃e,lastEnd ss one t=some e∧begV ss s+lenAt ss s≤e
 | 0,h,_=>by lia
 | t+1,h,ht=>by
  rw[lastEnd]
  by_cases c:one∈whoAt ss t
  ·rw[if_pos c]
   refine⟨_,rfl,?_⟩
   by_cases e:s=t
   ·subst e;exact Int.le_refl _
   ·have:=begV_mono g (s:=s) (t:=t) (by lia) (by lia)
    have hl:0≤lenAt ss t:=by
     unfold lenAt
     rw[List.getElem?_eq_getElem (by lia)]
     exact (g _ (List.getElem_mem _)).1
    lia
  ·rw[if_neg c]
   have:s≠t:=λz=>c (z▸hw)
   exact lastEnd_ge g hw (by lia) (by lia)
theorem between_eq {ss:List Scene} {s t:Nat} (h:s < t) (ht:t≤ss.length):between ss s t=begV ss t - (begV ss s+lenAt ss s):=by
 have hx:=List.getElem?_eq_getElem (l:=ss) (i:=s) (by lia)
 have e:=begV_between hx h ht
 have hl:lenAt ss s=(ss[s]'(by lia)).len:=by unfold lenAt;rw[hx];rfl
 lia
theorem who_lt {ss:List Scene} {i t:Nat} (h:i∈whoAt ss t):t < ss.length:=by
 by_cases c:t < ss.length
 ·exact c
 ·unfold whoAt at h
  rw[List.getElem?_eq_none (by lia)] at h
  cases h
theorem find_some {α β:Type} {f:α→Option β} {l:List α}:(l.findSome? f).isSome=l.any λa=>(f a).isSome:=by
 induction l with
 | nil=>rfl
 | cons a r ih =>
  rw[List.findSome?_cons,List.any_cons]
  cases f a<;>simp[ih]
theorem short_some {ps:List Part} {ss:List Scene} {s i j:Nat}:(shortFrom ps ss s i j).isSome=true↔∃t,s < t∧t < ss.length∧j∈whoAt ss t∧between ss s t < needV ps i j:=by
 unfold shortFrom
 rw[find_some,List.any_eq_true]
 constructor
 ·rintro⟨t,h1,h2⟩
  have:=List.mem_range'_1.mp h1
  unfold shortAt at h2
  split at h2
  ·rename_i c;exact⟨t,by lia,by lia,c.1,c.2⟩
  ·cases h2
 ·rintro⟨t,h1,h2,h3,h4⟩
  refine⟨t,List.mem_range'_1.mpr ⟨by lia,by lia⟩,?_⟩
  unfold shortAt
  rw[if_pos ⟨h3,h4⟩];rfl
theorem from_some {ps:List Part} {ss:List Scene} {s i j:Nat}:(reasonFrom ps ss i j s).isSome=true↔(i∈whoAt ss s∧j∈whoAt ss s)∨(i∈whoAt ss s∧(shortFrom ps ss s i j).isSome=true∧¬j∈whoAt ss s)∨(j∈whoAt ss s∧(shortFrom ps ss s j i).isSome=true∧¬i∈whoAt ss s):=by
 unfold reasonFrom
 by_cases h1:i∈whoAt ss s<;>by_cases h2:j∈whoAt ss s<;>simp[h1,h2]
theorem reason_some {ps:List Part} {ss:List Scene} {i j:Nat}:(reasonOf ps ss i j).isSome=true↔∃s,s < ss.length∧(reasonFrom ps ss i j s).isSome=true:=by
 unfold reasonOf
 rw[find_some,List.any_eq_true]
 constructor
 ·rintro⟨s,h1,h2⟩;exact⟨s,by simpa using h1,h2⟩
 ·rintro⟨s,h1,h2⟩;exact⟨s,by simpa using h1,h2⟩
theorem hit_reason {ps:List Part} {ss:List Scene} (g:∀s∈ss,0≤s.len∧0≤s.pause) (i j:Nat):(List.range ss.length).any (hit ps ss i j)=(reasonOf ps ss i j).isSome:=by
 rw[Bool.eq_iff_iff,List.any_eq_true,reason_some]
 have one:∀i j t,hitAt ps ss i j t=true→∃s,s < ss.length∧(reasonFrom ps ss i j s).isSome=true:=by
  intro i j t h
  unfold hitAt at h
  rw[Bool.and_eq_true,decide_eq_true_eq] at h
  cases e:lastEnd ss i t with
  | none=>rw[e] at h;simp at h
  | some x =>
   rw[e] at h
   obtain⟨s,h1,h2,rfl⟩:=lastEnd_some e
   have ht:=who_lt h.1
   refine⟨s,by lia,from_some.mpr ?_⟩
   by_cases c:j∈whoAt ss s
   ·exact .inl ⟨h2,c⟩
   ·refine .inr (.inl ⟨h2,short_some.mpr ⟨t,h1,ht,h.1,?_⟩,c⟩)
    rw[between_eq h1 (by lia)]
    simpa using h.2
 have two:∀i j s,i∈whoAt ss s→(shortFrom ps ss s i j).isSome=true→∃t,t < ss.length∧hitAt ps ss i j t=true:=by
  intro i j s h1 h2
  obtain⟨t,h3,h4,h5,h6⟩:=short_some.mp h2
  obtain⟨e,h7,h8⟩:=lastEnd_ge g h1 h3 (by lia)
  refine⟨t,h4,?_⟩
  unfold hitAt
  rw[h7,decide_eq_true h5,Bool.true_and]
  rw[between_eq h3 (by lia)] at h6
  simp only[decide_eq_true_eq]
  lia
 constructor
 ·rintro⟨t,h1,h2⟩
  have ht:t < ss.length:=by simpa using h1
  unfold hit at h2
  rw[Bool.or_eq_true,Bool.or_eq_true] at h2
  rcases h2 with (h2 | h2) | h2
  ·rw[Bool.and_eq_true,decide_eq_true_eq,decide_eq_true_eq] at h2
   exact⟨t,ht,from_some.mpr (.inl h2)⟩
  ·exact one i j t h2
  ·obtain⟨s,h3,h4⟩:=one j i t h2
   exact⟨s,h3,by rw[reasonFrom_symm];exact h4⟩
 ·rintro⟨s,h1,h2⟩
  rcases from_some.mp h2 with h | ⟨h,h',_⟩ | ⟨h,h',_⟩
  ·refine⟨s,by simpa using h1,?_⟩
   unfold hit
   rw[decide_eq_true h.1,decide_eq_true h.2];rfl
  ·obtain⟨t,ht,q⟩:=two i j s h h'
   refine⟨t,by simpa using ht,?_⟩
   unfold hit
   rw[q];simp
  ·obtain⟨t,ht,q⟩:=two j i s h h'
   refine⟨t,by simpa using ht,?_⟩
   unfold hit
   rw[q];simp
end Tr
set_option maxRecDepth 100000
namespace Tr
open PySem
noncomputable def hasC (g:Str) (c:Nat):Bool:=decide (c∈g.cps.toList)
noncomputable def signs (x:Str):List Nat:=x.cps.toList
@[simp] theorem run_all (xs:List D):Bt.run .all [.lst xs]=(do let q ←blsOf xs;.ok (.bl (q.all id))):=id rfl
theorem len_signs (x:Str):x.length=(signs x).length:=by cases x;simp[Str.length,signs]
section
variable {T:Tab}
@[simp] theorem fresh_cmp {o:CmpOp} {a b:E}:freshE T (.cmp o a b)=false:=id rfl
@[simp] theorem fresh_and {a b:E}:freshE T (.and a b)=false:=id rfl
@[simp] theorem fresh_or {a b:E}:freshE T (.or a b)=false:=id rfl
@[simp] theorem fresh_all {a:E}:freshE T (.bt .all a)=false:=id rfl
@[simp] theorem fresh_con {d:D}:freshE T (.con d)=false:=id rfl
@[simp] theorem fresh_var {i:Nat}:freshE T (.var i)=false:=id rfl
@[simp] theorem fresh_tup {a:E}:freshE T (.tup a)=false:=id rfl
end
theorem str_eq_signs {x y:Str} (h:signs x=signs y):x=y:=by
 cases x;cases y
 simp only[signs] at h
 congr 1
 exact Array.toList_inj.mp h
theorem add_lsts {a b:List D} (h:a.length+b.length≤big):D.bin .Add (.lst a) (.lst b)=.ok (.lst (a++b)):=by
 show when (decide (a.length+b.length≤big)) (.ok (D.lst (a++b)))=_
 rw[show decide (a.length+b.length≤big)=true by simpa using h]
 rfl
end Tr
set_option maxRecDepth 100000
namespace Tr
open PySem
set_option genInjectivity false in
structure Player where
 name:Str
 voices:Str
 hire:Int
noncomputable def Player.enc (p:Player):D:=.tup [.str p.name,.str p.voices,.int p.hire]
@[simp] theorem qenc1 {s:Player}:D.ix s.enc (.int 1)=.ok (.str s.voices):=ix_t1
@[simp] theorem penc1 {s:Part}:D.ix s.enc (.int 1)=.ok (.str s.voice):=ix_t1
theorem qs_at {ss:List Player} {s:Nat} {x:Player} (h:ss[s]?=some x):D.ix (.tup (ss.map Player.enc)) (.int s)=.ok x.enc:=ix_t (by rw[List.getElem?_map,h];rfl)
noncomputable def optN:Option Nat→D
 | none=>.non
 | some j=>.int (j:Int)
@[simp] theorem optN_some {j:Nat}:optN (some j)=.int (j:Int):=id rfl
noncomputable def hasV (p:Part) (q:Player):Bool:=match signs p.voice with
 | [c]=>hasC q.voices c
 | _=>false
theorem notin_voices {p:Part} {q:Player} (h:(signs p.voice).length=1):D.cmp .NotIn (.str p.voice) (.str q.voices)=.ok (.bl (!hasV p q)):=by
 obtain⟨c,hc⟩:∃c,signs p.voice=[c]:=List.length_eq_one_iff.mp h
 have e:p.voice=chr1 c:=str_eq_signs (by rw[hc];rfl)
 unfold hasV
 rw[hc]
 rw[e]
 rfl
noncomputable def mayB (P:List Part) (Q:List Player) (k j:Nat):Bool:=((P[k]?).bind λp=>(Q[j]?).map λq=>hasV p q).getD false
theorem mayB_at {P:List Part} {Q:List Player} {k j:Nat} (hk:k < P.length) (hj:j < Q.length):mayB P Q k j=hasV P[k] Q[j]:=by
 unfold mayB;rw[List.getElem?_eq_getElem hk,List.getElem?_eq_getElem hj];rfl
theorem cast_eqi (o:Option Nat) (j:Nat):D.cmp .Eq (optN o) (.int j)=.ok (.bl (decide (o=some j))):=by
 cases o with
 | none=>rfl
 | some i =>
  show Res.ok (D.bl ((i:Int)==(j:Int)))=_
  by_cases h:i=j
  ·subst h;simp
  ·rw[show ((i:Int)==(j:Int))=false by simp;lia];simp[h]
theorem natI_pl (k:Nat) (o:Nat):D.pl k (natI o)=true:=by cases k<;>rfl
theorem cmp_tup_nil {xs:List D} (h:D.pls 30 xs=true):D.cmp .Eq (.tup xs) (.tup [])=.ok (.bl xs.isEmpty):=by
 show when (D.eqOk _ _) (.ok (D.bl (D.eqb (.tup xs) (.tup []))))=_
 rw[when_of (by unfold D.eqOk;rw[pl_tup,h];rfl)]
 cases xs<;>simp[D.eqb,D.eqs]
inductive Flt where
 | nob (i:Nat) | voi (i k:Nat) | cla (i j:Nat)
noncomputable def Flt.enc:Flt→D
 | .nob i=>.tup [.str "nobody", .int i]
 | .voi i k=>.tup [.str "voice", .int i,.int k]
 | .cla i j=>.tup [.str "clash", .int i,.int j]
theorem enumD_range {α:Type} (f:α→D) (x:α):∀(cs:List α) (j:Nat),enumD (j:Int) (cs.map f)=(List.range cs.length).map (λk=>D.tup [.int ((j+k:Nat):Int),f (cs.getD k x)])
 | [],_=>rfl
 | c::r,j=>by
  rw[List.map_cons,enumD,List.length_cons,List.range_succ_eq_map,List.map_cons,List.map_map]
  have h:=enumD_range f x r (j+1)
  rw[show ((j+1:Nat):Int)=(j:Int)+1 by push_cast;rfl] at h
  rw[h]
  congr 1
  apply List.map_congr_left
  intro k _
  simp only[Function.comp,List.getD_cons_succ]
  congr 4
  lia
noncomputable def Flt.names (p:Nat):Flt→Bool
 | .nob i=>i==p
 | .voi i _=>i==p
 | .cla i j=>i==p||j==p
end Tr
set_option maxRecDepth 100000
namespace Tr
open PySem
theorem pairD_pl (k:Nat) (p:Nat×Nat):D.pl (k+1) (pairD p)=true:=by
 show D.pls (k+1) [D.int _,D.int _]=true
 simp only[D.pls,D.pl,Bool.and_true,Bool.true_and]
end Tr
set_option maxRecDepth 100000
namespace Tr
open PySem
theorem mem_pairsTo {many i j:Nat}:∀ {k:Nat},i < k→i < j→j < many→(i,j)∈pairsTo many k
 | 0,h,_,_=>by lia
 | k+1,h,h1,h2=>by
  rw[pairsTo,List.mem_append]
  by_cases e:i=k
  ·subst e
   exact .inr (List.mem_map.mpr ⟨j,List.mem_range'_1.mpr (by lia),rfl⟩)
  ·exact .inl (mem_pairsTo (by lia) h1 h2)
theorem mem_pairsOf {many i j:Nat} (h1:i < j) (h2:j < many):(i,j)∈pairsOf many:=mem_pairsTo (by lia) h1 h2
theorem pairD_eqb (p q:Nat×Nat):D.eqb (pairD p) (pairD q)=decide (p=q):=by
 show D.eqs [D.int _,D.int _] [D.int _,D.int _]=_
 have:D.eqs [D.int (p.1:Int),D.int (p.2:Int)] [D.int (q.1:Int),D.int (q.2:Int)]=(((p.1:Int)==(q.1:Int))&&(((p.2:Int)==(q.2:Int))&&true)):=rfl
 rw[this,Bool.eq_iff_iff]
 simp
 constructor
 ·rintro⟨a,b⟩;exact Prod.ext (by lia) (by lia)
 ·rintro rfl;exact⟨rfl,rfl⟩
theorem mem_pairD (p:Nat×Nat):∀ps:List (Nat×Nat),D.mem (pairD p) (ps.map pairD)=decide (p∈ps)
 | []=>rfl
 | q::r=>by
  rw[List.map_cons,D.mem,mem_pairD p r,pairD_eqb]
  by_cases h1:q=p
  ·subst h1;simp
  ·have h2:¬p=q:=λz=>h1 z.symm
   by_cases h3:p∈r<;>simp[h1,h2,h3]
inductive Tre where
 | crowd (ps:List Nat) | pair (i j:Nat) (a b:Tre)
noncomputable def Tre.enc:Tre→D
 | .crowd ps=>.tup [.str "crowd", .lst (ps.map natI)]
 | .pair i j a b=>.tup [.str "pair", .int (i:Int),.int (j:Int),a.enc,b.enc]
noncomputable def Tre.ok (many:Nat):Tre→Prop
 | .crowd ps=>(∀p∈ps,p < many)∧ps.length≤many
 | .pair i j a b=>i < many∧j < many∧a.ok many∧b.ok many
noncomputable def numsV (l:List Nat):List Nat:=(List.range 8).filter λi=>l.contains i
end Tr
set_option maxRecDepth 100000
namespace Tr
open PySem
noncomputable def takeStep (ok:Nat→Bool) (ps:List (Nat×Nat)) (ts:List (List Nat)) (p:Nat):List (List Nat) :=
 if ok p=true then ts++(ts.filter λt=>t.all λo=>!decide ((o,p)∈ps)).map (·++[p]) else ts
noncomputable def takings (ok:Nat→Bool) (ps:List (Nat×Nat)) (left:List Nat):List (List Nat):=left.foldl (takeStep ok ps) [[]]
theorem takings_app (ok:Nat→Bool) (ps:List (Nat×Nat)) (l:List Nat) (p:Nat):takings ok ps (l++[p])=takeStep ok ps (takings ok ps l) p:=by
 unfold takings
 rw[List.foldl_append];rfl
theorem sub_app1 {s l:List Nat} {p:Nat}:s.Sublist (l++[p])↔s.Sublist l∨∃t,s=t++[p]∧t.Sublist l:=by
 rw[List.sublist_append_iff]
 constructor
 ·rintro⟨a,b,rfl,h1,h2⟩
  have h3:b=[]∨b=[p]:=by
   cases h2 with
   | cons _ h=>exact .inl (List.sublist_nil.mp h)
   | cons_cons _ h=>exact .inr (by rw[List.sublist_nil.mp h])
  rcases h3 with rfl | rfl
  ·rw[List.append_nil];exact .inl h1
  ·exact .inr ⟨a,rfl,h1⟩
 ·rintro (h | ⟨t,rfl,h⟩)
  ·exact⟨s,[],(List.append_nil _).symm,h,List.nil_sublist _⟩
  ·exact⟨t,[p],rfl,h,List.Sublist.refl _⟩
theorem mem_takings {ok:Nat→Bool} {ps:List (Nat×Nat)}:∀ {n:Nat} {l t:List Nat},l.length=n→(t∈takings ok ps l↔t.Sublist l∧(∀p∈t,ok p=true)∧t.Pairwise λa b=>(a,b)∉ps)
 | 0,l,t,hl=>by
  have e:l=[]:=List.length_eq_zero_iff.mp hl
  subst e
  show t∈[[]]↔_
  rw[List.mem_singleton,List.sublist_nil]
  constructor
  ·rintro rfl;exact⟨rfl,(λp h=>nomatch h),List.Pairwise.nil⟩
  ·exact λh=>h.1
 | n+1,l,t,hl=>by
  obtain⟨l0,p,rfl⟩:∃l0 p,l=l0++[p]:=by
   have h0:l≠[]:=λz=>by rw[z] at hl;cases hl
   exact⟨l.dropLast,l.getLast h0,(List.dropLast_concat_getLast h0).symm⟩
  have hl0:l0.length=n:=by rw[List.length_append,List.length_singleton] at hl;lia
  rw[takings_app]
  unfold takeStep
  by_cases c:ok p=true
  ·rw[if_pos c,List.mem_append,mem_takings hl0,sub_app1]
   constructor
   ·rintro (⟨h1,h2,h3⟩ | h)
    ·exact⟨.inl h1,h2,h3⟩
    ·obtain⟨t0,h0,rfl⟩:=List.mem_map.mp h
     obtain⟨h0,h4⟩:=List.mem_filter.mp h0
     obtain⟨h1,h2,h3⟩:=(mem_takings hl0).mp h0
     refine⟨.inr ⟨t0,rfl,h1⟩,λq hq=>?_,List.pairwise_append.mpr ⟨h3,List.pairwise_singleton _ _,λa ha b hb=>?_⟩⟩
     ·rcases List.mem_append.mp hq with hq | hq
      ·exact h2 q hq
      ·rw[List.mem_singleton.mp hq];exact c
     ·rw[List.mem_singleton.mp hb]
      simpa using List.all_eq_true.mp h4 a ha
   ·rintro⟨h1 | ⟨t0,rfl,h1⟩,h2,h3⟩
    ·exact .inl ⟨h1,h2,h3⟩
    ·obtain⟨g1,_,g3⟩:=List.pairwise_append.mp h3
     refine .inr (List.mem_map.mpr ⟨t0,List.mem_filter.mpr ⟨(mem_takings hl0).mpr ⟨h1,λq hq=>h2 q (List.mem_append_left _ hq),g1⟩,?_⟩,rfl⟩)
     rw[List.all_eq_true]
     intro a ha
     simpa using g3 a ha p (List.mem_singleton.mpr rfl)
  ·rw[if_neg c,mem_takings hl0,sub_app1]
   constructor
   ·rintro⟨h1,h2,h3⟩;exact⟨.inl h1,h2,h3⟩
   ·rintro⟨h1 | ⟨t0,rfl,h1⟩,h2,h3⟩
    ·exact⟨h1,h2,h3⟩
    ·exact absurd (h2 p (List.mem_append_right _ (List.mem_singleton.mpr rfl))) c
noncomputable abbrev Way:=Int×List (Option Nat)
noncomputable def valL (L:List (List Nat×Way)) (k:List Nat):Option Way:=(L.find? λe=>decide (e.1=k)).map (·.2)
noncomputable def putL (L:List (List Nat×Way)) (k:List Nat) (v:Way):List (List Nat×Way) :=
 if (L.any λe=>decide (e.1=k))=true then L.map (λe=>if e.1=k then (e.1,v) else e) else L++[(k,v)]
noncomputable def updL (L:List (List Nat×Way)) (k:List Nat) (v:Way):List (List Nat×Way):=match valL L k with
 | none=>putL L k v
 | some w=>if v.1 < w.1 then putL L k v else L
theorem val_put:∀ {L:List (List Nat×Way)} {k:List Nat} {v:Way} {k':List Nat},valL (putL L k v) k'=if k'=k then some v else valL L k':=by
 intro L k v k'
 have old:∀L:List (List Nat×Way),k'≠k→valL (L.map (λe=>if e.1=k then (e.1,v) else e)) k'=valL L k':=by
  intro L hne
  induction L with
  | nil=>rfl
  | cons e r ih =>
   unfold valL at ih ⊢
   rw[List.map_cons,List.find?_cons,List.find?_cons]
   by_cases c:e.1=k
   ·rw[if_pos c]
    have:¬e.1=k':=λz=>hne (z.symm.trans c)
    rw[decide_eq_false this];exact ih
   ·rw[if_neg c]
    by_cases c':e.1=k'
    ·rw[decide_eq_true c']
    ·rw[decide_eq_false c'];exact ih
 unfold putL
 by_cases a:(L.any λe=>decide (e.1=k))=true
 ·rw[if_pos a]
  by_cases h:k'=k
  ·subst h
   rw[if_pos rfl]
   clear old
   induction L with
   | nil=>cases a
   | cons e r ih =>
    unfold valL at ih ⊢
    rw[List.map_cons,List.find?_cons]
    by_cases c:e.1=k'
    ·rw[if_pos c,decide_eq_true c];rfl
    ·rw[if_neg c,decide_eq_false c]
     rw[List.any_cons,decide_eq_false c,Bool.false_or] at a
     exact ih a
  ·rw[if_neg h,old L h]
 ·rw[if_neg a]
  clear old
  induction L with
  | nil =>
   show ((List.find? _ [(k,v)]).map _)=_
   by_cases h:k'=k
   ·rw[if_pos h,List.find?_cons,decide_eq_true h.symm];rfl
   ·rw[if_neg h,List.find?_cons,decide_eq_false (λz=>h z.symm)];rfl
  | cons e r ih =>
   rw[List.any_cons,Bool.or_eq_true,not_or] at a
   have ih:=ih a.2
   have ne:¬e.1=k:=by simpa using a.1
   unfold valL at ih ⊢
   rw[List.cons_append,List.find?_cons,List.find?_cons]
   by_cases c:e.1=k'
   ·rw[decide_eq_true c,if_neg (λz=>ne (c.trans z))]
   ·rw[decide_eq_false c];exact ih
theorem val_upd {L:List (List Nat×Way)} {k:List Nat} {v:Way} {k':List Nat}:valL (updL L k v) k'=if k'=k then (match valL L k with | none=>some v | some w=>if v.1 < w.1 then some v else some w) else valL L k':=by
 unfold updL
 cases h:valL L k with
 | none=>exact val_put
 | some w =>
  dsimp only
  by_cases c:v.1 < w.1
  ·rw[if_pos c,if_pos c];exact val_put
  ·rw[if_neg c,if_neg c]
   by_cases e:k'=k
   ·rw[if_pos e,e,h]
   ·rw[if_neg e]
noncomputable def foldU (L:List (List Nat×Way)) (cs:List (List Nat×Way)):List (List Nat×Way):=cs.foldl (λacc c=>updL acc c.1 c.2) L
theorem foldU_from:∀ {cs L:List (List Nat×Way)} {k:List Nat} {v:Way},valL (foldU L cs) k=some v→valL L k=some v∨(k,v)∈cs
 | [],L,k,v,h=>.inl h
 | c::cs,L,k,v,h=>by
  rcases foldU_from (cs:=cs) (L:=updL L c.1 c.2) h with h | h
  ·rw[val_upd] at h
   by_cases e:k=c.1
   ·rw[if_pos e] at h
    cases hv:valL L c.1 with
    | none=>rw[hv] at h;cases h;right;rw[e];exact List.mem_cons_self
    | some w =>
     rw[hv] at h
     dsimp only at h
     by_cases lt:c.2.1 < w.1
     ·rw[if_pos lt] at h;cases h;right;rw[e];exact List.mem_cons_self
     ·rw[if_neg lt] at h;cases h;left;rw[e,hv]
   ·rw[if_neg e] at h;exact .inl h
  ·exact .inr (List.mem_cons_of_mem _ h)
theorem foldU_le:∀ {cs L:List (List Nat×Way)} {k:List Nat} {v:Way},(valL L k=some v∨(k,v)∈cs)→∃w,valL (foldU L cs) k=some w∧w.1≤v.1
 | [],L,k,v,h=>by
  rcases h with h | h
  ·exact⟨v,h,Int.le_refl _⟩
  ·cases h
 | c::cs,L,k,v,h=>by
  have key:∃w,(valL (updL L c.1 c.2) k=some w∨(k,w)∈cs)∧w.1≤v.1:=by
   rcases h with h | h
   ·rw[val_upd]
    by_cases e:k=c.1
    ·rw[if_pos e,←e,h]
     dsimp only
     by_cases lt:c.2.1 < v.1
     ·rw[if_pos lt];exact⟨_,.inl rfl,Int.le_of_lt lt⟩
     ·rw[if_neg lt];exact⟨_,.inl rfl,Int.le_refl _⟩
    ·rw[if_neg e];exact⟨v,.inl h,Int.le_refl _⟩
   ·rcases List.mem_cons.mp h with h | h
    ·subst h
     rw[val_upd,if_pos rfl]
     dsimp only
     cases hv:valL L k with
     | none=>exact⟨v,.inl rfl,Int.le_refl _⟩
     | some w =>
      dsimp only
      by_cases lt:v.1 < w.1
      ·rw[if_pos lt];exact⟨_,.inl rfl,Int.le_refl _⟩
      ·rw[if_neg lt];exact⟨_,.inl rfl,by lia⟩
    ·exact⟨v,.inr h,Int.le_refl _⟩
  obtain⟨w,h1,h2⟩:=key
  obtain⟨w',h3,h4⟩:=foldU_le h1
  exact⟨w',h3,Int.le_trans h4 h2⟩
theorem val_mem {L:List (List Nat×Way)} {k:List Nat} {v:Way} (h:valL L k=some v):(k,v)∈L:=by
 unfold valL at h
 cases q:L.find? λe=>decide (e.1=k) with
 | none=>rw[q] at h;cases h
 | some e =>
  rw[q] at h
  cases h
  have h1:=List.find?_some q
  have h2:=List.mem_of_find?_eq_some q
  have:e.1=k:=of_decide_eq_true h1
  rw[←this];exact h2
noncomputable def ptak (h:Int) (lk:Nat→Int) (t:List Nat):Int:=if t=[] then 0 else h+(t.map lk).sum
noncomputable def withP (c:List (Option Nat)) (t:List Nat) (pl:Nat):List (Option Nat):=(List.range c.length).map λp=>if p∈t then some pl else c.getD p none
noncomputable def behindV (left t:List Nat):List Nat:=left.filter λp=>!decide (p∈t)
noncomputable def candsE (ok:Nat→Bool) (ps:List (Nat×Nat)) (h:Int) (lk:Nat→Int) (pl:Nat) (left:List Nat) (v:Way):List (List Nat×Way):=(takings ok ps left).map λt=>(behindV left t,(v.1+ptak h lk t,withP v.2 t pl))
noncomputable def candsV (ok:Nat→Bool) (ps:List (Nat×Nat)) (h:Int) (lk:Nat→Int) (pl:Nat) (ways:List (List Nat×Way)):List (List Nat×Way):=ways.flatMap λe=>match valL ways e.1 with | some v=>candsE ok ps h lk pl e.1 v | none=>[]
noncomputable def nextV (ok:Nat→Bool) (ps:List (Nat×Nat)) (h:Int) (lk:Nat→Int) (pl:Nat) (ways:List (List Nat×Way)):List (List Nat×Way):=foldU [] (candsV ok ps h lk pl ways)
structure Cst where
 many:Nat
 ok:Nat→Nat→Bool
 ps:List (Nat×Nat)
 hire:Nat→Int
 like:Nat→Nat→Int
noncomputable def layerV (B:Cst):Nat→List (List Nat×Way)
 | 0=>[(List.range B.many,(0,List.replicate B.many none))]
 | k+1=>nextV (B.ok k) B.ps (B.hire k) (B.like k) k (layerV B k)
noncomputable def atC (c:List (Option Nat)) (p:Nat):Option Nat:=c.getD p none
noncomputable def partsOf (m:Nat) (pl:Nat) (c:List (Option Nat)):List Nat:=(List.range m).filter λp=>decide (atC c p=some pl)
noncomputable def leftOf (m:Nat) (c:List (Option Nat)):List Nat:=(List.range m).filter λp=>decide (atC c p=none)
structure Pcs (B:Cst) (k:Nat) (c:List (Option Nat)):Prop where
 len:c.length=B.many
 lt:∀p,p < B.many→∀pl,atC c p=some pl→pl < k
 ok:∀p,p < B.many→∀pl,atC c p=some pl→B.ok pl p=true
 apart:∀p q,p < q→q < B.many→∀pl,atC c p=some pl→atC c q=some pl→(p,q)∉B.ps
noncomputable def priceV (B:Cst) (c:List (Option Nat)):Nat→Int
 | 0=>0
 | k+1=>priceV B c k+ptak (B.hire k) (B.like k) (partsOf B.many k c)
theorem price_eq {B:Cst} {c c':List (Option Nat)}:∀ {k:Nat},(∀pl,pl < k→partsOf B.many pl c=partsOf B.many pl c')→priceV B c k=priceV B c' k
 | 0,_=>rfl
 | k+1,h=>by rw[priceV,priceV,price_eq λpl hp=>h pl (by lia),h k (by lia)]
theorem at_withP {c:List (Option Nat)} {t:List Nat} {pl p:Nat} (h:p < c.length):atC (withP c t pl) p=if p∈t then some pl else atC c p:=by
 unfold atC withP
 rw[List.getD_eq_getElem?_getD,List.getElem?_map,List.getElem?_range h];rfl
theorem sub_filter {l t:List Nat} (nd:l.Nodup) (h:t.Sublist l):l.filter (λp=>decide (p∈t))=t:=by
 induction h with
 | slnil=>rfl
 | @cons l1 l2 a h ih =>
  have nd2:=(List.nodup_cons.mp nd)
  rw[List.filter_cons,decide_eq_false (λz=>nd2.1 (h.mem z)),if_neg Bool.false_ne_true]
  exact ih nd2.2
 | @cons_cons l1 l2 a h ih =>
  have nd2:=(List.nodup_cons.mp nd)
  rw[List.filter_cons,decide_eq_true List.mem_cons_self,if_pos rfl]
  congr 1
  rw[←ih nd2.2]
  refine List.filter_congr λp hp=>?_
  have:p≠a:=λz=>nd2.1 (z▸hp)
  rw[ih nd2.2]
  by_cases c:p∈l1
  ·rw[decide_eq_true c,decide_eq_true (List.mem_cons_of_mem _ c)]
  ·rw[decide_eq_false c,decide_eq_false (λz=>(List.mem_cons.mp z).elim this c)]
theorem mem_left {m:Nat} {c:List (Option Nat)} {p:Nat}:p∈leftOf m c↔p < m∧atC c p=none:=by
 unfold leftOf
 rw[List.mem_filter,List.mem_range,decide_eq_true_eq]
theorem mem_parts {m pl:Nat} {c:List (Option Nat)} {p:Nat}:p∈partsOf m pl c↔p < m∧atC c p=some pl:=by
 unfold partsOf
 rw[List.mem_filter,List.mem_range,decide_eq_true_eq]
theorem range_pw (m:Nat):(List.range m).Pairwise (· < ·):=List.pairwise_lt_range
theorem layer_sound (B:Cst):∀(k:Nat) {key:List Nat} {v:Way},valL (layerV B k) key=some v→Pcs B k v.2∧key=leftOf B.many v.2∧v.1=priceV B v.2 k
 | 0,key,v,h=>by
  have:=val_mem h
  rw[layerV,List.mem_singleton] at this
  cases this
  have at0:∀p,atC (List.replicate B.many none) p=none:=λp=>by
   unfold atC
   rw[List.getD_eq_getElem?_getD,List.getElem?_replicate]
   split<;>rfl
  refine⟨⟨List.length_replicate,λp _ pl z=>?_,λp _ pl z=>?_,λp q _ _ pl z=>?_⟩,?_,rfl⟩
  ·rw[at0] at z;cases z
  ·rw[at0] at z;cases z
  ·rw[at0] at z;cases z
  ·unfold leftOf
   rw[List.filter_eq_self.mpr λp _=>decide_eq_true (at0 p)]
 | k+1,key,v,h=>by
  rw[layerV] at h
  rcases foldU_from h with z | z
  ·cases z
  ·unfold candsV at z
   obtain⟨e,he,z⟩:=List.mem_flatMap.mp z
   cases hv:valL (layerV B k) e.1 with
   | none=>rw[hv] at z;cases z
   | some w =>
    rw[hv] at z
    obtain⟨t,ht,z⟩:=List.mem_map.mp z
    obtain⟨P,hl,hc⟩:=layer_sound B k hv
    obtain⟨t1,t2,t3⟩:=(mem_takings rfl).mp ht
    cases z
    have tl:∀p∈t,p < B.many∧atC w.2 p=none:=λp hp=>by
     have:=t1.mem hp
     rw[hl] at this
     exact mem_left.mp this
    have tn:t.Sublist (List.range B.many):=by
     refine t1.trans ?_
     rw[hl]
     exact List.filter_sublist
    have aw:∀p,p < B.many→atC (withP w.2 t k) p=if p∈t then some k else atC w.2 p:=λp hp=>at_withP (by rw[P.len];exact hp)
    have pk:partsOf B.many k (withP w.2 t k)=t:=by
     refine Eq.trans ?_ (sub_filter List.nodup_range tn)
     unfold partsOf
     refine List.filter_congr λp hp=>?_
     rw[aw p (List.mem_range.mp hp)]
     by_cases c:p∈t
     ·rw[if_pos c,decide_eq_true rfl,decide_eq_true c]
     ·rw[if_neg c,decide_eq_false c]
      refine decide_eq_false λq=>?_
      have:=P.lt p (List.mem_range.mp hp) k q
      lia
    refine⟨⟨?_,λp hp pl q=>?_,λp hp pl q=>?_,λp q hpq hq pl g1 g2=>?_⟩,?_,?_⟩
    ·show (withP w.2 t k).length=_
     unfold withP
     rw[List.length_map,List.length_range,P.len]
    ·rw[aw p hp] at q
     by_cases c:p∈t
     ·rw[if_pos c] at q;cases q;lia
     ·rw[if_neg c] at q
      have:=P.lt p hp pl q;lia
    ·rw[aw p hp] at q
     by_cases c:p∈t
     ·rw[if_pos c] at q;cases q;exact t2 p c
     ·rw[if_neg c] at q;exact P.ok p hp pl q
    ·rw[aw p (by lia)] at g1
     rw[aw q hq] at g2
     by_cases c1:p∈t
     ·rw[if_pos c1] at g1
      cases g1
      by_cases c2:q∈t
      ·have pw:t.Pairwise λa b=>a < b∧(a,b)∉B.ps:=(List.Pairwise.sublist tn (range_pw _)).and t3
       have all:=List.pairwise_iff_getElem.mp pw
       obtain⟨i,hi,ei⟩:=List.getElem_of_mem c1
       obtain⟨j,hj,ej⟩:=List.getElem_of_mem c2
       rcases Nat.lt_trichotomy i j with l | l | l
       ·have:=(all i j hi hj l).2
        rw[ei,ej] at this;exact this
       ·subst l;lia
       ·have:=(all j i hj hi l).1
        lia
      ·rw[if_neg c2] at g2
       have:=P.lt q hq k g2;lia
     ·rw[if_neg c1] at g1
      by_cases c2:q∈t
      ·rw[if_pos c2] at g2
       cases g2
       have:=P.lt p (by lia) k g1;lia
      ·rw[if_neg c2] at g2
       exact P.apart p q hpq hq pl g1 g2
    ·unfold behindV
     rw[hl]
     unfold leftOf
     rw[List.filter_filter]
     refine List.filter_congr λp hp=>?_
     rw[aw p (List.mem_range.mp hp)]
     by_cases c:p∈t
     ·rw[if_pos c,decide_eq_true c];rfl
     ·rw[if_neg c,decide_eq_false c];rfl
    ·show w.1+_=priceV B (withP w.2 t k) (k+1)
     rw[priceV,pk,hc]
     congr 1
     refine price_eq λpl hp=>?_
     unfold partsOf
     refine List.filter_congr λp hpm=>?_
     rw[aw p (List.mem_range.mp hpm)]
     by_cases c:p∈t
     ·rw[if_pos c,(tl p c).2,decide_eq_false (by intro z;cases z),decide_eq_false (by intro z;cases z;lia)]
     ·rw[if_neg c]
theorem layer_full (B:Cst):∀(k:Nat) {c:List (Option Nat)},Pcs B k c→∃w,valL (layerV B k) (leftOf B.many c)=some w∧w.1≤priceV B c k
 | 0,c,P=>by
  have e:leftOf B.many c=List.range B.many:=by
   unfold leftOf
   refine List.filter_eq_self.mpr λp hp=>decide_eq_true ?_
   cases z:atC c p with
   | none=>rfl
   | some pl=>exact absurd (P.lt p (List.mem_range.mp hp) pl z) (by lia)
  rw[e]
  refine⟨(0,List.replicate B.many none),?_,Int.le_refl _⟩
  unfold valL layerV
  rw[List.find?_cons,decide_eq_true rfl];rfl
 | k+1,c,P=>by
  have a0:∀p,atC (c.map λo=>if o=some k then none else o) p=if atC c p=some k then none else atC c p:=λp=>by
   unfold atC
   rw[List.getD_eq_getElem?_getD,List.getElem?_map,List.getD_eq_getElem?_getD]
   cases c[p]? with
   | none=>rfl
   | some o=>rfl
  have P0:Pcs B k (c.map λo=>if o=some k then none else o):=by
   refine⟨by rw[List.length_map];exact P.len,λp hp pl z=>?_,λp hp pl z=>?_,λp q hpq hq pl z1 z2=>?_⟩
   ·rw[a0] at z
    by_cases e:atC c p=some k
    ·rw[if_pos e] at z;cases z
    ·rw[if_neg e] at z
     have:=P.lt p hp pl z
     have:pl≠k:=λq=>e (q▸z)
     lia
   ·rw[a0] at z
    by_cases e:atC c p=some k
    ·rw[if_pos e] at z;cases z
    ·rw[if_neg e] at z;exact P.ok p hp pl z
   ·rw[a0] at z1 z2
    by_cases e:atC c p=some k
    ·rw[if_pos e] at z1;cases z1
    ·rw[if_neg e] at z1
     by_cases e':atC c q=some k
     ·rw[if_pos e'] at z2;cases z2
     ·rw[if_neg e'] at z2;exact P.apart p q hpq hq pl z1 z2
  obtain⟨w,h1,h2⟩:=layer_full B k P0
  generalize hc0:(c.map λo=>if o=some k then none else o)=c0 at *
  have hl:leftOf B.many c0=(List.range B.many).filter λp=>decide (atC c p=none)||decide (atC c p=some k):=by
   unfold leftOf
   refine List.filter_congr λp _=>?_
   rw[a0]
   by_cases e:atC c p=some k
   ·rw[if_pos e,decide_eq_true rfl,decide_eq_true e,Bool.or_true]
   ·rw[if_neg e,decide_eq_false e,Bool.or_false]
  have ht:partsOf B.many k c∈takings (B.ok k) B.ps (leftOf B.many c0):=by
   refine (mem_takings rfl).mpr ⟨?_,λp hp=>?_,?_⟩
   ·rw[hl]
    have:partsOf B.many k c=((List.range B.many).filter λp=>decide (atC c p=none)||decide (atC c p=some k)).filter λp=>decide (atC c p=some k):=by
     unfold partsOf
     rw[List.filter_filter]
     refine List.filter_congr λp _=>?_
     by_cases e:atC c p=some k
     ·rw[decide_eq_true e,Bool.or_true];rfl
     ·rw[decide_eq_false e];rfl
    rw[this]
    exact List.filter_sublist
   ·obtain⟨q1,q2⟩:=mem_parts.mp hp
    exact P.ok p q1 k q2
   ·have pw:(partsOf B.many k c).Pairwise (· < ·):=List.Pairwise.sublist List.filter_sublist (range_pw _)
    refine List.pairwise_iff_getElem.mpr λi j hi hj lt=>?_
    have m1:=mem_parts.mp (List.getElem_mem hi)
    have m2:=mem_parts.mp (List.getElem_mem hj)
    exact P.apart _ _ (List.pairwise_iff_getElem.mp pw i j hi hj lt) m2.1 k m1.2 m2.2
  have hb:behindV (leftOf B.many c0) (partsOf B.many k c)=leftOf B.many c:=by
   unfold behindV
   rw[hl,List.filter_filter]
   unfold leftOf
   refine List.filter_congr λp hp=>?_
   by_cases e:atC c p=some k
   ·rw[decide_eq_true (mem_parts.mpr ⟨List.mem_range.mp hp,e⟩),decide_eq_false (by rw[e];intro z;cases z)];rfl
   ·rw[decide_eq_false (λz=>e (mem_parts.mp z).2),decide_eq_false e,Bool.or_false];rfl
  have mem:(leftOf B.many c,(w.1+ptak (B.hire k) (B.like k) (partsOf B.many k c),withP w.2 (partsOf B.many k c) k))∈candsV (B.ok k) B.ps (B.hire k) (B.like k) k (layerV B k):=by
   unfold candsV
   refine List.mem_flatMap.mpr ⟨(leftOf B.many c0,w),val_mem h1,?_⟩
   dsimp only
   rw[h1]
   refine List.mem_map.mpr ⟨partsOf B.many k c,ht,?_⟩
   rw[hb]
  obtain⟨w',g1,g2⟩:=foldU_le (L:=[]) (.inr mem)
  refine⟨w',g1,Int.le_trans g2 ?_⟩
  rw[priceV]
  dsimp only
  have:priceV B c0 k=priceV B c k:=price_eq λpl hp=>by
   unfold partsOf
   refine List.filter_congr λp _=>?_
   rw[a0]
   by_cases e:atC c p=some k
   ·rw[if_pos e,e,decide_eq_false (by intro z;cases z),decide_eq_false (by intro z;cases z;lia)]
   ·rw[if_neg e]
  lia
end Tr
namespace K42
open PySem Tr
noncomputable def b_are_unlike:S :=
 (.cons (.ret (.cmp .Eq (.lset (.var 0)) (.bt .len (.acons (.var 0) .anil))))
 .nil)
noncomputable def e_time_between_1:E :=
 (.bin .Add (.ix (.var 0) (.con (.int 1))) (.ix (.var 0) (.con (.int 2))))
noncomputable def b_time_between:S :=
 (.cons (.asg (.one 3) (.ix (.var 0) (.glob 2)))
 (.cons (.ret (.bin .Add (.ix (.ix (.var 3) (.var 1)) (.con (.int 2))) (.bt .sum (.acons (.comp 1 [] (.one 0) e_time_between_1 (.seq (.sl (.var 3) (.bin .Add (.var 1) (.con (.int 1))) (.var 2))) (.con (.bl true))) .anil))))
 .nil))
noncomputable def b_change_time:S :=
 (.cons (.ret (.bin .Add (.ix (.ix (.ix (.var 0) (.glob 0)) (.var 1)) (.con (.int 2))) (.ix (.ix (.ix (.var 0) (.glob 0)) (.var 2)) (.con (.int 3)))))
 .nil)
noncomputable def b_short_change_from_1:S :=
 (.cons (.ite (.cmp .In (.var 3) (.ix (.ix (.ix (.var 0) (.glob 2)) (.var 5)) (.con (.int 3))))
 (.cons (.asg (.one 6) (.call 1 (.acons (.var 0) (.acons (.var 1) (.acons (.var 5) .anil)))))
 (.cons (.ite (.cmp .Lt (.var 6) (.var 4))
 (.cons (.ret (.tup (.acons (.con (.str "change")) (.acons (.var 1) (.acons (.var 5) (.acons (.var 6) (.acons (.var 4) .anil)))))))
 .nil)
 .nil)
 .nil))
 .nil)
 .nil)
noncomputable def b_short_change_from:S :=
 (.cons (.asg (.one 4) (.call 2 (.acons (.var 0) (.acons (.var 2) (.acons (.var 3) .anil)))))
 (.cons (.forS (.one 5) (.rng2 (.bin .Add (.var 1) (.con (.int 1))) (.bt .len (.acons (.ix (.var 0) (.glob 2)) .anil))) b_short_change_from_1)
 (.cons (.ret (.con .non))
 .nil)))
noncomputable def b_reason_from:S :=
 (.cons (.asg (.one 4) (.ix (.ix (.ix (.var 0) (.glob 2)) (.var 1)) (.con (.int 3))))
 (.cons (.ite (.and (.cmp .In (.var 2) (.var 4)) (.cmp .In (.var 3) (.var 4)))
 (.cons (.ret (.tup (.acons (.con (.str "scene")) (.acons (.var 1) .anil))))
 .nil)
 .nil)
 (.cons (.ite (.cmp .In (.var 2) (.var 4))
 (.cons (.ret (.call 3 (.acons (.var 0) (.acons (.var 1) (.acons (.var 2) (.acons (.var 3) .anil))))))
 .nil)
 .nil)
 (.cons (.ite (.cmp .In (.var 3) (.var 4))
 (.cons (.ret (.call 3 (.acons (.var 0) (.acons (.var 1) (.acons (.var 3) (.acons (.var 2) .anil))))))
 .nil)
 .nil)
 (.cons (.ret (.con .non))
 .nil)))))
noncomputable def b_reason_of_1:S :=
 (.cons (.asg (.one 4) (.call 4 (.acons (.var 0) (.acons (.var 3) (.acons (.var 1) (.acons (.var 2) .anil))))))
 (.cons (.ite (.cmp .IsNot (.var 4) (.con .non))
 (.cons (.ret (.var 4))
 .nil)
 .nil)
 .nil))
noncomputable def b_reason_of:S :=
 (.cons (.forS (.one 3) (.rng (.bt .len (.acons (.ix (.var 0) (.glob 2)) .anil))) b_reason_of_1)
 (.cons (.ret (.con .non))
 .nil))
noncomputable def c_clashes_of_1:E :=
 (.cmp .IsNot (.call 5 (.acons (.var 2) (.acons (.var 1) (.acons (.var 0) .anil)))) (.con .non))
noncomputable def e_clashes_of_2:E :=
 (.tup (.acons (.var 1) (.acons (.var 0) .anil)))
noncomputable def b_clashes_of_3:S :=
 (.cons (.ext 1 (.comp 1 [3,0] (.one 0) e_clashes_of_2 (.rng2 (.bin .Add (.var 3) (.con (.int 1))) (.var 2)) c_clashes_of_1))
 .nil)
noncomputable def b_clashes_of:S :=
 (.cons (.asgO 1 (.lst .anil))
 (.cons (.asg (.one 2) (.bt .len (.acons (.ix (.var 0) (.glob 0)) .anil)))
 (.cons (.forS (.one 3) (.rng (.var 2)) b_clashes_of_3)
 (.cons (.retO 1)
 .nil))))
noncomputable def b_fault_of_part:S :=
 (.cons (.ite (.cmp .Is (.var 2) (.con .non))
 (.cons (.ret (.tup (.acons (.con (.str "nobody")) (.acons (.var 1) .anil))))
 .nil)
 .nil)
 (.cons (.ite (.cmp .NotIn (.ix (.ix (.ix (.var 0) (.glob 0)) (.var 1)) (.con (.int 1))) (.ix (.ix (.ix (.var 0) (.glob 1)) (.var 2)) (.con (.int 1))))
 (.cons (.ret (.tup (.acons (.con (.str "voice")) (.acons (.var 1) (.acons (.var 2) .anil)))))
 .nil)
 .nil)
 (.cons (.ret (.con .non))
 .nil)))
noncomputable def e_may_join_1:E :=
 (.cmp .NotIn (.tup (.acons (.var 0) (.acons (.var 2) .anil))) (.var 1))
noncomputable def b_may_join:S :=
 (.cons (.ret (.bt .all (.acons (.comp 1 [0,2] (.one 0) e_may_join_1 (.seq (.var 1)) (.con (.bl true))) .anil)))
 .nil)
noncomputable def c_takings_of_1:E :=
 (.call 8 (.acons (.var 2) (.acons (.var 0) (.acons (.var 1) .anil))))
noncomputable def e_takings_of_2:E :=
 (.bin .Add (.var 0) (.tup (.acons (.var 1) .anil)))
noncomputable def b_takings_of_3:S :=
 (.cons (.ite (.cmp .Is (.call 7 (.acons (.var 0) (.acons (.var 5) (.acons (.var 2) .anil)))) (.con .non))
 (.cons (.asg (.one 4) (.bin .Add (.var 4) (.comp 1 [5,1] (.one 0) e_takings_of_2 (.seq (.var 4)) c_takings_of_1)))
 .nil)
 .nil)
 .nil)
noncomputable def b_takings_of:S :=
 (.cons (.asg (.one 4) (.lst (.acons (.tup .anil) .anil)))
 (.cons (.forS (.one 5) (.seq (.var 3)) b_takings_of_3)
 (.cons (.ret (.var 4))
 .nil)))
noncomputable def e_price_of_taking_1:E :=
 (.ix (.ix (.var 1) (.var 2)) (.var 0))
noncomputable def b_price_of_taking:S :=
 (.cons (.asg (.many [3,4]) (.var 0))
 (.cons (.ite (.cmp .Eq (.var 2) (.tup .anil))
 (.cons (.ret (.con (.int 0)))
 .nil)
 .nil)
 (.cons (.ret (.bin .Add (.ix (.var 3) (.var 1)) (.bt .sum (.acons (.comp 1 [4,1] (.one 0) e_price_of_taking_1 (.seq (.var 2)) (.con (.bl true))) .anil))))
 .nil)))
noncomputable def c_left_behind_1:E :=
 (.cmp .NotIn (.var 0) (.var 1))
noncomputable def e_left_behind_2:E :=
 (.var 0)
noncomputable def b_left_behind:S :=
 (.cons (.ret (.bt .tuple (.acons (.comp 1 [1] (.one 0) e_left_behind_2 (.seq (.var 0)) c_left_behind_1) .anil)))
 .nil)
noncomputable def e_with_parts_1:E :=
 (.ife (.cmp .In (.var 0) (.var 3)) (.var 2) (.var 1))
noncomputable def b_with_parts:S :=
 (.cons (.ret (.comp 2 [2,1] (.many [0,1]) e_with_parts_1 (.enum (.var 0)) (.con (.bl true))))
 .nil)
noncomputable def b_first_ways:S :=
 (.cons (.asg (.one 1) (.bt .len (.acons (.ix (.var 0) (.glob 0)) .anil)))
 (.cons (.ret (.dlit (.trng (.var 1)) (.tup (.acons (.con (.int 0)) (.acons (.bin .Mult (.lst (.acons (.con .non) .anil)) (.var 1)) .anil)))))
 .nil))
noncomputable def b_next_ways_1:S :=
 (.cons (.asg (.one 10) (.call 11 (.acons (.var 6) (.acons (.var 9) .anil))))
 (.cons (.asg (.one 11) (.bin .Add (.var 7) (.call 10 (.acons (.var 2) (.acons (.var 3) (.acons (.var 9) .anil))))))
 (.cons (.ite (.or (.cmp .NotIn (.var 10) (.rd 5)) (.cmp .Lt (.var 11) (.ix (.ix (.rd 5) (.var 10)) (.con (.int 0)))))
 (.cons (.dputV 5 (.var 10) (.tup (.acons (.var 11) (.acons (.call 12 (.acons (.var 8) (.acons (.var 9) (.acons (.var 3) .anil)))) .anil))))
 .nil)
 .nil)
 .nil)))
noncomputable def b_next_ways_2:S :=
 (.cons (.asg (.many [7,8]) (.ix (.var 4) (.var 6)))
 (.cons (.forS (.one 9) (.seq (.call 9 (.acons (.var 0) (.acons (.var 1) (.acons (.var 3) (.acons (.var 6) .anil)))))) b_next_ways_1)
 .nil))
noncomputable def b_next_ways:S :=
 (.cons (.newT 5)
 (.cons (.forS (.one 6) (.seqD (.var 4)) b_next_ways_2)
 (.cons (.retO 5)
 .nil)))
noncomputable def b_all_ways_1:S :=
 (.cons (.app 3 (.call 14 (.acons (.var 0) (.acons (.var 2) (.acons (.var 1) (.acons (.var 4) (.acons (.ix (.rd 3) (.neg (.con (.int 1)))) .anil)))))))
 .nil)
noncomputable def b_all_ways:S :=
 (.cons (.asg (.one 2) (.call 6 (.acons (.var 0) .anil)))
 (.cons (.asgO 3 (.lst (.acons (.call 13 (.acons (.var 0) .anil)) .anil)))
 (.cons (.forS (.one 4) (.rng (.bt .len (.acons (.ix (.var 0) (.glob 1)) .anil))) b_all_ways_1)
 (.cons (.retO 3)
 .nil))))
noncomputable def b_least_of:S :=
 (.cons (.ret (.getV (.ix (.call 15 (.acons (.var 0) (.acons (.var 1) .anil))) (.neg (.con (.int 1)))) (.tup .anil)))
 .nil)
noncomputable def e_layer_of_1:E :=
 (.tup (.acons (.var 0) (.acons (.ix (.ix (.var 1) (.var 0)) (.con (.int 0))) .anil)))
noncomputable def b_layer_of:S :=
 (.cons (.ret (.comp 1 [0] (.one 0) e_layer_of_1 (.seqD (.var 0)) (.con (.bl true))))
 .nil)
noncomputable def e_paper_of_1:E :=
 (.call 17 (.acons (.var 0) .anil))
noncomputable def b_paper_of:S :=
 (.cons (.ret (.comp 1 [] (.one 0) e_paper_of_1 (.seq (.call 15 (.acons (.var 0) (.acons (.var 1) .anil)))) (.con (.bl true))))
 .nil)
noncomputable def b_has_its_layers:S :=
 (.cons (.ite (.cmp .NotEq (.bt .len (.acons (.var 1) .anil)) (.bin .Add (.bt .len (.acons (.ix (.var 0) (.glob 1)) .anil)) (.con (.int 1))))
 (.cons (.ret (.con (.bl false)))
 .nil)
 .nil)
 (.cons (.ret (.cmp .Eq (.ix (.var 1) (.con (.int 0))) (.lst (.acons (.tup (.acons (.trng (.bt .len (.acons (.ix (.var 0) (.glob 0)) .anil))) (.acons (.con (.int 0)) .anil))) .anil))))
 .nil))
noncomputable def e_has_each_left_once_1:E :=
 (.var 0)
noncomputable def b_has_each_left_once:S :=
 (.cons (.ret (.call 0 (.acons (.comp 2 [] (.many [0,1]) e_has_each_left_once_1 (.seq (.var 0)) (.con (.bl true))) .anil)))
 .nil)
noncomputable def b_holds_behind_1 : S :=
 (.cons (.asg (.one 9) (.call 11 (.acons (.var 6) (.acons (.var 8) .anil))))
 (.cons (.ite (.or (.cmp .NotIn (.var 9) (.var 5)) (.cmp .Gt (.ix (.var 5) (.var 9)) (.bin .Add (.var 7) (.call 10 (.acons (.var 2) (.acons (.var 3) (.acons (.var 8) .anil)))))))
 (.cons (.ret (.con (.bl false)))
 .nil)
 .nil)
 .nil))
noncomputable def b_holds_behind : S :=
 (.cons (.asg (.many [6,7]) (.var 4))
 (.cons (.forS (.one 8) (.seq (.call 9 (.acons (.var 0) (.acons (.var 1) (.acons (.var 3) (.acons (.var 6) .anil)))))) b_holds_behind_1)
 (.cons (.ret (.con (.bl true)))
 .nil)))
noncomputable def e_holds_step_by_step_1 : E :=
 (.call 21 (.acons (.var 1) (.acons (.var 2) (.acons (.var 3) (.acons (.var 4) (.acons (.var 0) (.acons (.var 5) .anil)))))))
noncomputable def b_holds_step_by_step_2 : S :=
 (.cons (.asg (.one 5) (.dcl (.ix (.var 2) (.bin .Add (.var 4) (.con (.int 1))))))
 (.cons (.ite (.not (.bt .all (.acons (.comp 1 [0, 3, 1, 4, 5] (.one 0) e_holds_step_by_step_1 (.seq (.ix (.var 2) (.var 4))) (.con (.bl true))) .anil)))
 (.cons (.ret (.con (.bl false)))
 .nil)
 .nil)
 .nil))
noncomputable def b_holds_step_by_step : S :=
 (.cons (.asg (.one 3) (.call 6 (.acons (.var 0) .anil)))
 (.cons (.forS (.one 4) (.rng (.bt .len (.acons (.ix (.var 0) (.glob 1)) .anil))) b_holds_step_by_step_2)
 (.cons (.ret (.con (.bl true)))
 .nil)))
noncomputable def c_ends_with_1:E :=
 (.cmp .Eq (.var 0) (.tup .anil))
noncomputable def e_ends_with_2:E :=
 (.var 1)
noncomputable def e_ends_with_3:E :=
 (.cmp .GtE (.var 0) (.var 1))
noncomputable def b_ends_with:S :=
 (.cons (.asg (.one 2) (.comp 2 [] (.many [0,1]) e_ends_with_2 (.seq (.var 0)) c_ends_with_1))
 (.cons (.ite (.cmp .Is (.var 1) (.con .non))
 (.cons (.ret (.cmp .Eq (.var 2) (.lst .anil)))
 .nil)
 .nil)
 (.cons (.ret (.bt .all (.acons (.comp 1 [1] (.one 0) e_ends_with_3 (.seq (.var 2)) (.con (.bl true))) .anil)))
 .nil)))
noncomputable def e_holds_1 : E :=
 (.call 20 (.acons (.var 0) .anil))
noncomputable def b_holds : S :=
 (.cons (.ite (.or (.not (.call 19 (.acons (.var 0) (.acons (.var 2) .anil)))) (.not (.bt .all (.acons (.comp 1 [] (.one 0) e_holds_1 (.seq (.var 2)) (.con (.bl true))) .anil))))
 (.cons (.ret (.con (.bl false)))
 .nil)
 .nil)
 (.cons (.ret (.and (.call 23 (.acons (.ix (.var 2) (.neg (.con (.int 1)))) (.acons (.var 3) .anil))) (.call 22 (.acons (.var 0) (.acons (.var 1) (.acons (.var 2) .anil))))))
 .nil))
noncomputable def b_like_of_1:S :=
 (.cons (.ite (.cmp .Eq (.sl (.var 3) .omit (.con (.int 2))) (.tup (.acons (.var 1) (.acons (.var 2) .anil))))
 (.cons (.ret (.ix (.var 3) (.con (.int 2))))
 .nil)
 .nil)
 .nil)
noncomputable def b_like_of:S :=
 (.cons (.forS (.one 3) (.seq (.ix (.var 0) (.glob 3))) b_like_of_1)
 (.cons (.ret (.con (.int 0)))
 .nil))
noncomputable def e_likes_of_1:E :=
 (.call 25 (.acons (.var 1) (.acons (.var 2) (.acons (.var 0) .anil))))
noncomputable def b_likes_of:S :=
 (.cons (.ret (.bt .tuple (.acons (.comp 1 [0,1] (.one 0) e_likes_of_1 (.rng (.bt .len (.acons (.ix (.var 0) (.glob 0)) .anil))) (.con (.bl true))) .anil)))
 .nil)
noncomputable def e_prices_of_1:E :=
 (.ix (.var 0) (.con (.int 2)))
noncomputable def e_prices_of_2:E :=
 (.call 26 (.acons (.var 1) (.acons (.var 0) .anil)))
noncomputable def b_prices_of:S :=
 (.cons (.asg (.one 1) (.bt .tuple (.acons (.comp 1 [] (.one 0) e_prices_of_1 (.seq (.ix (.var 0) (.glob 1))) (.con (.bl true))) .anil)))
 (.cons (.asg (.one 2) (.bt .tuple (.acons (.comp 1 [0] (.one 0) e_prices_of_2 (.rng (.bt .len (.acons (.ix (.var 0) (.glob 1)) .anil))) (.con (.bl true))) .anil)))
 (.cons (.ret (.tup (.acons (.var 1) (.acons (.var 2) .anil))))
 .nil)))
noncomputable def e_likes_of_change_1:E :=
 (.ife (.cmp .Eq (.var 0) (.var 1)) (.con (.int 0)) (.con (.int 1)))
noncomputable def b_likes_of_change:S :=
 (.cons (.ret (.bt .tuple (.acons (.comp 1 [1] (.one 0) e_likes_of_change_1 (.seq (.var 0)) (.con (.bl true))) .anil)))
 .nil)
noncomputable def e_prices_of_change_1:E :=
 (.call 28 (.acons (.var 1) (.acons (.var 0) .anil)))
noncomputable def e_prices_of_change_2:E :=
 (.con (.int 0))
noncomputable def b_prices_of_change:S :=
 (.cons (.asg (.one 2) (.lrng (.bt .len (.acons (.ix (.var 0) (.glob 1)) .anil))))
 (.cons (.ret (.tup (.acons (.bt .tuple (.acons (.comp 1 [] (.one 0) e_prices_of_change_2 (.seq (.var 2)) (.con (.bl true))) .anil)) (.acons (.bt .tuple (.acons (.comp 1 [1] (.one 0) e_prices_of_change_1 (.seq (.var 2)) (.con (.bl true))) .anil)) .anil))))
 .nil))
noncomputable def b_law_cell_at:S :=
 (.cons (.ite (.cmp .Lt (.var 1) (.bt .len (.acons (.var 0) .anil)))
 (.cons (.ret (.ix (.var 0) (.var 1)))
 .nil)
 .nil)
 (.cons (.ret (.con (.int 0)))
 .nil))
noncomputable def b_law_mixed:S :=
 (.cons (.ret (.bin .Mod (.bin .Add (.bin .Add (.bin .Mult (.var 0) (.con (.int 48271))) (.bin .Mult (.bin .Mult (.var 1) (.var 1)) (.con (.int 69621)))) (.con (.int 5))) (.con (.int 2147483647))))
 .nil)
noncomputable def b_law_minutes:S :=
 (.cons (.ret (.ix (.lst (.acons (.con (.int 0)) (.acons (.bin .Mod (.bin .FloorDiv (.var 0) (.con (.int 5))) (.con (.int 7))) (.acons (.bin .Mod (.bin .FloorDiv (.var 0) (.con (.int 5))) (.con (.int 31))) (.acons (.bin .Mod (.bin .FloorDiv (.var 0) (.con (.int 5))) (.con (.int 400))) (.acons (.bin .Mod (.bin .Mult (.var 0) (.var 0)) (.bin .Pow (.con (.int 10)) (.con (.int 9)))) .anil)))))) (.bin .Mod (.var 0) (.con (.int 5)))))
 .nil)
noncomputable def b_parts_1:S :=
 (.cons (.asg (.one 4) (.call 31 (.acons (.var 0) (.acons (.bin .Add (.bin .Mult (.con (.int 3)) (.var 3)) (.con (.int 1))) .anil))))
 (.cons (.asg (.one 5) (.call 32 (.acons (.bin .FloorDiv (.var 4) (.con (.int 7))) .anil)))
 (.cons (.asg (.one 6) (.call 32 (.acons (.bin .FloorDiv (.var 4) (.con (.int 11))) .anil)))
 (.cons (.app 2 (.tup (.acons (.bin .Add (.con (.str "p")) (.ix (.con (.str "abcdefgh")) (.var 3))) (.acons (.ix (.con (.str "stb")) (.bin .Mod (.var 4) (.con (.int 3)))) (.acons (.ix (.lst (.acons (.con (.int 0)) (.acons (.var 5) .anil))) (.bt .int (.acons (.cmp .Gt (.bin .Mod (.var 4) (.con (.int 4))) (.con (.int 0))) .anil))) (.acons (.ix (.lst (.acons (.con (.int 0)) (.acons (.var 6) .anil))) (.bt .int (.acons (.cmp .Gt (.bin .Mod (.bin .FloorDiv (.var 4) (.con (.int 3))) (.con (.int 4))) (.con (.int 0))) .anil))) .anil))))))
 .nil))))
noncomputable def b_law_parts:S :=
 (.cons (.asgO 2 (.lst .anil))
 (.cons (.forS (.one 3) (.rng (.var 1)) b_parts_1)
 (.cons (.ret (.bt .tuple (.acons (.rd 2) .anil)))
 .nil)))
noncomputable def c_scenes_1:E :=
 (.cmp .Eq (.bin .Mod (.bin .FloorDiv (.var 1) (.ix (.lst (.acons (.con (.int 8)) (.acons (.con (.int 16)) (.acons (.con (.int 32)) (.acons (.con (.int 64)) (.acons (.con (.int 128)) (.acons (.con (.int 256)) (.acons (.con (.int 512)) (.acons (.con (.int 1024)) .anil))))))))) (.var 0))) (.con (.int 2))) (.con (.int 1)))
noncomputable def e_scenes_2:E :=
 (.var 0)
noncomputable def b_scenes_3:S :=
 (.cons (.asg (.one 5) (.call 31 (.acons (.var 4) (.acons (.var 3) .anil))))
 (.cons (.asgO 6 (.comp 1 [5] (.one 0) e_scenes_2 (.rng (.var 1)) c_scenes_1))
 (.cons (.ite (.cmp .Gt (.bin .Mod (.var 5) (.con (.int 3))) (.con (.int 0)))
 (.cons (.asgO 6 (.sl (.rd 6) .omit (.bin .Add (.con (.int 1)) (.bin .Mod (.bin .FloorDiv (.var 5) (.con (.int 2048))) (.con (.int 2))))))
 .nil)
 .nil)
 (.cons (.ite (.cmp .Eq (.bin .Mod (.bin .FloorDiv (.var 5) (.con (.int 4096))) (.con (.int 2))) (.con (.int 1)))
 (.cons (.rev 6)
 .nil)
 .nil)
 (.cons (.asg (.one 7) (.bin .Add (.con (.str "s")) (.ix (.con (.str "abcdefghijklmnopqrstuvwx")) (.var 3))))
 (.cons (.app 2 (.tup (.acons (.var 7) (.acons (.call 32 (.acons (.bin .FloorDiv (.var 5) (.con (.int 8192))) .anil)) (.acons (.call 32 (.acons (.bin .FloorDiv (.var 5) (.con (.int 64))) .anil)) (.acons (.bt .tuple (.acons (.rd 6) .anil)) .anil))))))
 .nil))))))
noncomputable def b_law_scenes:S :=
 (.cons (.asgO 2 (.lst .anil))
 (.cons (.forS (.many [3,4]) (.enum (.var 0)) b_scenes_3)
 (.cons (.ret (.bt .tuple (.acons (.rd 2) .anil)))
 .nil)))
noncomputable def b_players_1:S :=
 (.cons (.asg (.one 4) (.call 31 (.acons (.var 0) (.acons (.bin .Add (.bin .Mult (.con (.int 5)) (.var 3)) (.con (.int 2))) .anil))))
 (.cons (.asg (.one 5) (.ix (.lst (.acons (.con (.str "s")) (.acons (.con (.str "t")) (.acons (.con (.str "st")) (.acons (.con (.str "tb")) (.acons (.con (.str "stb")) (.acons (.con (.str "bts")) (.acons (.con (.str "bs")) (.acons (.con (.str "")) .anil))))))))) (.bin .Mod (.var 4) (.con (.int 8)))))
 (.cons (.asg (.one 6) (.ix (.lst (.acons (.con (.int 0)) (.acons (.bin .Mod (.bin .FloorDiv (.var 4) (.con (.int 8))) (.con (.int 5))) (.acons (.bin .Mod (.bin .FloorDiv (.var 4) (.con (.int 8))) (.con (.int 100))) (.acons (.bin .Mod (.bin .Mult (.var 4) (.var 4)) (.bin .Pow (.con (.int 10)) (.con (.int 9)))) .anil))))) (.bin .Mod (.bin .FloorDiv (.var 4) (.con (.int 3))) (.con (.int 4)))))
 (.cons (.app 2 (.tup (.acons (.bin .Add (.con (.str "x")) (.ix (.con (.str "abcdef")) (.var 3))) (.acons (.var 5) (.acons (.var 6) .anil)))))
 .nil))))
noncomputable def b_law_players:S :=
 (.cons (.asgO 2 (.lst .anil))
 (.cons (.forS (.one 3) (.rng (.var 1)) b_players_1)
 (.cons (.ret (.bt .tuple (.acons (.rd 2) .anil)))
 .nil)))
noncomputable def b_likes_1:S :=
 (.cons (.asg (.one 6) (.call 31 (.acons (.var 0) (.acons (.bin .Add (.bin .Mult (.con (.int 8)) (.var 4)) (.var 5)) .anil))))
 (.cons (.ite (.cmp .Eq (.bin .Mod (.var 6) (.con (.int 3))) (.con (.int 1)))
 (.cons (.app 3 (.tup (.acons (.var 4) (.acons (.var 5) (.acons (.ix (.lst (.acons (.bin .Mod (.bin .FloorDiv (.var 6) (.con (.int 3))) (.con (.int 4))) (.acons (.bin .Mod (.bin .FloorDiv (.var 6) (.con (.int 3))) (.con (.int 50))) (.acons (.bin .Mod (.bin .Mult (.var 6) (.var 6)) (.bin .Pow (.con (.int 10)) (.con (.int 9)))) .anil)))) (.bin .Mod (.bin .FloorDiv (.var 6) (.con (.int 5))) (.con (.int 3)))) .anil)))))
 .nil)
 .nil)
 .nil))
noncomputable def b_likes_2:S :=
 (.cons (.forS (.one 5) (.rng (.var 2)) b_likes_1)
 .nil)
noncomputable def b_law_likes:S :=
 (.cons (.asgO 3 (.lst .anil))
 (.cons (.forS (.one 4) (.rng (.var 1)) b_likes_2)
 (.cons (.ret (.bt .tuple (.acons (.rd 3) .anil)))
 .nil)))
noncomputable def b_law_book:S :=
 (.cons (.asg (.one 4) (.call 33 (.acons (.call 30 (.acons (.var 0) (.acons (.con (.int 1)) .anil))) (.acons (.var 1) .anil))))
 (.cons (.asg (.one 5) (.sl (.var 0) (.con (.int 6)) (.bin .Add (.con (.int 6)) (.var 3))))
 (.cons (.asg (.one 6) (.call 35 (.acons (.call 30 (.acons (.var 0) (.acons (.con (.int 2)) .anil))) (.acons (.var 2) .anil))))
 (.cons (.ret (.tup (.acons (.var 4) (.acons (.var 6) (.acons (.call 34 (.acons (.var 5) (.acons (.var 1) .anil))) (.acons (.call 36 (.acons (.call 30 (.acons (.var 0) (.acons (.con (.int 3)) .anil))) (.acons (.var 2) (.acons (.var 1) .anil)))) (.acons (.tup .anil) .anil)))))))
 .nil))))
noncomputable def b_clash_1:S :=
 (.cons (.ite (.and (.cmp .In (.var 8) (.ix (.var 6) (.con (.int 3)))) (.and (.cmp .In (.var 7) (.rd 5)) (.cmp .Lt (.bin .Sub (.var 4) (.ix (.rd 5) (.var 7))) (.bin .Add (.ix (.ix (.var 0) (.var 7)) (.con (.int 2))) (.ix (.ix (.var 0) (.var 8)) (.con (.int 3)))))))
 (.cons (.ret (.con (.bl true)))
 .nil)
 .nil)
 .nil)
noncomputable def b_clash_2:S :=
 (.cons (.ite (.cmp .In (.var 7) (.ix (.var 6) (.con (.int 3))))
 (.cons (.dput 5 (.var 7) (.var 4))
 .nil)
 .nil)
 .nil)
noncomputable def b_clash_3:S :=
 (.cons (.ite (.and (.cmp .In (.var 2) (.ix (.var 6) (.con (.int 3)))) (.cmp .In (.var 3) (.ix (.var 6) (.con (.int 3)))))
 (.cons (.ret (.con (.bl true)))
 .nil)
 .nil)
 (.cons (.forS (.many [7,8]) (.seq (.lst (.acons (.tup (.acons (.var 2) (.acons (.var 3) .anil))) (.acons (.tup (.acons (.var 3) (.acons (.var 2) .anil))) .anil)))) b_clash_1)
 (.cons (.asg (.one 4) (.bin .Add (.var 4) (.ix (.var 6) (.con (.int 1)))))
 (.cons (.forS (.one 7) (.seq (.tup (.acons (.var 2) (.acons (.var 3) .anil)))) b_clash_2)
 (.cons (.asg (.one 4) (.bin .Add (.var 4) (.ix (.var 6) (.con (.int 2)))))
 .nil)))))
noncomputable def b_law_clash:S :=
 (.cons (.asg (.one 4) (.con (.int 0)))
 (.cons (.newD 5)
 (.cons (.forS (.one 6) (.seq (.var 1)) b_clash_3)
 (.cons (.ret (.con (.bl false)))
 .nil))))
noncomputable def c_clashes_1:E :=
 (.call 38 (.acons (.ix (.var 2) (.con (.int 0))) (.acons (.ix (.var 2) (.con (.int 2))) (.acons (.var 0) (.acons (.var 1) .anil)))))
noncomputable def e_clashes_2:E :=
 (.tup (.acons (.var 0) (.acons (.var 1) .anil)))
noncomputable def b_clashes_3:S :=
 (.cons (.asg (.one 1) (.bin .Add (.var 1) (.comp 1 [2,0] (.one 0) e_clashes_2 (.rng (.var 2)) c_clashes_1)))
 .nil)
noncomputable def b_law_clashes:S :=
 (.cons (.asg (.one 1) (.lst .anil))
 (.cons (.forS (.one 2) (.rng (.bt .len (.acons (.ix (.var 0) (.con (.int 0))) .anil))) b_clashes_3)
 (.cons (.ret (.var 1))
 .nil)))
noncomputable def b_plays_1:S :=
 (.cons (.ite (.or (.cmp .Is (.var 4) (.con .non)) (.cmp .NotIn (.ix (.ix (.ix (.var 0) (.con (.int 0))) (.var 3)) (.con (.int 1))) (.ix (.ix (.ix (.var 0) (.con (.int 1))) (.var 4)) (.con (.int 1)))))
 (.cons (.ret (.con (.bl false)))
 .nil)
 .nil)
 .nil)
noncomputable def b_plays_2:S :=
 (.cons (.ite (.cmp .Eq (.ix (.var 2) (.var 5)) (.ix (.var 2) (.var 6)))
 (.cons (.ret (.con (.bl false)))
 .nil)
 .nil)
 .nil)
noncomputable def b_law_plays:S :=
 (.cons (.forS (.many [3,4]) (.enum (.var 2)) b_plays_1)
 (.cons (.forS (.many [5,6]) (.seq (.var 1)) b_plays_2)
 (.cons (.ret (.con (.bl true)))
 .nil)))
noncomputable def c_price_1:E :=
 (.cmp .In (.var 0) (.var 2))
noncomputable def e_price_2:E :=
 (.ix (.ix (.var 1) (.con (.int 0))) (.var 0))
noncomputable def e_price_3:E :=
 (.ix (.ix (.ix (.var 2) (.con (.int 1))) (.var 1)) (.var 0))
noncomputable def b_law_price:S :=
 (.cons (.asg (.one 2) (.bt .sum (.acons (.comp 1 [0,1] (.one 0) e_price_2 (.rng (.bt .len (.acons (.ix (.var 0) (.con (.int 0))) .anil))) c_price_1) .anil)))
 (.cons (.ret (.bin .Add (.var 2) (.bt .sum (.acons (.comp 2 [0] (.many [0,1]) e_price_3 (.enum (.var 1)) (.con (.bl true))) .anil))))
 .nil))
noncomputable def b_law_paper:S :=
 (.cons (.asg (.one 3) (.call 18 (.acons (.var 0) (.acons (.var 1) .anil))))
 (.cons (.ite (.cmp .Is (.var 2) (.con .non))
 (.cons (.ret (.and (.cmp .Is (.call 24 (.acons (.var 0) (.acons (.var 1) (.acons (.var 3) (.acons (.con .non) .anil))))) (.con (.bl true))) (.cmp .Is (.call 24 (.acons (.var 0) (.acons (.var 1) (.acons (.var 3) (.acons (.bin .Pow (.con (.int 10)) (.con (.int 19))) .anil))))) (.con (.bl true)))))
 .nil)
 .nil)
 (.cons (.ite (.or (.cmp .IsNot (.call 24 (.acons (.var 0) (.acons (.var 1) (.acons (.var 3) (.acons (.ix (.var 2) (.con (.int 0))) .anil))))) (.con (.bl true))) (.cmp .IsNot (.call 24 (.acons (.var 0) (.acons (.var 1) (.acons (.var 3) (.acons (.con .non) .anil))))) (.con (.bl false))))
 (.cons (.ret (.con (.bl false)))
 .nil)
 .nil)
 (.cons (.ret (.cmp .Is (.call 24 (.acons (.var 0) (.acons (.var 1) (.acons (.var 3) (.acons (.bin .Add (.ix (.var 2) (.con (.int 0))) (.con (.int 1))) .anil))))) (.con (.bl false))))
 .nil))))
noncomputable def e_is_least_1:E :=
 (.bin .Mod (.bin .FloorDiv (.call 31 (.acons (.var 2) (.acons (.bin .Add (.bin .Mult (.con (.int 7)) (.var 3)) (.var 0)) .anil))) (.con (.int 3))) (.var 1))
noncomputable def b_is_least_2:S :=
 (.cons (.asg (.one 7) (.comp 1 [5,4,6] (.one 0) e_is_least_1 (.rng (.bt .len (.acons (.ix (.var 0) (.con (.int 0))) .anil))) (.con (.bl true))))
 (.cons (.ite (.call 40 (.acons (.var 0) (.acons (.var 1) (.acons (.var 7) .anil))))
 (.cons (.ite (.or (.cmp .Is (.var 3) (.con .non)) (.cmp .Lt (.call 41 (.acons (.var 2) (.acons (.var 7) .anil))) (.ix (.var 3) (.con (.int 0)))))
 (.cons (.ret (.con (.bl false)))
 .nil)
 .nil)
 .nil)
 .nil)
 .nil))
noncomputable def b_law_is_least:S :=
 (.cons (.ite (.cmp .IsNot (.var 3) (.con .non))
 (.cons (.ite (.or (.not (.isi (.ix (.var 3) (.con (.int 1))) .list)) (.cmp .NotEq (.bt .len (.acons (.ix (.var 3) (.con (.int 1))) .anil)) (.bt .len (.acons (.ix (.var 0) (.con (.int 0))) .anil))))
 (.cons (.ret (.con (.bl false)))
 .nil)
 .nil)
 (.cons (.ite (.or (.not (.call 40 (.acons (.var 0) (.acons (.var 1) (.acons (.ix (.var 3) (.con (.int 1))) .anil))))) (.cmp .NotEq (.call 41 (.acons (.var 2) (.acons (.ix (.var 3) (.con (.int 1))) .anil))) (.ix (.var 3) (.con (.int 0)))))
 (.cons (.ret (.con (.bl false)))
 .nil)
 .nil)
 .nil))
 .nil)
 (.cons (.asg (.one 5) (.bt .len (.acons (.ix (.var 0) (.con (.int 1))) .anil)))
 (.cons (.forS (.one 6) (.rng (.bin .Mult (.con (.int 30)) (.bt .int (.acons (.cmp .Gt (.var 5) (.con (.int 0))) .anil)))) b_is_least_2)
 (.cons (.ret (.con (.bl true)))
 .nil))))
noncomputable def e_law_1:E :=
 (.ix (.bin .Add (.lst (.acons (.con .non) .anil)) (.lrng (.var 2))) (.bin .Mod (.call 31 (.acons (.var 1) (.acons (.var 0) .anil))) (.bin .Add (.var 2) (.con (.int 1)))))
noncomputable def b_law:S :=
 (.cons (.asg (.one 1) (.bin .Mod (.call 30 (.acons (.var 0) (.acons (.con (.int 0)) .anil))) (.con (.int 7))))
 (.cons (.asg (.one 2) (.bin .Mod (.bin .FloorDiv (.call 30 (.acons (.var 0) (.acons (.con (.int 0)) .anil))) (.con (.int 7))) (.con (.int 5))))
 (.cons (.asg (.one 3) (.call 37 (.acons (.var 0) (.acons (.var 1) (.acons (.var 2) (.acons (.con (.int 12)) .anil))))))
 (.cons (.asg (.one 4) (.call 27 (.acons (.var 3) .anil)))
 (.cons (.asg (.one 5) (.call 30 (.acons (.var 0) (.acons (.con (.int 4)) .anil))))
 (.cons (.ite (.cmp .Eq (.bin .Mod (.var 5) (.con (.int 3))) (.con (.int 1)))
 (.cons (.asg (.one 6) (.comp 1 [5,2] (.one 0) e_law_1 (.rng (.var 1)) (.con (.bl true))))
 (.cons (.asg (.one 4) (.call 29 (.acons (.var 3) (.acons (.var 6) .anil))))
 .nil))
 .nil)
 (.cons (.asg (.one 7) (.call 16 (.acons (.var 3) (.acons (.var 4) .anil))))
 (.cons (.ite (.or (.not (.call 42 (.acons (.var 3) (.acons (.var 4) (.acons (.var 7) .anil))))) (.not (.call 43 (.acons (.var 3) (.acons (.call 39 (.acons (.var 3) .anil)) (.acons (.var 4) (.acons (.var 7) (.acons (.var 5) .anil))))))))
 (.cons (.ret (.con (.bl false)))
 .nil)
 .nil)
 (.cons (.ite (.cmp .Eq (.var 2) (.con (.int 0)))
 (.cons (.ret (.cmp .Eq (.cmp .Is (.var 7) (.con .non)) (.cmp .Gt (.var 1) (.con (.int 0)))))
 .nil)
 .nil)
 (.cons (.asg (.one 8) (.tup (.acons (.ix (.var 3) (.con (.int 0))) (.acons (.sl (.ix (.var 3) (.con (.int 1))) .omit (.neg (.con (.int 1)))) (.acons (.ix (.var 3) (.con (.int 2))) (.acons (.tup .anil) (.acons (.tup .anil) .anil)))))))
 (.cons (.asg (.one 9) (.call 16 (.acons (.var 8) (.acons (.tup (.acons (.sl (.ix (.var 4) (.con (.int 0))) .omit (.neg (.con (.int 1)))) (.acons (.sl (.ix (.var 4) (.con (.int 1))) .omit (.neg (.con (.int 1)))) .anil))) .anil))))
 (.cons (.ret (.or (.cmp .Is (.var 9) (.con .non)) (.and (.cmp .IsNot (.var 7) (.con .non)) (.cmp .LtE (.ix (.var 7) (.con (.int 0))) (.ix (.var 9) (.con (.int 0)))))))
 .nil))))))))))))
noncomputable def T:Tab:=⟨λg=>match g with | 0=>(.int 0) | 1=>(.int 1) | 2=>(.int 2) | 3=>(.int 3) | _=>.non,λf=>f==6||f==12||f==15||f==17||f==18,λf=>none⟩
@[simp] theorem T_glob0:T.glob 0=(.int 0):=id rfl
@[simp] theorem T_glob1:T.glob 1=(.int 1):=id rfl
@[simp] theorem T_glob2:T.glob 2=(.int 2):=id rfl
@[simp] theorem T_glob3:T.glob 3=(.int 3):=id rfl
@[simp] theorem T_fresh0:T.fresh 0=false:=id rfl
@[simp] theorem T_fresh3:T.fresh 3=false:=id rfl
noncomputable def dfs : List Df := [⟨1, 1, b_are_unlike, none⟩, ⟨4, 3, b_time_between, none⟩, ⟨3, 3, b_change_time, none⟩, ⟨7, 4, b_short_change_from, none⟩, ⟨5, 4, b_reason_from, none⟩, ⟨5, 3, b_reason_of, none⟩, ⟨4, 1, b_clashes_of, none⟩, ⟨3, 3, b_fault_of_part, none⟩, ⟨3, 3, b_may_join, none⟩, ⟨6, 4, b_takings_of, none⟩, ⟨5, 3, b_price_of_taking, none⟩, ⟨2, 2, b_left_behind, none⟩, ⟨3, 3, b_with_parts, none⟩, ⟨2, 1, b_first_ways, none⟩, ⟨12, 5, b_next_ways, none⟩, ⟨5, 2, b_all_ways, none⟩, ⟨2, 2, b_least_of, none⟩, ⟨1, 1, b_layer_of, none⟩, ⟨2, 2, b_paper_of, none⟩, ⟨2, 2, b_has_its_layers, none⟩, ⟨1, 1, b_has_each_left_once, none⟩, ⟨10, 6, b_holds_behind, none⟩, ⟨6, 3, b_holds_step_by_step, none⟩, ⟨3, 2, b_ends_with, none⟩, ⟨4, 4, b_holds, none⟩, ⟨4, 3, b_like_of, none⟩, ⟨2, 2, b_likes_of, none⟩, ⟨3, 1, b_prices_of, none⟩, ⟨2, 2, b_likes_of_change, none⟩, ⟨3, 2, b_prices_of_change, none⟩, ⟨2, 2, b_law_cell_at, none⟩, ⟨2, 2, b_law_mixed, none⟩, ⟨1, 1, b_law_minutes, none⟩, ⟨7, 2, b_law_parts, none⟩, ⟨8, 2, b_law_scenes, none⟩, ⟨7, 2, b_law_players, none⟩, ⟨7, 3, b_law_likes, none⟩, ⟨7, 4, b_law_book, none⟩, ⟨9, 4, b_law_clash, none⟩, ⟨3, 1, b_law_clashes, none⟩, ⟨7, 3, b_law_plays, none⟩, ⟨3, 2, b_law_price, none⟩, ⟨4, 3, b_law_paper, none⟩, ⟨8, 5, b_law_is_least, none⟩, ⟨10, 1, b_law, none⟩]
theorem cell_at (n:Nat) (ns:List Int) (k:Nat):callF T dfs (n+1) 30 [.lst (ns.map D.int),.int k]=.ok (.int (cellV ns k)):=by
 unfold cellV
 refine callF_rt (k:=false) rfl rfl rfl ?_
 by_cases h:k < ns.length
 ·have hi:(ns.map D.int)[k]?=some (.int (ns.getD k 0)):=by simp[h]
  simp[b_law_cell_at,h,ix_l hi,freshE]
 ·simp[b_law_cell_at,h,freshE]
theorem mixed (n:Nat) (c k:Int) (hk:-1000≤k∧k≤1000):callF T dfs (n+1) 31 [.int c,.int k]=.ok (.int (mixV c k)):=by
 refine callF_rt (k:=false) rfl rfl rfl ?_
 have:=bin_mulL (j:=k) (show -(2^64) < k∧k < 2^64 by lia)
 simp[b_law_mixed,freshE,this,mixV]
theorem minutes (n:Nat) (m:Int) (hm:-(2^64) < m∧m < 2^64):callF T dfs (n+1) 32 [.int m]=.ok (.int (minV m)):=by
 refine callF_rt (k:=false) rfl rfl rfl ?_
 have h:D.ix (.lst [.int 0,.int (m / 5 % 7),.int (m / 5 % 31),.int (m / 5 % 400),.int (m*m % 1000000000)]) (.int (m % 5))=.ok (.int (minV m)):=by
  unfold minV
  rcases five m with h | h | h | h | h<;>rw[h]<;>rfl
 have:=bin_mulL (j:=m) hm
 simp[b_law_minutes,this,freshE,h]
theorem parts (n:Nat) (c:Int) (many:Nat) (hm:many≤8):∃ps:List Part,ps.length=many∧(∀p∈ps,(0≤p.off∧0≤p.on)∧(signs p.voice).length=1)∧callF T dfs (n+2) 33 [.int c,.int many]=.ok (.tup (ps.map Part.enc)):=by
 obtain⟨e',h1,ps,s3,s4,s5,s6,rfl,hl,hp⟩:=forL_inv (f:=bodyF T (callF T dfs (n+1)) (.one 3) b_parts_1)
  (λi e=>∃(ps:List Part) (s3 s4 s5 s6:Sl),e=[.v (.int c),.v (.int many),.o (.lst (ps.map Part.enc)),s3,s4,s5,s6]∧ps.length=i∧∀p∈ps,(0≤p.off∧0≤p.on)∧(signs p.voice).length=1)
  (rangeD 0 many) [.v (.int c),.v (.int many),.o (.lst []),.no,.no,.no,.no] 0 ⟨[],.no,.no,.no,.no,rfl,rfl,by simp⟩ (by
   rintro i d e hd ⟨ps,s3,s4,s5,s6,rfl,hl,hp⟩
   obtain⟨hi,rfl⟩:=rangeD_at hd
   have lo:=mixV_lo c (3*(i:Int)+1)
   have hiM:=mixV_hi c (3*(i:Int)+1)
   obtain⟨y1,ey1,ly1⟩:=ix_str (x:=("abcdefgh" : Str)) (i:=i) (by rw[size_ah];lia) (by decide +kernel)
   obtain⟨y2,ey2,ly2⟩:=ix_strI (x:=("stb" : Str)) (i:=mixV c (3*(i:Int)+1) % 3) (by lia) (by rw[size_stb];lia) (by decide +kernel)
   have hb:ps.length < big:=by have:=ten_big;lia
   have m1:=mixed n c (3*(i:Int)+1) (by lia)
   have m2:=minutes n (mixV c (3*(i:Int)+1) / 7) (by lia)
   have m3:=minutes n (mixV c (3*(i:Int)+1) / 11) (by lia)
   have l1:("p" : Str).length+y1.length≤big:=by rw[ly1];decide +kernel
   refine⟨?e,.inl ?h,?i⟩
   case h =>
    simp[bodyF,b_parts_1,m1,m2,m3,ey1,ey2,ix2i,hb,add_str l1]
    exact rfl
   case i =>
    refine⟨ps++[⟨("p" : Str)++y1,y2,if 0 < mixV c (3*(i:Int)+1) % 4 then minV (mixV c (3*(i:Int)+1) / 7) else 0,if 0 < mixV c (3*(i:Int)+1) / 3 % 4 then minV (mixV c (3*(i:Int)+1) / 11) else 0⟩],_,_,_,_,(by rw[List.map_append];rfl),by simp[hl],?_⟩
    intro p hq
    rcases List.mem_append.mp hq with q | q
    ·exact hp p q
    ·simp at q
     subst q
     refine⟨?_,by dsimp only;rw[←len_signs];exact ly2⟩
     refine⟨?_,?_⟩<;>dsimp only<;>split<;>first | exact minV_lo _ | exact Int.le_refl 0)
 refine⟨ps,by simpa using hl,hp,callF_rt (k:=false) rfl rfl rfl ?_⟩
 have hr:rngR (.int (many:Int))=.ok (rangeD 0 many):=rng_ok (by lia)
 simp[b_law_parts,hr,h1,freshE]
theorem nums (n:Nat) (m:Int) (many:Nat) (hm:many≤8) (s0 s1 s2 s3 s4 s6 s7:Sl) :
 compL (compF T (callF T dfs n) 1 [5] (.one 0) e_scenes_2 c_scenes_1 [s0,s1,s2,s3,s4,.v (.int m),s6,s7]) (rangeD 0 many)=.ok (natD ((List.range many).filter λk=>m / 2^(k+3) % 2==1)):=by
 have key:∀k:Nat,k < many→compF T (callF T dfs n) 1 [5] (.one 0) e_scenes_2 c_scenes_1 [s0,s1,s2,s3,s4,.v (.int m),s6,s7] (.int k)=.ok (if m / 2^(k+3) % 2==1 then some (.int k) else none):=by
  intro k hk
  have h:D.ix (.lst [.int 8,.int 16,.int 32,.int 64,.int 128,.int 256,.int 512,.int 1024]) (.int (k:Int))=.ok (.int (2^(k+3))):=by
   have:k=0∨k=1∨k=2∨k=3∨k=4∨k=5∨k=6∨k=7:=by lia
   rcases this with rfl | rfl | rfl | rfl | rfl | rfl | rfl | rfl<;>rfl
  have hp:(0:Int) < 2^(k+3)∧(2:Int)^(k+3) < 1073741824:=by
   have:k=0∨k=1∨k=2∨k=3∨k=4∨k=5∨k=6∨k=7:=by lia
   rcases this with rfl | rfl | rfl | rfl | rfl | rfl | rfl | rfl<;>decide
  have hd:=bin_fdiv (i:=m) hp
  simp[compF,Tr.compEnv,e_scenes_2,c_scenes_1,h,hd]
  split<;>rfl
 rw[rangeD_eq]
 rw[compL_ok (λd=>match d with | .int k=>if m / 2^(k.toNat+3) % 2==1 then some (.int k) else none | _=>none) (by
  intro d hd
  obtain⟨k,hk,rfl⟩:=List.mem_map.mp hd
  rw[Int.zero_add,key k (by simpa using hk)]
  simp)]
 congr 1
 rw[List.filterMap_map]
 unfold natD
 rw[←List.filterMap_eq_map,List.filterMap_filter]
 congr 1
 funext k
 simp[Function.comp]
theorem scenes (n:Nat) (cells:List Int) (hc:cells.length≤24) (many:Nat) (hm:many≤8):∃ss:List Scene,ss.length=cells.length∧(∀s∈ss,GoodScene many s)∧callF T dfs (n+2) 34 [.lst (cells.map D.int),.int many]=.ok (.tup (ss.map Scene.enc)):=by
 obtain⟨e',h1,ps,s3,s4,s5,s6,s7,rfl,hl,hp⟩:=forL_inv (f:=bodyF T (callF T dfs (n+1)) (.many [3,4]) b_scenes_3)
  (λi e=>∃(ps:List Scene) (s3 s4 s5 s6 s7:Sl),e=[.v (.lst (cells.map D.int)),.v (.int many),.o (.lst (ps.map Scene.enc)),s3,s4,s5,s6,s7]∧ps.length=i∧∀s∈ps,GoodScene many s)
  (enumD 0 (cells.map D.int)) [.v (.lst (cells.map D.int)),.v (.int many),.o (.lst []),.no,.no,.no,.no,.no] 0 ⟨[],.no,.no,.no,.no,.no,rfl,rfl,by simp⟩ (by
   rintro i d e hd ⟨ps,s3,s4,s5,s6,s7,rfl,hl,hp⟩
   obtain⟨x,hx,rfl⟩:=enumD_at hd
   rw[List.getElem?_map] at hx
   cases hc1:cells[i]? with
   | none=>rw[hc1] at hx;cases hx
   | some c =>
   rw[hc1] at hx
   cases hx
   have hi:i < cells.length:=(List.getElem?_eq_some_iff.mp hc1).1
   have lo:=mixV_lo c (i:Int)
   have hiM:=mixV_hi c (i:Int)
   obtain⟨y1,ey1,ly1⟩:=ix_str (x:=("abcdefghijklmnopqrstuvwx" : Str)) (i:=i) (by rw[size_ax];lia) (by decide +kernel)
   have hb:ps.length < big:=by have:=ten_big;lia
   have m1:=mixed n c (i:Int) (by lia)
   have m2:=minutes n (mixV c (i:Int) / 8192) (by lia)
   have m3:=minutes n (mixV c (i:Int) / 64) (by lia)
   have l1:("s" : Str).length+y1.length≤big:=by rw[ly1];decide +kernel
   have hr:rngR (.int (many:Int))=.ok (rangeD 0 many):=rng_ok (by lia)
   have hbm:many≤big:=by have:=ten_big;lia
   generalize hM:mixV c (i:Int)=M at *
   have hcut:∃k:Nat,1+M / 2048 % 2=(k:Int):=⟨(1+M / 2048 % 2).toNat,by lia⟩
   obtain⟨k,hk⟩:=hcut
   have cutN:∀ws:List Nat,cut (natD ws) none (some (k:Int))=natD (ws.take k):=by
    intro ws
    unfold cut sIx
    simp only[]
    rw[if_neg (by lia),natD_length]
    unfold natD
    simp only[List.drop_zero,Nat.sub_zero,Int.toNat_natCast,←List.map_take]
    by_cases q:k≤ws.length
    ·rw[Nat.min_eq_left q]
    ·rw[Nat.min_eq_right (by lia),List.take_of_length_le (Nat.le_refl _),List.take_of_length_le (by lia)]
   have revN:∀ws:List Nat,(natD ws).reverse=natD ws.reverse:=λws=>by unfold natD;rw[List.map_reverse]
   have ev:∃(ws:List Nat),ws.Nodup∧(∀j∈ws,j < many)∧∃e',bodyF T (callF T dfs (n+1)) (.many [3,4]) b_scenes_3 (.tup [.int (0+(i:Int)),.int c]) [.v (.lst (cells.map D.int)),.v (.int many),.o (.lst (ps.map Scene.enc)),s3,s4,s5,s6,s7] =
    .ok (.nx e')∧∃t3 t4 t5 t6 t7,e'=[.v (.lst (cells.map D.int)),.v (.int many),.o (.lst (ps.map Scene.enc++[Scene.enc ⟨("s" : Str)++y1,minV (M / 8192),minV (M / 64),ws⟩])),t3,t4,t5,t6,t7]:=by
    generalize hW:(List.range many).filter (λk=>M / 2^(k+3) % 2==1)=W
    have nd:W.Nodup:=by rw[←hW];exact List.nodup_range.filter _
    have lt:∀j∈W,j < many:=λj hj=>by rw[←hW] at hj;simpa using (List.mem_filter.mp hj).1
    have hn:=λs0 s1 s2 s3 s4 s6 s7=>nums (n+1) M many hm s0 s1 s2 s3 s4 s6 s7
    rw[hW] at hn
    by_cases c1:0 < M % 3<;>by_cases c2:M / 4096 % 2=1
    ·refine⟨(W.take k).reverse,nodup_rev (nd.sublist (List.take_sublist _ _)),λj hj=>lt j (List.mem_of_mem_take (List.mem_reverse.mp hj)),?e1,?h1,?i1⟩
     case h1 =>
      simp[bodyF,b_scenes_3,m1,m2,m3,hr,hbm,hn,ey1,add_str l1,hb,c1,c2,hk,cutN,revN]
      exact rfl
     case i1=>exact⟨_,_,_,_,_,rfl⟩
    ·refine⟨W.take k,nd.sublist (List.take_sublist _ _),λj hj=>lt j (List.mem_of_mem_take hj),?e2,?h2,?i2⟩
     case h2 =>
      simp[bodyF,b_scenes_3,m1,m2,m3,hr,hbm,hn,ey1,add_str l1,hb,c1,c2,hk,cutN,revN]
      exact rfl
     case i2=>exact⟨_,_,_,_,_,rfl⟩
    ·refine⟨W.reverse,nodup_rev nd,λj hj=>lt j (List.mem_reverse.mp hj),?e3,?h3,?i3⟩
     case h3 =>
      simp[bodyF,b_scenes_3,m1,m2,m3,hr,hbm,hn,ey1,add_str l1,hb,c1,c2,hk,cutN,revN]
      exact rfl
     case i3=>exact⟨_,_,_,_,_,rfl⟩
    ·refine⟨W,nd,lt,?e4,?h4,?i4⟩
     case h4 =>
      simp[bodyF,b_scenes_3,m1,m2,m3,hr,hbm,hn,ey1,add_str l1,hb,c1,c2,hk,cutN,revN]
      exact rfl
     case i4=>exact⟨_,_,_,_,_,rfl⟩
   obtain⟨ws,nd,lt,e',ev,t3,t4,t5,t6,t7,rfl⟩:=ev
   refine⟨_,.inl ev,ps++[⟨("s" : Str)++y1,minV (M / 8192),minV (M / 64),ws⟩],_,_,_,_,_,(by rw[List.map_append];rfl),by simp[hl],?_⟩
   intro s hs
   rcases List.mem_append.mp hs with q | q
   ·exact hp s q
   ·simp at q
    subst q
    exact⟨minV_lo _,minV_lo _,nd,lt⟩)
 refine⟨ps,by simpa using hl,hp,callF_rt (k:=false) rfl rfl rfl ?_⟩
 simp[b_law_scenes,h1,freshE]
theorem time_between (n:Nat) (P A B C:D) (ss:List Scene) (hl:ss.length≤24) (s t:Nat) (h:s < t) (ht:t≤ss.length):callF T dfs (n+1) 1 [.tup [P,A,.tup (ss.map Scene.enc),B,C],.int s,.int t]=.ok (.int (between ss s t)):=by
 refine callF_rt (k:=true) rfl rfl rfl ?_
 have hs:s < ss.length:=by lia
 have e1:=ss_at (List.getElem?_eq_getElem hs)
 have e2:cut (ss.map Scene.enc) (some ((s:Int)+1)) (some (t:Int))=((ss.drop (s+1)).take (t - (s+1))).map Scene.enc:=by
  have:=cut_nn (xs:=ss.map Scene.enc) (a:=s+1) (b:=t) (by simp;lia) (by simp;lia)
  rw[List.map_take,List.map_drop,←this]
  push_cast
  rfl
 have e3:compL (compF T (callF T dfs n) 1 [] (.one 0) e_time_between_1 (.con (.bl true)) [.v (.tup [P,A,.tup (ss.map Scene.enc),B,C]),.v (.int s),.v (.int t),.v (.tup (ss.map Scene.enc))]) (((ss.drop (s+1)).take (t - (s+1))).map Scene.enc)=.ok ((((ss.drop (s+1)).take (t - (s+1))).map Scene.both).map D.int):=by
  rw[List.map_map]
  have:∀xs:List Scene,compL (compF T (callF T dfs n) 1 [] (.one 0) e_time_between_1 (.con (.bl true)) [.v (.tup [P,A,.tup (ss.map Scene.enc),B,C]),.v (.int s),.v (.int t),.v (.tup (ss.map Scene.enc))]) (xs.map Scene.enc)=.ok (xs.map (D.int∘Scene.both)):=by
   intro xs
   induction xs with
   | nil=>rfl
   | cons x r ih =>
    rw[List.map_cons,compL,ih]
    simp[compF,Tr.compEnv,e_time_between_1,Scene.both]
  exact this _
 have e4:((ss.map Scene.enc).length:Nat)≤big:=by have:=ten_big;simp;lia
 have e5:((((ss.drop (s+1)).take (t - (s+1))).map Scene.enc).length:Nat)≤big:=by have:=ten_big;simp;lia
 have e6:((ss[s]?).map Scene.pause).getD 0=ss[s].pause:=by simp[hs]
 have e7:between ss s t=ss[s].pause+(((ss.drop (s+1)).take (t - (s+1))).map Scene.both).sum:=by unfold between;rw[e6]
 rw[e7]
 clear e7 e4 ht
 generalize (ss.drop (s+1)).take (t - (s+1))=X at *
 simp only[List.length_map] at e5
 simp[b_time_between,e1,e2,e3,e5]
theorem change_time (n:Nat) (A S B C:D) (ps:List Part) (i j:Nat) (hi:i < ps.length) (hj:j < ps.length):callF T dfs (n+1) 2 [.tup [.tup (ps.map Part.enc),A,S,B,C],.int i,.int j]=.ok (.int (needV ps i j)):=by
 refine callF_rt (k:=true) rfl rfl rfl ?_
 simp[b_change_time,ps_at (List.getElem?_eq_getElem hi),ps_at (List.getElem?_eq_getElem hj),need_at hi hj]
theorem short_change (n:Nat) (A B C:D) (ps:List Part) (ss:List Scene) (hl:ss.length≤24) (s i j:Nat) (hs:s < ss.length) (hi:i < ps.length) (hj:j < ps.length) :
 callF T dfs (n+2) 3 [.tup [.tup (ps.map Part.enc),A,.tup (ss.map Scene.enc),B,C],.int s,.int i,.int j]=.ok (optR (shortFrom ps ss s i j)):=by
 have ct:=change_time n A (.tup (ss.map Scene.enc)) B C ps i j hi hj
 have rg:=rng2_succ (s:=s) (m:=ss.length) (by lia) (by lia)
 have loop:=rz_find (f:=bodyF T (callF T dfs (n+1)) (.one 5) b_short_change_from_1) (g:=shortAt ps ss s i j) (ts:=List.range' (s+1) (ss.length - (s+1)))
  (e:=[.v (.tup [.tup (ps.map Part.enc),A,.tup (ss.map Scene.enc),B,C]),.v (.int s),.v (.int i),.v (.int j),.v (.int (needV ps i j)),.no,.no])
  (I:=λe=>∃s5 s6,e=[.v (.tup [.tup (ps.map Part.enc),A,.tup (ss.map Scene.enc),B,C]),.v (.int s),.v (.int i),.v (.int j),.v (.int (needV ps i j)),s5,s6]) ⟨_,_,rfl⟩ (by
   rintro t ht e ⟨s5,s6,rfl⟩
   have ht':s < t∧t < ss.length:=by have:=List.mem_range'_1.mp ht;lia
   have e1:=ss_at (List.getElem?_eq_getElem ht'.2)
   have e2:=time_between n (.tup (ps.map Part.enc)) A B C ss hl s t ht'.1 (by lia)
   have e3:=who_at ht'.2
   unfold shortAt
   by_cases c1:j∈whoAt ss t
   ·by_cases c2:between ss s t < needV ps i j
    ·rw[if_pos ⟨c1,c2⟩]
     rw[e3] at c1
     simp[bodyF,b_short_change_from_1,natI,e1,e2,c1,c2,freshE,Rz.enc]
    ·rw[if_neg (by simp[c2])]
     rw[e3] at c1
     refine⟨?e1,?h1,?i1⟩
     case h1 =>
      simp[bodyF,b_short_change_from_1,natI,e1,e2,c1,c2,freshE]
      exact rfl
     case i1=>exact⟨_,_,rfl⟩
   ·rw[if_neg (by simp[c1])]
    rw[e3] at c1
    refine⟨?e2,?h2,?i2⟩
    case h2 =>
     simp[bodyF,b_short_change_from_1,natI,e1,e2,c1,freshE]
     exact rfl
    case i2=>exact⟨_,_,rfl⟩)
 refine callF_rt (k:=false) rfl rfl rfl ?_
 unfold shortFrom
 cases hg:(List.range' (s+1) (ss.length - (s+1))).findSome? (shortAt ps ss s i j) with
 | some r =>
  rw[hg] at loop
  simp[b_short_change_from,ct,rg,loop,optR]
 | none =>
  rw[hg] at loop
  obtain⟨e',h1,s5,s6,rfl⟩:=loop
  simp[b_short_change_from,ct,rg,h1,optR,freshE]
theorem reason_from (n:Nat) (A B C:D) (ps:List Part) (ss:List Scene) (hl:ss.length≤24) (s i j:Nat) (hs:s < ss.length) (hi:i < ps.length) (hj:j < ps.length) :
 callF T dfs (n+3) 4 [.tup [.tup (ps.map Part.enc),A,.tup (ss.map Scene.enc),B,C],.int s,.int i,.int j]=.ok (optR (reasonFrom ps ss i j s)):=by
 have e1:=ss_at (List.getElem?_eq_getElem hs)
 have e2:=short_change n A B C ps ss hl s i j hs hi hj
 have e3:=short_change n A B C ps ss hl s j i hs hj hi
 have e4:=who_at hs
 refine callF_rt (k:=false) rfl rfl rfl ?_
 unfold reasonFrom
 rw[e4]
 by_cases c1:i∈ss[s].who<;>by_cases c2:j∈ss[s].who
 ·simp[b_reason_from,e1,c1,c2,optR,Rz.enc,freshE]
 ·simp[b_reason_from,e1,c1,c2,e2]
 ·simp[b_reason_from,e1,c1,c2,e3]
 ·simp[b_reason_from,e1,c1,c2,optR,freshE]
theorem reason_of (n:Nat) (A B C:D) (ps:List Part) (ss:List Scene) (hl:ss.length≤24) (i j:Nat) (hi:i < ps.length) (hj:j < ps.length) :
 callF T dfs (n+4) 5 [.tup [.tup (ps.map Part.enc),A,.tup (ss.map Scene.enc),B,C],.int i,.int j]=.ok (optR (reasonOf ps ss i j)):=by
 have rg:=rng_nat (n:=ss.length) (by lia)
 have loop:=rz_find (f:=bodyF T (callF T dfs (n+3)) (.one 3) b_reason_of_1) (g:=reasonFrom ps ss i j) (ts:=List.range ss.length)
  (e:=[.v (.tup [.tup (ps.map Part.enc),A,.tup (ss.map Scene.enc),B,C]),.v (.int i),.v (.int j),.no,.no])
  (I:=λe=>∃s5 s6,e=[.v (.tup [.tup (ps.map Part.enc),A,.tup (ss.map Scene.enc),B,C]),.v (.int i),.v (.int j),s5,s6]) ⟨_,_,rfl⟩ (by
   rintro s ht e ⟨s5,s6,rfl⟩
   have e1:=reason_from n A B C ps ss hl s i j (by simpa using ht) hi hj
   cases hg:reasonFrom ps ss i j s with
   | some r =>
    rw[hg] at e1
    simp[bodyF,b_reason_of_1,natI,e1,freshE]
    rfl
   | none =>
    rw[hg] at e1
    refine⟨?e1,?h1,?i1⟩
    case h1 =>
     simp[bodyF,b_reason_of_1,natI,e1]
     exact rfl
    case i1=>exact⟨_,_,rfl⟩)
 refine callF_rt (k:=false) rfl rfl rfl ?_
 unfold reasonOf
 cases hg:(List.range ss.length).findSome? (reasonFrom ps ss i j) with
 | some r =>
  rw[hg] at loop
  simp[b_reason_of,rg,loop,optR]
 | none =>
  rw[hg] at loop
  obtain⟨e',h1,s5,s6,rfl⟩:=loop
  simp[b_reason_of,rg,h1,optR,freshE]
theorem clashes_of (n:Nat) (A B C:D) (ps:List Part) (ss:List Scene) (hl:ss.length≤24) (hp:ps.length≤8) :
 callF T dfs (n+5) 6 [.tup [.tup (ps.map Part.enc),A,.tup (ss.map Scene.enc),B,C]]=.ok (.lst (((pairsOf ps.length).filter λp=>(reasonOf ps ss p.1 p.2).isSome).map pairD)):=by
 have rg:=rng_nat (n:=ps.length) (by lia)
 obtain⟨e',h1,s3,rfl⟩:=forL_inv (f:=bodyF T (callF T dfs (n+4)) (.one 3) b_clashes_of_3)
  (λi e=>∃s3,e=[.v (.tup [.tup (ps.map Part.enc),A,.tup (ss.map Scene.enc),B,C]),.o (.lst (((pairsTo ps.length i).filter λp=>(reasonOf ps ss p.1 p.2).isSome).map pairD)),.v (.int ps.length),s3])
  ((List.range ps.length).map natI) [.v (.tup [.tup (ps.map Part.enc),A,.tup (ss.map Scene.enc),B,C]),.o (.lst []),.v (.int ps.length),.no] 0 ⟨_,rfl⟩ (by
   rintro i0 d e hd ⟨s3,rfl⟩
   rw[Nat.zero_add]
   rw[List.getElem?_map] at hd
   cases hx:(List.range ps.length)[i0]? with
   | none=>rw[hx] at hd;cases hd
   | some i =>
   rw[hx] at hd
   cases hd
   have hi':=List.getElem?_eq_some_iff.mp hx
   simp at hi'
   obtain⟨hi,rfl⟩:=hi'
   have rg2:=rng2_succ (s:=i0) (m:=ps.length) (by lia) (by lia)
   have hc:compL (compF T (callF T dfs (n+4)) 1 [3,0] (.one 0) e_clashes_of_2 c_clashes_of_1 [.v (.tup [.tup (ps.map Part.enc),A,.tup (ss.map Scene.enc),B,C]),.o (.lst (((pairsTo ps.length i0).filter λp=>(reasonOf ps ss p.1 p.2).isSome).map pairD)),.v (.int ps.length),.v (.int i0)]) ((List.range' (i0+1) (ps.length - (i0+1))).map natI) =
    .ok (((pairsFrom ps.length i0).filter λp=>(reasonOf ps ss p.1 p.2).isSome).map pairD):=by
    rw[compL_enc natI (λj=>if (reasonOf ps ss i0 j).isSome=true then some (pairD (i0,j)) else none) (by
     intro j hj
     have hj':=List.mem_range'_1.mp hj
     have e1:=reason_of n A B C ps ss hl i0 j hi (by lia)
     cases hr:reasonOf ps ss i0 j with
     | none=>rw[hr] at e1;simp[compF,Tr.compEnv,natI,c_clashes_of_1,e_clashes_of_2,e1]
     | some r=>rw[hr] at e1;simp[compF,Tr.compEnv,natI,c_clashes_of_1,e_clashes_of_2,e1,pairD])]
    refine congrArg Res.ok ?_
    unfold pairsFrom
    generalize List.range' (i0+1) (ps.length - (i0+1))=l
    induction l with
    | nil=>rfl
    | cons j r ih =>
     rw[List.filterMap_cons,List.map_cons,List.filter_cons]
     dsimp only
     rw[ih]
     cases (reasonOf ps ss i0 j).isSome<;>rfl
   have b1:(((pairsTo ps.length i0).filter λp=>(reasonOf ps ss p.1 p.2).isSome).map pairD).length+(((pairsFrom ps.length i0).filter λp=>(reasonOf ps ss p.1 p.2).isSome).map pairD).length≤big:=by
    have h1:=pairsTo_length ps.length i0
    have h2:(pairsFrom ps.length i0).length≤8:=by rw[pairsFrom,List.length_map,List.length_range'];lia
    have h3:=List.length_filter_le (λp:Nat×Nat=>(reasonOf ps ss p.1 p.2).isSome) (pairsTo ps.length i0)
    have h4:=List.length_filter_le (λp:Nat×Nat=>(reasonOf ps ss p.1 p.2).isSome) (pairsFrom ps.length i0)
    have h5:i0*ps.length≤8*8:=Nat.mul_le_mul (by lia) hp
    have:=ten_big
    rw[List.length_map,List.length_map]
    lia
   have b2:((List.range' (i0+1) (ps.length - (i0+1))).map natI).length≤big:=by have:=ten_big;simp;lia
   refine⟨?e1,.inl ?h1,?i1⟩
   case h1 =>
    rw[bodyF]
    simp only[put_one,natI,Res.ok_bind,b_clashes_of_3,exS_cons,exS_ext,evE_comp,evI_rng2,evE_bin,evE_var,evE_con,List.set,at_succ,at_zero,val_v,bin_add,rg2,hc,fresh_comp,extO_eq,own_o,decide_eq_true b1,decide_eq_true b2,when_true,Bool.and_self,thenS_nx,exS_nil]
    exact rfl
   case i1=>exact⟨.v (natI i0),by rw[pairsTo,List.filter_append,List.map_append];rfl⟩)
 refine callF_rt (k:=true) rfl rfl rfl ?_
 have hlen:((List.range ps.length).map natI).length=ps.length:=by simp
 rw[hlen,Nat.zero_add] at h1
 simp[b_clashes_of,rg,h1,pairsOf]
theorem clash (n:Nat) (ps:List Part) (ss:List Scene) (hl:ss.length≤24) (g:∀s∈ss,0≤s.len∧0≤s.pause) (i j:Nat) (hi:i < ps.length) (hj:j < ps.length) :
 callF T dfs (n+1) 38 [.tup (ps.map Part.enc),.tup (ss.map Scene.enc),.int i,.int j]=.ok (.bl (reasonOf ps ss i j).isSome):=by
 have pi:=ps_at (List.getElem?_eq_getElem hi)
 have pj:=ps_at (List.getElem?_eq_getElem hj)
 have nij:=need_at hi hj
 have nji:=need_at hj hi
 have main:∀(r t:Nat) (kvs:List (Sum Int Str×D)) (s6 s7 s8:Sl),t+r=ss.length→valK kvs (.inl i)=(lastEnd ss i t).map D.int→valK kvs (.inl j)=(lastEnd ss j t).map D.int→kvs.length≤2*t →
  ∃out,forL (bodyF T (callF T dfs n) (.one 6) b_clash_3) ((ss.drop t).map Scene.enc) [.v (.tup (ps.map Part.enc)),.v (.tup (ss.map Scene.enc)),.v (.int i),.v (.int j),.v (.int (begV ss t)),.o (.dct kvs),s6,s7,s8]=.ok out ∧
   (if (List.range' t r).any (hit ps ss i j)=true then out=.rt (.bl true) false else ∃e,out=.nx e):=by
  intro r
  induction r with
  | zero =>
   intro t kvs s6 s7 s8 hr _ _ _
   rw[List.drop_eq_nil_of_le (by lia)]
   exact⟨_,rfl,by simp⟩
  | succ r ih =>
   intro t kvs s6 s7 s8 hr hki hkj hkl
   have ht:t < ss.length:=by lia
   have wt:=who_at ht
   have hx:=List.getElem?_eq_getElem ht
   have hb:=begV_succ hx
   have hlt:lenAt ss t=ss[t].len:=by unfold lenAt;rw[hx];rfl
   rw[List.drop_eq_getElem_cons ht,List.map_cons,List.range'_succ,List.any_cons]
   by_cases ch:hit ps ss i j t=true
   ·refine⟨.rt (.bl true) false,?_,by rw[ch];simp⟩
    refine forL_rt ?_
    unfold hit hitAt at ch
    rw[wt,nij,nji] at ch
    by_cases d1:i∈ss[t].who
    ·by_cases d2:j∈ss[t].who
     ·simp[bodyF,b_clash_3,d1,d2,freshE]
     ·cases el:lastEnd ss j t with
      | none=>rw[el] at ch;simp[d1,d2] at ch
      | some x =>
       rw[el] at ch hkj
       simp[d1,d2] at ch
       have k1:D.cmp .In (.int (j:Int)) (.dct kvs)=.ok (.bl true):=by rw[cmp_in_dct,key_int,Res.ok_bind,hkj];rfl
       have k2:D.ix (.dct kvs) (.int (j:Int))=.ok (.int x):=by rw[ix_dct,key_int,Res.ok_bind,hkj];rfl
       simp[bodyF,b_clash_3,b_clash_1,d1,d2,k1,k2,pi,pj,ch,freshE,forL]
    ·by_cases d2:j∈ss[t].who
     ·cases el:lastEnd ss i t with
      | none=>rw[el] at ch;simp[d1,d2] at ch
      | some x =>
       rw[el] at ch hki
       simp[d1,d2] at ch
       have k1:D.cmp .In (.int (i:Int)) (.dct kvs)=.ok (.bl true):=by rw[cmp_in_dct,key_int,Res.ok_bind,hki];rfl
       have k2:D.ix (.dct kvs) (.int (i:Int))=.ok (.int x):=by rw[ix_dct,key_int,Res.ok_bind,hki];rfl
       simp[bodyF,b_clash_3,b_clash_1,d1,d2,k1,k2,pi,pj,ch,freshE,forL]
     ·simp[d1,d2] at ch
   ·have ch':hit ps ss i j t=false:=by simpa using ch
    rw[ch',Bool.false_or]
    have kb:kvs.length < big:=by have:=ten_big;lia
    unfold hit hitAt at ch'
    rw[wt,nij,nji] at ch'
    have turn:∃kvs' s7' s8',bodyF T (callF T dfs n) (.one 6) b_clash_3 ss[t].enc [.v (.tup (ps.map Part.enc)),.v (.tup (ss.map Scene.enc)),.v (.int i),.v (.int j),.v (.int (begV ss t)),.o (.dct kvs),s6,s7,s8] =
     .ok (.nx [.v (.tup (ps.map Part.enc)),.v (.tup (ss.map Scene.enc)),.v (.int i),.v (.int j),.v (.int (begV ss (t+1))),.o (.dct kvs'),.v ss[t].enc,s7',s8']) ∧
     valK kvs' (.inl i)=(lastEnd ss i (t+1)).map D.int∧valK kvs' (.inl j)=(lastEnd ss j (t+1)).map D.int∧kvs'.length≤2*(t+1):=by
     have e1:begV ss t+ss[t].len+ss[t].pause=begV ss (t+1):=by rw[hb];unfold Scene.both;lia
     rw[lastEnd,lastEnd,wt,hlt]
     by_cases d1:i∈ss[t].who
     ·by_cases d2:j∈ss[t].who
      ·simp[d1,d2] at ch'
      ·-- i alone
       have hne:i≠j:=λz=>d2 (z▸d1)
       have hneI:¬(j:Int)=(i:Int):=by lia
       refine⟨putKD kvs (.inl (i:Int)) (.int (begV ss t+ss[t].len)),?_⟩
       rw[if_pos d1,if_neg d2,valK_put,valK_put,if_pos rfl,if_neg (by simp[hneI]),hkj]
       refine⟨.v (.int j),.v (.int i),?_,rfl,rfl,by have:=putKD_length kvs (.inl (i:Int)) (.int (begV ss t+ss[t].len));lia⟩
       cases el:lastEnd ss j t with
       | none =>
        rw[el] at hkj
        have k1:D.cmp .In (.int (j:Int)) (.dct kvs)=.ok (.bl false):=by rw[cmp_in_dct,key_int,Res.ok_bind,hkj];rfl
        simp[bodyF,b_clash_3,b_clash_1,b_clash_2,d1,d2,k1,pi,pj,freshE,forL,kb,e1]
       | some x =>
        rw[el] at hkj ch'
        simp[d1,d2] at ch'
        have k1:D.cmp .In (.int (j:Int)) (.dct kvs)=.ok (.bl true):=by rw[cmp_in_dct,key_int,Res.ok_bind,hkj];rfl
        have k2:D.ix (.dct kvs) (.int (j:Int))=.ok (.int x):=by rw[ix_dct,key_int,Res.ok_bind,hkj];rfl
        have ch2:¬begV ss t - x < ps[j].off+ps[i].on:=by lia
        simp[bodyF,b_clash_3,b_clash_1,b_clash_2,d1,d2,k1,k2,ch2,pi,pj,freshE,forL,kb,e1]
     ·by_cases d2:j∈ss[t].who
      ·have hneI:¬(i:Int)=(j:Int):=λz=>d1 ((by lia:i=j)▸d2)
       refine⟨putKD kvs (.inl (j:Int)) (.int (begV ss t+ss[t].len)),?_⟩
       rw[if_neg d1,if_pos d2,valK_put,valK_put,if_pos rfl,if_neg (by simp[hneI]),hki]
       refine⟨.v (.int j),.v (.int i),?_,rfl,rfl,by have:=putKD_length kvs (.inl (j:Int)) (.int (begV ss t+ss[t].len));lia⟩
       cases el:lastEnd ss i t with
       | none =>
        rw[el] at hki
        have k1:D.cmp .In (.int (i:Int)) (.dct kvs)=.ok (.bl false):=by rw[cmp_in_dct,key_int,Res.ok_bind,hki];rfl
        simp[bodyF,b_clash_3,b_clash_1,b_clash_2,d1,d2,k1,pi,pj,freshE,forL,kb,e1]
       | some x =>
        rw[el] at hki ch'
        simp[d1,d2] at ch'
        have k1:D.cmp .In (.int (i:Int)) (.dct kvs)=.ok (.bl true):=by rw[cmp_in_dct,key_int,Res.ok_bind,hki];rfl
        have k2:D.ix (.dct kvs) (.int (i:Int))=.ok (.int x):=by rw[ix_dct,key_int,Res.ok_bind,hki];rfl
        have ch2:¬begV ss t - x < ps[i].off+ps[j].on:=by lia
        simp[bodyF,b_clash_3,b_clash_1,b_clash_2,d1,d2,k1,k2,ch2,pi,pj,freshE,forL,kb,e1]
      ·refine⟨kvs,?_⟩
       rw[if_neg d1,if_neg d2]
       refine⟨.v (.int j),.v (.int i),?_,hki,hkj,by lia⟩
       simp[bodyF,b_clash_3,b_clash_1,b_clash_2,d1,d2,pi,pj,freshE,forL,kb,e1]
    obtain⟨kvs',s7',s8',h1,h2,h3,h4⟩:=turn
    obtain⟨out,h5,h6⟩:=ih (t+1) kvs' (.v ss[t].enc) s7' s8' (by lia) h2 h3 h4
    exact⟨out,by rw[forL_nx h1];exact h5,h6⟩
 obtain⟨out,h1,h2⟩:=main ss.length 0 [] .no .no .no (by lia) rfl rfl (by simp)
 rw[List.drop_zero] at h1
 have eqr:List.range' 0 ss.length=List.range ss.length:=by rw[List.range_eq_range']
 rw[eqr,hit_reason g] at h2
 have hb0:begV ss 0=0:=rfl
 rw[hb0] at h1
 refine callF_rt (k:=false) rfl rfl rfl ?_
 cases hr:(reasonOf ps ss i j).isSome with
 | true =>
  rw[hr,if_pos rfl] at h2
  subst h2
  simp[b_law_clash,h1]
 | false =>
  rw[hr,if_neg (by simp)] at h2
  obtain⟨e,rfl⟩:=h2
  simp[b_law_clash,h1,freshE]
@[simp] theorem fr_tuple {a:E}:freshE T (.bt .tuple a)=false:=id rfl
@[simp] theorem fr_ix {a b:E}:freshE T (.ix a b)=false:=id rfl
theorem size_af:("abcdef" : Str).cps.size=6:=by decide +kernel
theorem eight_voices (m:Int):∃y:Str,D.ix (.lst [.str "s", .str "t", .str "st", .str "tb", .str "stb", .str "bts", .str "bs", .str ""]) (.int (m % 8))=.ok (.str y):=by
 have h:m % 8=0∨m % 8=1∨m % 8=2∨m % 8=3∨m % 8=4∨m % 8=5∨m % 8=6∨m % 8=7:=by lia
 rcases h with h | h | h | h | h | h | h | h<;>rw[h]<;>exact⟨_,rfl⟩
theorem four_ints (a b c d i:Int):∃v:Int,D.ix (.lst [.int a,.int b,.int c,.int d]) (.int (i % 4))=.ok (.int v):=by
 have h:i % 4=0∨i % 4=1∨i % 4=2∨i % 4=3:=by lia
 rcases h with h | h | h | h<;>rw[h]<;>exact⟨_,rfl⟩
theorem three_ints (a b c i:Int):∃v:Int,D.ix (.lst [.int a,.int b,.int c]) (.int (i % 3))=.ok (.int v):=by
 have h:i % 3=0∨i % 3=1∨i % 3=2:=by lia
 rcases h with h | h | h<;>rw[h]<;>exact⟨_,rfl⟩
theorem players (n:Nat) (c:Int) (many:Nat) (hm:many≤6):∃qs:List Player,qs.length=many∧callF T dfs (n+2) 35 [.int c,.int (many:Int)]=.ok (.tup (qs.map Player.enc)):=by
 have hb:=ten_big
 have loop:∀(m k:Nat) (qs:List Player) (x3 x4 x5 x6:Sl),k+m=many→qs.length=k→∃(qs':List Player) (y3 y4 y5 y6:Sl),qs'.length=many∧forL (bodyF T (callF T dfs (n+1)) (.one 3) b_players_1) ((List.range' k m).map natI) [.v (.int c),.v (.int (many:Int)),.o (.lst (qs.map Player.enc)),x3,x4,x5,x6]=.ok (.nx [.v (.int c),.v (.int (many:Int)),.o (.lst (qs'.map Player.enc)),y3,y4,y5,y6]):=by
  intro m
  induction m with
  | zero=>intro k qs x3 x4 x5 x6 h1 h2;exact⟨qs,x3,x4,x5,x6,by lia,rfl⟩
  | succ m ih =>
   intro k qs x3 x4 x5 x6 h1 h2
   have m1:=mixed n c (5*(k:Int)+2) (by lia)
   have lo:=mixV_lo c (5*(k:Int)+2)
   have hi:=mixV_hi c (5*(k:Int)+2)
   have b5:D.bin .Mult (.int 5) (.int (k:Int))=.ok (.int (5*(k:Int))):=bin_mulL (by decide)
   generalize mixV c (5*(k:Int)+2)=w at *
   obtain⟨y,ey⟩:=eight_voices w
   obtain⟨v,ev⟩:=four_ints 0 (w / 8 % 5) (w / 8 % 100) (w*w % 1000000000) (w / 3)
   have b2:D.bin .Mult (.int w) (.int w)=.ok (.int (w*w)):=bin_mulL (by lia)
   obtain⟨y1,ey1,ly1⟩:=ix_str (x:=("abcdef" : Str)) (i:=k) (by rw[size_af];lia) (by decide +kernel)
   have l1:("x" : Str).length+y1.length≤big:=by rw[ly1];decide +kernel
   have hl:qs.length < big:=by lia
   obtain⟨qs',y3,y4,y5,y6,h3,h4⟩:=ih (k+1) (qs++[(⟨("x" : Str)++y1,y,v⟩:Player)]) (.v (.int (k:Int))) (.v (.int w)) (.v (.str y)) (.v (.int v)) (by lia) (by rw[List.length_append,h2];rfl)
   refine⟨qs',y3,y4,y5,y6,h3,?_⟩
   have e:bodyF T (callF T dfs (n+1)) (.one 3) b_players_1 (natI k) [.v (.int c),.v (.int (many:Int)),.o (.lst (qs.map Player.enc)),x3,x4,x5,x6]=.ok (.nx [.v (.int c),.v (.int (many:Int)),.o (.lst ((qs++[(⟨("x" : Str)++y1,y,v⟩:Player)]).map Player.enc)),.v (.int (k:Int)),.v (.int w),.v (.str y),.v (.int v)]):=by
    rw[List.map_append]
    simp[bodyF,b_players_1,natI,b5,m1,ey,ev,b2,ey1,add_str l1,hl,Player.enc]
   rw[List.range'_succ,List.map_cons,forL_nx e,h4]
 obtain⟨qs,y3,y4,y5,y6,h1,h2⟩:=loop many 0 [] .no .no .no .no (by lia) rfl
 have rg:=rng_nat (n:=many) (by lia)
 rw[List.range_eq_range'] at rg
 rw[List.map_nil] at h2
 refine⟨qs,h1,callF_rt (k:=false) rfl rfl rfl ?_⟩
 simp[b_law_players,rg,h2]
noncomputable abbrev Lk:=(Nat×Nat)×Int
noncomputable def likeD (l:Lk):D:=.tup [.int (l.1.1:Int),.int (l.1.2:Int),.int l.2]
noncomputable def keysL (ls:List Lk):List (Nat×Nat):=ls.map (·.1)
structure GoodL (pls many:Nat) (ls:List Lk):Prop where
 lt:∀l∈ls,l.1.1 < pls∧l.1.2 < many
 nd:(keysL ls).Nodup
 len:ls.length≤pls*many
theorem likes_in (n:Nat) (c:Int) (x1:Sl) (many p:Nat) (hm:many≤8) (hp:p < 6):∀(m k:Nat) (ls:List Lk) (x5 x6:Sl),k+m=many→(keysL ls).Nodup→(∀l∈ls,l.1.1 < p∨(l.1.1=p∧l.1.2 < k))→(∀l∈ls,l.1.2 < many)→ls.length≤p*many+k →
 ∃(ls':List Lk) (y5 y6:Sl),(keysL ls').Nodup∧(∀l∈ls',l.1.1 < p+1)∧(∀l∈ls',l.1.2 < many)∧ls'.length≤p*many+many∧forL (bodyF T (callF T dfs (n+1)) (.one 5) b_likes_1) ((List.range' k m).map natI) [.v (.int c),x1,.v (.int (many:Int)),.o (.lst (ls.map likeD)),.v (.int (p:Int)),x5,x6]=.ok (.nx [.v (.int c),x1,.v (.int (many:Int)),.o (.lst (ls'.map likeD)),.v (.int (p:Int)),y5,y6]):=by
 have hb:=ten_big
 intro m
 induction m with
 | zero =>
  intro k ls x5 x6 h1 h2 h3 h4 h5
  exact⟨ls,x5,x6,h2,λl hl=>by have:=h3 l hl;lia,h4,by lia,rfl⟩
 | succ m ih =>
  intro k ls x5 x6 h1 h2 h3 h4 h5
  have m1:=mixed n c (8*(p:Int)+(k:Int)) (by lia)
  have lo:=mixV_lo c (8*(p:Int)+(k:Int))
  have hi:=mixV_hi c (8*(p:Int)+(k:Int))
  have b8:D.bin .Mult (.int 8) (.int (p:Int))=.ok (.int (8*(p:Int))):=bin_mulL (by decide)
  generalize mixV c (8*(p:Int)+(k:Int))=w at *
  obtain⟨v,ev⟩:=three_ints (w / 3 % 4) (w / 3 % 50) (w*w % 1000000000) (w / 5)
  have b2:D.bin .Mult (.int w) (.int w)=.ok (.int (w*w)):=bin_mulL (by lia)
  have hpm:p*many≤6*8:=Nat.mul_le_mul (by lia) hm
  have hl:ls.length < big:=by lia
  by_cases q:w % 3=1
  ·obtain⟨ls',y5,y6,g1,g2,g3,g4,g5⟩:=ih (k+1) (ls++[((p,k),v)]) (.v (.int (k:Int))) (.v (.int w)) (by lia) (by
    unfold keysL at h2 ⊢
    rw[List.map_append,List.nodup_append]
    refine⟨h2,by simp,?_⟩
    intro a ha b hb' e
    subst e
    obtain⟨l,hl1,hl2⟩:=List.mem_map.mp ha
    simp at hb'
    have:=h3 l hl1
    rw[hl2,hb'] at this
    dsimp only at this
    lia) (by
    intro l hl1
    rcases List.mem_append.mp hl1 with hl1 | hl1
    ·have:=h3 l hl1;lia
    ·rw[List.mem_singleton.mp hl1];dsimp only;lia) (by
    intro l hl1
    rcases List.mem_append.mp hl1 with hl1 | hl1
    ·exact h4 l hl1
    ·rw[List.mem_singleton.mp hl1];dsimp only;lia) (by rw[List.length_append,List.length_singleton];lia)
   refine⟨ls',y5,y6,g1,g2,g3,g4,?_⟩
   have e:bodyF T (callF T dfs (n+1)) (.one 5) b_likes_1 (natI k) [.v (.int c),x1,.v (.int (many:Int)),.o (.lst (ls.map likeD)),.v (.int (p:Int)),x5,x6]=.ok (.nx [.v (.int c),x1,.v (.int (many:Int)),.o (.lst ((ls++[((p,k),v)]).map likeD)),.v (.int (p:Int)),.v (.int (k:Int)),.v (.int w)]):=by
    rw[List.map_append]
    simp[bodyF,b_likes_1,natI,b8,m1,q,ev,b2,hl,likeD]
   rw[List.range'_succ,List.map_cons,forL_nx e,g5]
  ·obtain⟨ls',y5,y6,g1,g2,g3,g4,g5⟩:=ih (k+1) ls (.v (.int (k:Int))) (.v (.int w)) (by lia) h2 (λl hl1=>by have:=h3 l hl1;lia) h4 (by lia)
   refine⟨ls',y5,y6,g1,g2,g3,g4,?_⟩
   have e:bodyF T (callF T dfs (n+1)) (.one 5) b_likes_1 (natI k) [.v (.int c),x1,.v (.int (many:Int)),.o (.lst (ls.map likeD)),.v (.int (p:Int)),x5,x6]=.ok (.nx [.v (.int c),x1,.v (.int (many:Int)),.o (.lst (ls.map likeD)),.v (.int (p:Int)),.v (.int (k:Int)),.v (.int w)]):=by
    simp[bodyF,b_likes_1,natI,b8,m1,q]
   rw[List.range'_succ,List.map_cons,forL_nx e,g5]
theorem likes (n:Nat) (c:Int) (pls many:Nat) (hp:pls≤6) (hm:many≤8):∃ls:List Lk,GoodL pls many ls∧callF T dfs (n+2) 36 [.int c,.int (pls:Int),.int (many:Int)]=.ok (.tup (ls.map likeD)):=by
 have hb:=ten_big
 have rgm:=rng_nat (n:=many) (by lia)
 rw[List.range_eq_range'] at rgm
 have loop:∀(m p:Nat) (ls:List Lk) (x4 x5 x6:Sl),p+m=pls→(keysL ls).Nodup→(∀l∈ls,l.1.1 < p)→(∀l∈ls,l.1.2 < many)→ls.length≤p*many →
  ∃(ls':List Lk) (y4 y5 y6:Sl),GoodL pls many ls'∧forL (bodyF T (callF T dfs (n+1)) (.one 4) b_likes_2) ((List.range' p m).map natI) [.v (.int c),.v (.int (pls:Int)),.v (.int (many:Int)),.o (.lst (ls.map likeD)),x4,x5,x6]=.ok (.nx [.v (.int c),.v (.int (pls:Int)),.v (.int (many:Int)),.o (.lst (ls'.map likeD)),y4,y5,y6]):=by
  intro m
  induction m with
  | zero =>
   intro p ls x4 x5 x6 h1 h2 h3 h4 h5
   have:p=pls:=by lia
   subst this
   exact⟨ls,x4,x5,x6,⟨λl hl=>⟨h3 l hl,h4 l hl⟩,h2,h5⟩,rfl⟩
  | succ m ih =>
   intro p ls x4 x5 x6 h1 h2 h3 h4 h5
   obtain⟨l1,y5,y6,g1,g2,g3,g4,g5⟩:=likes_in n c (.v (.int (pls:Int))) many p hm (by lia) many 0 ls x5 x6 (by lia) h2 (λl hl=>.inl (h3 l hl)) h4 (by lia)
   obtain⟨ls',z4,z5,z6,f1,f2⟩:=ih (p+1) l1 (.v (.int (p:Int))) y5 y6 (by lia) g1 g2 g3 (by rw[Nat.add_mul];lia)
   refine⟨ls',z4,z5,z6,f1,?_⟩
   have e:bodyF T (callF T dfs (n+1)) (.one 4) b_likes_2 (natI p) [.v (.int c),.v (.int (pls:Int)),.v (.int (many:Int)),.o (.lst (ls.map likeD)),x4,x5,x6]=.ok (.nx [.v (.int c),.v (.int (pls:Int)),.v (.int (many:Int)),.o (.lst (l1.map likeD)),.v (.int (p:Int)),y5,y6]):=by
    simp[bodyF,b_likes_2,natI,rgm] at g5 ⊢
    simp[g5]
   rw[List.range'_succ,List.map_cons,forL_nx e,f2]
 obtain⟨ls,y4,y5,y6,h1,h2⟩:=loop pls 0 [] .no .no .no (by lia) (by simp[keysL]) (by simp) (by simp) (by simp)
 have rg:=rng_nat (n:=pls) (by lia)
 rw[List.range_eq_range'] at rg
 rw[List.map_nil] at h2
 refine⟨ls,h1,callF_rt (k:=false) rfl rfl rfl ?_⟩
 simp[b_law_likes,rg,h2]
noncomputable def rowD (r:List Int):D:=.tup (r.map D.int)
noncomputable def pricesD (h:List Int) (ls:List (List Int)):D:=.tup [rowD h,.tup (ls.map rowD)]
noncomputable def bookK (S:D) (P:List Part) (Q:List Player) (ls:List Lk):D:=.tup [.tup (P.map Part.enc),.tup (Q.map Player.enc),S,.tup (ls.map likeD),.tup []]
noncomputable def likeV (ls:List Lk) (i j:Nat):Int:=((ls.find? λl=>decide (l.1=(i,j))).map (·.2)).getD 0
theorem cut_like (a b c:D):cut [a,b,c] none (some 2)=[a,b]:=rfl
theorem pair_cmp (a b i j:Nat):D.cmp .Eq (.tup [.int (a:Int),.int (b:Int)]) (.tup [.int (i:Int),.int (j:Int)])=.ok (.bl (decide ((a,b)=(i,j)))):=by
 have h:=pairD_eqb (a,b) (i,j)
 show when (D.pl 30 (pairD (a,b))&&D.pl 30 (pairD (i,j))) (.ok (D.bl (D.eqb (pairD (a,b)) (pairD (i,j)))))=_
 rw[h,pair_pl 29,pair_pl 29];rfl
theorem like_loop (n:Nat) (B:D) (i j:Nat):∀(ls:List Lk) (x3:Sl),(match ls.find? (λl=>decide (l.1=(i,j))) with
 | some l=>forL (bodyF T (callF T dfs n) (.one 3) b_like_of_1) (ls.map likeD) [.v B,.v (.int (i:Int)),.v (.int (j:Int)),x3]=.ok (.rt (.int l.2) false)
 | none=>∃x3',forL (bodyF T (callF T dfs n) (.one 3) b_like_of_1) (ls.map likeD) [.v B,.v (.int (i:Int)),.v (.int (j:Int)),x3]=.ok (.nx [.v B,.v (.int (i:Int)),.v (.int (j:Int)),x3']))
 | [],x3=>⟨x3,rfl⟩
 | l::ls,x3=>by
  have g:=pair_cmp l.1.1 l.1.2 i j
  have ih:=like_loop n B i j ls
  by_cases q:l.1=(i,j)
  ·rw[List.find?_cons_of_pos (by simpa using q)]
   refine forL_rt ?_
   rw[show (l.1.1,l.1.2)=l.1 from rfl,decide_eq_true q] at g
   simp[bodyF,b_like_of_1,likeD,cut_like,g]
  ·rw[List.find?_cons_of_neg (by simpa using q)]
   rw[show (l.1.1,l.1.2)=l.1 from rfl,decide_eq_false q] at g
   have e:bodyF T (callF T dfs n) (.one 3) b_like_of_1 (likeD l) [.v B,.v (.int (i:Int)),.v (.int (j:Int)),x3]=.ok (.nx [.v B,.v (.int (i:Int)),.v (.int (j:Int)),.v (likeD l)]):=by
    simp[bodyF,b_like_of_1,likeD,cut_like,g]
   rw[List.map_cons,forL_nx e]
   exact ih _
theorem like_of (n:Nat) (S:D) (P:List Part) (Q:List Player) (ls:List Lk) (i j:Nat):callF T dfs (n+1) 25 [bookK S P Q ls,.int (i:Int),.int (j:Int)]=.ok (.int (likeV ls i j)):=by
 have l:=like_loop n (bookK S P Q ls) i j ls .no
 refine callF_rt (k:=false) rfl rfl rfl ?_
 unfold likeV
 unfold bookK at l ⊢
 cases q:ls.find? (λl=>decide (l.1=(i,j))) with
 | some x =>
  rw[q] at l
  dsimp only at l
  simp[b_like_of,l]
 | none =>
  rw[q] at l
  obtain⟨x3,l⟩:=l
  simp[b_like_of,l]
theorem likes_of (n:Nat) (S:D) (P:List Part) (Q:List Player) (ls:List Lk) (i:Nat) (hP:P.length≤8):callF T dfs (n+2) 26 [bookK S P Q ls,.int (i:Int)]=.ok (rowD ((List.range P.length).map (likeV ls i))):=by
 have hb:=ten_big
 have rg:=rng_nat (n:=P.length) (by lia)
 refine callF_rt (k:=false) rfl rfl rfl ?_
 have c:compL (compF T (callF T dfs (n+1)) 1 [0,1] (.one 0) e_likes_of_1 (.con (.bl true)) [.v (bookK S P Q ls),.v (.int (i:Int))]) ((List.range P.length).map natI)=.ok (((List.range P.length).map (likeV ls i)).map D.int):=by
  rw[compL_enc natI (λj=>some (D.int (likeV ls i j))) (by
   intro j _
   have g:=like_of n S P Q ls i j
   simp[compF,Tr.compEnv,natI,e_likes_of_1,g]),List.filterMap_eq_map',List.map_map]
  rfl
 have l:(List.range P.length).length≤big:=by rw[List.length_range];lia
 unfold rowD
 generalize ((List.range P.length).map (likeV ls i)).map D.int=R at *
 unfold bookK at c ⊢
 simp[b_likes_of,rg] at c l ⊢
 simp[c,l]
theorem prices_of (n:Nat) (S:D) (P:List Part) (Q:List Player) (ls:List Lk) (hP:P.length≤8) (hQ:Q.length≤6):callF T dfs (n+3) 27 [bookK S P Q ls]=.ok (pricesD (Q.map Player.hire) ((List.range Q.length).map λi=>(List.range P.length).map (likeV ls i))):=by
 have hb:=ten_big
 have rg:=rng_nat (n:=Q.length) (by lia)
 refine callF_rt (k:=false) rfl rfl rfl ?_
 have c1:compL (compF T (callF T dfs (n+2)) 1 [] (.one 0) e_prices_of_1 (.con (.bl true)) [.v (bookK S P Q ls),.no,.no]) (Q.map Player.enc)=.ok ((Q.map Player.hire).map D.int):=by
  rw[compL_enc Player.enc (λp=>some (D.int p.hire)) (by
   intro p _
   simp[compF,Tr.compEnv,e_prices_of_1,Player.enc]),List.filterMap_eq_map',List.map_map]
  rfl
 have c2:compL (compF T (callF T dfs (n+2)) 1 [0] (.one 0) e_prices_of_2 (.con (.bl true)) [.v (bookK S P Q ls),.v (rowD (Q.map Player.hire)),.no]) ((List.range Q.length).map natI)=.ok (((List.range Q.length).map λi=>(List.range P.length).map (likeV ls i)).map rowD):=by
  rw[compL_enc natI (λi=>some (rowD ((List.range P.length).map (likeV ls i)))) (by
   intro i _
   have g:=likes_of n S P Q ls i hP
   simp[compF,Tr.compEnv,natI,e_prices_of_2,g]),List.filterMap_eq_map',List.map_map]
  rfl
 have l1:Q.length≤big:=by lia
 have l2:((List.range Q.length).map natI).length≤big:=by rw[List.length_map,List.length_range];lia
 unfold pricesD
 generalize hR:((List.range Q.length).map λi=>(List.range P.length).map (likeV ls i)).map rowD=R at *
 have e1:rowD (Q.map Player.hire)=.tup ((Q.map Player.hire).map D.int):=rfl
 generalize (Q.map Player.hire).map D.int=HH at *
 rw[e1] at c2 ⊢
 unfold bookK at c1 c2 ⊢
 generalize (List.range Q.length).map natI=RQ at *
 simp[b_prices_of,rg,c1,c2,l1,l2]
theorem none_cmp (o:Option Nat) (p:Nat):D.cmp .Eq (optN o) (.int (p:Int))=.ok (.bl (decide (o=some p))):=cast_eqi o p
noncomputable def chgV (cs:List (Option Nat)) (p:Nat):List Int:=cs.map λo=>if o=some p then 0 else 1
theorem likes_of_change (n:Nat) (cs:List (Option Nat)) (hl:cs.length≤8) (p:Nat):callF T dfs (n+1) 28 [.lst (cs.map optN),.int (p:Int)]=.ok (rowD (chgV cs p)):=by
 have hb:=ten_big
 refine callF_rt (k:=false) rfl rfl rfl ?_
 have c:compL (compF T (callF T dfs n) 1 [1] (.one 0) e_likes_of_change_1 (.con (.bl true)) [.v (.lst (cs.map optN)),.v (.int (p:Int))]) (cs.map optN)=.ok ((chgV cs p).map D.int):=by
  rw[compL_enc optN (λo=>some (D.int (if o=some p then 0 else 1))) (by
   intro o _
   have g:=none_cmp o p
   by_cases q:o=some p
   ·rw[decide_eq_true q] at g
    simp[compF,Tr.compEnv,e_likes_of_change_1,g,q] at g ⊢
   ·rw[decide_eq_false q] at g
    simp[compF,Tr.compEnv,e_likes_of_change_1,g,q]),List.filterMap_eq_map']
  unfold chgV
  rw[List.map_map];rfl
 have l:cs.length≤big:=by lia
 unfold rowD
 generalize (chgV cs p).map D.int=R at *
 simp[b_likes_of_change,c,l]
theorem lrng_nat8 {many:Nat} (h:many≤8):lrngR (.int (many:Int))=.ok (.lst ((List.range many).map natI)):=by
 have hb:=ten_big
 show when (small62 (many:Int)&&decide ((many:Int)≤((big:Nat):Int))) (.ok (D.lst (rangeD 0 (many:Int).toNat)))=_
 have c:(small62 (many:Int)&&decide ((many:Int)≤((big:Nat):Int)))=true:=by
  unfold small62
  rw[Bool.and_eq_true,Bool.and_eq_true,decide_eq_true_eq,decide_eq_true_eq,decide_eq_true_eq]
  lia
 rw[when_of c,Int.toNat_natCast]
 have:=rangeD_nat 0 many
 rw[show ((0:Nat):Int)=0 from rfl] at this
 rw[this,List.range_eq_range']
theorem prices_of_change (n:Nat) (S:D) (P:List Part) (Q:List Player) (ls:List Lk) (hQ:Q.length≤6) (cs:List (Option Nat)) (hl:cs.length≤8):callF T dfs (n+2) 29 [bookK S P Q ls,.lst (cs.map optN)]=.ok (pricesD (List.replicate Q.length 0) ((List.range Q.length).map (chgV cs))):=by
 have hb:=ten_big
 have rl:=lrng_nat8 (many:=Q.length) (by lia)
 refine callF_rt (k:=false) rfl rfl rfl ?_
 have c1:∀e:Nv,compL (compF T (callF T dfs (n+1)) 1 [] (.one 0) e_prices_of_change_2 (.con (.bl true)) e) ((List.range Q.length).map natI)=.ok ((List.replicate Q.length (0:Int)).map D.int):=by
  intro e
  rw[compL_enc natI (λj=>some (D.int 0)) (by
   intro j _
   simp[compF,Tr.compEnv,e_prices_of_change_2]),List.filterMap_eq_map']
  rw[List.map_replicate]
  have:∀m,(List.range m).map (λ_=>D.int 0)=List.replicate m (D.int 0):=by
   intro m
   rw[List.map_const',List.length_range]
  rw[this]
 have c2:compL (compF T (callF T dfs (n+1)) 1 [1] (.one 0) e_prices_of_change_1 (.con (.bl true)) [.v (bookK S P Q ls),.v (.lst (cs.map optN)),.v (.lst ((List.range Q.length).map natI))]) ((List.range Q.length).map natI)=.ok (((List.range Q.length).map (chgV cs)).map rowD):=by
  rw[compL_enc natI (λp=>some (rowD (chgV cs p))) (by
   intro p _
   have g:=likes_of_change n cs hl p
   simp[compF,Tr.compEnv,natI,e_prices_of_change_1,g]),List.filterMap_eq_map',List.map_map]
  rfl
 have l2:((List.range Q.length).map natI).length≤big:=by rw[List.length_map,List.length_range];lia
 unfold pricesD
 have e1:rowD (List.replicate Q.length 0)=.tup ((List.replicate Q.length (0:Int)).map D.int):=rfl
 rw[e1]
 generalize hR:((List.range Q.length).map (chgV cs)).map rowD=R at *
 generalize (List.replicate Q.length (0:Int)).map D.int=HH at *
 unfold bookK at c2 ⊢
 generalize (List.range Q.length).map natI=RQ at *
 simp[b_prices_of_change,rl,c1,c2,l2]
noncomputable def okV (P:List Part) (Q:List Player) (j k:Nat):Bool:=mayB P Q k j
theorem fault_one (n:Nat) (P:List Part) (Q:List Player) (X Y Z:D) (hv:∀p∈P,(signs p.voice).length=1) (j k:Nat) (hj:j < Q.length) (hk:k < P.length) :
 ∃d,callF T dfs (n+1) 7 [.tup [.tup (P.map Part.enc),.tup (Q.map Player.enc),X,Y,Z],.int (k:Int),.int (j:Int)]=.ok d∧d.isNon=okV P Q j k:=by
 have e1:=ps_at (List.getElem?_eq_getElem hk)
 have e2:=qs_at (List.getElem?_eq_getElem hj)
 have e3:=notin_voices (p:=P[k]) (q:=Q[j]) (hv _ (List.getElem_mem hk))
 rw[←mayB_at hk hj] at e3
 unfold okV
 generalize mayB P Q k j=c at e3
 cases c with
 | true=>exact⟨.non,callF_rt (k:=false) rfl rfl rfl (by simp[b_fault_of_part,e1,e2,e3]),rfl⟩
 | false=>exact⟨.tup [.str "voice", .int (k:Int),.int (j:Int)],callF_rt (k:=false) rfl rfl rfl (by simp[b_fault_of_part,e1,e2,e3]),rfl⟩
theorem notin_pairD (p:Nat×Nat) (ps:List (Nat×Nat)):D.cmp .NotIn (pairD p) (.lst (ps.map pairD))=.ok (.bl (!decide (p∈ps))):=by
 show (do let k ←when (D.pls 30 (ps.map pairD)&&D.pl 29 (pairD p)) (.ok (D.mem (pairD p) (ps.map pairD)));.ok (D.bl (!k)))=_
 rw[pls_map pairD 29 (pairD_pl 28),pairD_pl 28,mem_pairD];rfl
noncomputable def tN (t:List Nat):D:=.tup (t.map natI)
theorem may_join (n:Nat) (ps:List (Nat×Nat)) (t:List Nat) (ht:t.length≤100) (p:Nat):callF T dfs (n+1) 8 [.lst (ps.map pairD),tN t,.int (p:Int)]=.ok (.bl (t.all λo=>!decide ((o,p)∈ps))):=by
 have hb:=ten_big
 have c:compL (compF T (callF T dfs n) 1 [0,2] (.one 0) e_may_join_1 (.con (.bl true)) [.v (.lst (ps.map pairD)),.v (tN t),.v (.int (p:Int))]) (t.map natI)=.ok ((t.map λo=>!decide ((o,p)∈ps)).map D.bl):=by
  rw[compL_enc natI (λo=>some (D.bl (!decide ((o,p)∈ps)))) (by
   intro o _
   have e:D.cmp .NotIn (.tup [.int (o:Int),.int (p:Int)]) (.lst (ps.map pairD))=.ok (.bl (!decide ((o,p)∈ps))):=notin_pairD (o,p) ps
   generalize (!decide ((o,p)∈ps))=b at *
   generalize ps.map pairD=pp at *
   simp[compF,Tr.compEnv,natI,e_may_join_1,e]),List.filterMap_eq_map',List.map_map]
  rfl
 have l1:(t.map natI).length≤big:=by rw[List.length_map];lia
 have it:D.items (tN t)=.ok (t.map natI):=rfl
 have bl:blsOf ((t.map λo=>!decide ((o,p)∈ps)).map D.bl)=.ok (t.map λo=>!decide ((o,p)∈ps)):=by
  generalize (t.map λo=>!decide ((o,p)∈ps))=q
  clear c l1 it ht
  induction q with
  | nil=>rfl
  | cons b r ih=>rw[List.map_cons,blsOf,ih];rfl
 have al:((t.map λo=>!decide ((o,p)∈ps)).all id)=t.all λo=>!decide ((o,p)∈ps):=by
  rw[List.all_map];rfl
 refine callF_rt (k:=false) rfl rfl rfl ?_
 rw[←al]
 generalize (t.map λo=>!decide ((o,p)∈ps))=q at *
 generalize hq:q.map D.bl=qd at *
 generalize tN t=td at *
 generalize t.map natI=tl at *
 simp[b_may_join,it,c,l1,bl]
theorem tN_add (t:List Nat) (p:Nat) (h:t.length≤100):D.bin .Add (tN t) (.tup [.int (p:Int)])=.ok (tN (t++[p])):=by
 have hb:=ten_big
 unfold tN
 show when (decide ((t.map natI).length+1≤big)) _=_
 rw[when_of (decide_eq_true (by rw[List.length_map];lia)),List.map_append];rfl
theorem take_len {ok:Nat→Bool} {ps:List (Nat×Nat)} (ts:List (List Nat)) (p:Nat):(takeStep ok ps ts p).length≤2*ts.length:=by
 unfold takeStep
 split
 ·rw[List.length_append,List.length_map]
  have:=List.length_filter_le (λt=>t.all λo=>!decide ((o,p)∈ps)) ts
  lia
 ·lia
theorem takings_len {ok:Nat→Bool} {ps:List (Nat×Nat)}:∀ {n:Nat} {l:List Nat},l.length=n→(takings ok ps l).length≤2^n
 | 0,l,h=>by rw[List.length_eq_zero_iff.mp h];exact Nat.le_refl 1
 | n+1,l,h=>by
  obtain⟨l0,p,rfl⟩:∃l0 p,l=l0++[p]:=by
   have h0:l≠[]:=λz=>by rw[z] at h;cases h
   exact⟨l.dropLast,l.getLast h0,(List.dropLast_concat_getLast h0).symm⟩
  have hl0:l0.length=n:=by rw[List.length_append,List.length_singleton] at h;lia
  rw[takings_app]
  have h1:=take_len (ok:=ok) (ps:=ps) (takings ok ps l0) p
  have h2:=takings_len (ok:=ok) (ps:=ps) hl0
  rw[Nat.pow_succ];lia
theorem fm_ifL {α β:Type} (p:α→Bool) (f:α→β):∀l:List α,l.filterMap (λs=>if p s=true then some (f s) else none)=(l.filter p).map f
 | []=>rfl
 | a::l=>by
  rw[List.filterMap_cons,List.filter_cons]
  cases p a with
  | true=>simp only[if_true,List.map_cons];rw[fm_ifL p f l]
  | false=>exact fm_ifL p f l
theorem takings_loop (n:Nat) (P:List Part) (Q:List Player) (X Y Z:D) (ps:List (Nat×Nat)) (hv:∀p∈P,(signs p.voice).length=1) (j:Nat) (hj:j < Q.length) (L:D):∀(rest l0:List Nat) (x5:Sl),(l0++rest).length≤8→(∀p∈rest,p < P.length) →
 ∃x5',forL (bodyF T (callF T dfs (n+1)) (.one 5) b_takings_of_3) (rest.map natI) [.v (.tup [.tup (P.map Part.enc),.tup (Q.map Player.enc),X,Y,Z]),.v (.lst (ps.map pairD)),.v (.int (j:Int)),.v L,.v (.lst ((takings (okV P Q j) ps l0).map tN)),x5] =
  .ok (.nx [.v (.tup [.tup (P.map Part.enc),.tup (Q.map Player.enc),X,Y,Z]),.v (.lst (ps.map pairD)),.v (.int (j:Int)),.v L,.v (.lst ((takings (okV P Q j) ps (l0++rest)).map tN)),x5'])
 | [],l0,x5,_,_=>⟨x5,by rw[List.append_nil];rfl⟩
 | p::rest,l0,x5,hl,hp=>by
  have hb:=ten_big
  have hl0:l0.length≤7:=by simp at hl;lia
  obtain⟨d,hd,hn⟩:=fault_one n P Q X Y Z hv j p hj (hp p (List.mem_cons_self ..))
  have tl:(takings (okV P Q j) ps l0).length≤2^7:=Nat.le_trans (takings_len rfl) (Nat.pow_le_pow_right (by lia) hl0)
  have tm:∀t∈takings (okV P Q j) ps l0,t.length≤7:=λt ht=>Nat.le_trans ((mem_takings rfl).mp ht).1.length_le hl0
  obtain⟨x5',ih⟩:=takings_loop n P Q X Y Z ps hv j hj L rest (l0++[p]) (.v (.int (p:Int))) (by simpa using hl) (λq hq=>hp q (List.mem_cons_of_mem _ hq))
  refine⟨x5',?_⟩
  rw[List.append_assoc,List.singleton_append] at ih
  rw[List.map_cons,←ih]
  refine forL_nx ?_
  rw[takings_app]
  generalize takings (okV P Q j) ps l0=ts at *
  generalize (D.tup [.tup (P.map Part.enc),.tup (Q.map Player.enc),X,Y,Z])=B at *
  have ec:D.cmp .Is d .non=.ok (.bl (okV P Q j p)):=by rw[←hn];cases d<;>rfl
  unfold takeStep
  generalize okV P Q j p=c at *
  cases c with
  | false=>simp[bodyF,b_takings_of_3,natI,hd,hn]
  | true =>
   have cc:compL (compF T (callF T dfs (n+1)) 1 [5,1] (.one 0) e_takings_of_2 c_takings_of_1 [.v B,.v (.lst (ps.map pairD)),.v (.int (j:Int)),.v L,.v (.lst (ts.map tN)),.v (.int (p:Int))]) (ts.map tN)=.ok (((ts.filter λt=>t.all λo=>!decide ((o,p)∈ps)).map (·++[p])).map tN):=by
    rw[compL_enc tN (λt=>if (t.all λo=>!decide ((o,p)∈ps))=true then some (tN (t++[p])) else none) (by
     intro t ht
     have e1:=may_join n ps t (Nat.le_trans (tm t ht) (by lia)) p
     have e2:=tN_add t p (Nat.le_trans (tm t ht) (by lia))
     generalize (t.all λo=>!decide ((o,p)∈ps))=b at *
     generalize ps.map pairD=pp at *
     generalize tN t=td at *
     generalize tN (t++[p])=te at *
     cases b with
     | true=>simp[compF,Tr.compEnv,c_takings_of_1,e_takings_of_2,e1,e2]
     | false=>simp[compF,Tr.compEnv,c_takings_of_1,e_takings_of_2,e1]),fm_ifL,List.map_map]
    rfl
   rw[if_pos rfl,List.map_append]
   have fl:(((ts.filter λt=>t.all λo=>!decide ((o,p)∈ps)).map (·++[p])).map tN).length≤128:=by
    rw[List.length_map,List.length_map]
    exact Nat.le_trans (List.length_filter_le _ _) tl
   have tl2:(ts.map tN).length≤128:=by rw[List.length_map];exact tl
   generalize ((ts.filter λt=>t.all λo=>!decide ((o,p)∈ps)).map (·++[p])).map tN=more at *
   generalize ts.map tN=td at *
   have e3:D.bin .Add (.lst td) (.lst more)=.ok (.lst (td++more)):=by
    show when (decide (td.length+more.length≤big)) _=_
    rw[when_of (decide_eq_true (by lia))]
   simp[bodyF,b_takings_of_3,natI,hd,hn,cc,e3,show td.length≤big by lia]
theorem takings_of (n:Nat) (P:List Part) (Q:List Player) (X Y Z:D) (ps:List (Nat×Nat)) (hv:∀p∈P,(signs p.voice).length=1) (j:Nat) (hj:j < Q.length) (left:List Nat) (hl:left.length≤8) (hp:∀p∈left,p < P.length) :
 callF T dfs (n+2) 9 [.tup [.tup (P.map Part.enc),.tup (Q.map Player.enc),X,Y,Z],.lst (ps.map pairD),.int (j:Int),tN left]=.ok (.lst ((takings (okV P Q j) ps left).map tN)):=by
 obtain⟨x5',h⟩:=takings_loop n P Q X Y Z ps hv j hj (tN left) left [] .no (by simpa using hl) hp
 have e:takings (okV P Q j) ps []=[[]]:=rfl
 rw[e,List.nil_append] at h
 have it:D.items (tN left)=.ok (left.map natI):=rfl
 have e0:[([]:List Nat)].map tN=[.tup []]:=rfl
 rw[e0] at h
 refine callF_rt (k:=false) rfl rfl rfl ?_
 generalize (D.tup [.tup (P.map Part.enc),.tup (Q.map Player.enc),X,Y,Z])=B at *
 generalize (takings (okV P Q j) ps left).map tN=r at *
 generalize tN left=tl at *
 simp[b_takings_of,it,h]
theorem tN_nil (t:List Nat):D.cmp .Eq (tN t) (.tup [])=.ok (.bl (decide (t=[]))):=by
 unfold tN
 rw[cmp_tup_nil (pls_map natI 29 (natI_pl 29) t)]
 cases t<;>rfl
theorem tN_in (p:Nat) (t:List Nat):D.cmp .In (.int (p:Int)) (tN t)=.ok (.bl (decide (p∈t))):=inn_natD
theorem tN_notin (p:Nat) (t:List Nat):D.cmp .NotIn (.int (p:Int)) (tN t)=.ok (.bl (!decide (p∈t))):=by
 show (do let k ←when (D.pls 30 (natD t)&&D.pl 29 (.int (p:Int))) (.ok (D.mem (.int (p:Int)) (natD t)));.ok (D.bl (!k)))=_
 rw[natD_pls 29,natD_mem];rfl
noncomputable def hiredV (h:List Int) (ws:List Nat):Int:=((numsV ws).map λi=>h.getD i 0).sum
noncomputable def likedV (ls:List (List Int)) (ws:List Nat):Int:=((List.range ws.length).map λk=>(ls.getD (ws.getD k 0) []).getD k 0).sum
theorem row_at {r:List Int} {i:Nat} (h:i < r.length):D.ix (rowD r) (.int (i:Int))=.ok (.int (r.getD i 0)):=ix_t (by
 rw[List.getElem?_map,List.getElem?_eq_getElem h,List.getD_eq_getElem?_getD,List.getElem?_eq_getElem h];rfl)
theorem rows_at {ls:List (List Int)} {i:Nat} (h:i < ls.length):D.ix (.tup (ls.map rowD)) (.int (i:Int))=.ok (rowD (ls.getD i [])):=ix_t (by
 rw[List.getElem?_map,List.getElem?_eq_getElem h,List.getD_eq_getElem?_getD,List.getElem?_eq_getElem h];rfl)
theorem enum_nat (ws:List Nat):enumD 0 (ws.map natI)=(List.range ws.length).map λk:Nat=>D.tup [.int (k:Int),natI (ws.getD k 0)]:=by
 have:=enumD_range natI 0 ws 0
 rw[show ((0:Nat):Int)=0 from rfl] at this
 rw[this]
 apply List.map_congr_left
 intro a _
 rw[Nat.zero_add]
structure GoodP (h:List Int) (ls:List (List Int)) (ws:List Nat):Prop where
 hl:h.length≤6
 ll:ls.length=h.length
 lr:∀r∈ls,r.length=ws.length
 wl:ws.length≤8
 wt:∀w∈ws,w < h.length
theorem GoodP.row {h:List Int} {ls:List (List Int)} {ws:List Nat} (g:GoodP h ls ws) {k:Nat} (hk:k < ws.length):ws.getD k 0 < ls.length∧k < (ls.getD (ws.getD k 0) []).length:=by
 have e:ws.getD k 0=ws[k]:=by rw[List.getD_eq_getElem?_getD,List.getElem?_eq_getElem hk];rfl
 have h1:ws.getD k 0 < ls.length:=by rw[g.ll,e];exact g.wt _ (List.getElem_mem hk)
 refine⟨h1,?_⟩
 rw[List.getD_eq_getElem?_getD (l:=ls),List.getElem?_eq_getElem h1]
 show k < (ls[ws.getD k 0]).length
 rw[g.lr _ (List.getElem_mem h1)];exact hk
theorem nums_range {l:List Nat} {p:Nat} (hp:p≤8) (h:∀a∈l,a < p):(List.range p).filter (λi=>decide (i∈l))=numsV l:=by
 unfold numsV
 have e:(λi=>l.contains i)=λi=>decide (i∈l):=by
  funext i
  rw[Bool.eq_iff_iff,List.contains_iff_mem,decide_eq_true_eq]
 rw[e]
 obtain⟨d,hd⟩:∃d,8=p+d:=⟨8 - p,by lia⟩
 have:∀d,(List.range (p+d)).filter (λi=>decide (i∈l))=(List.range p).filter (λi=>decide (i∈l)):=by
  intro d
  induction d with
  | zero=>rfl
  | succ d ih =>
   rw[←Nat.add_assoc,List.range_succ,List.filter_append,ih]
   have:¬(p+d)∈l:=λz=>by have:=h _ z;lia
   simp[this]
 rw[hd]
 exact (this d).symm
theorem fm_if (f:Nat→D) (p:Nat→Bool):∀R:List Nat,R.filterMap (λi=>if p i=true then some (f i) else none)=(R.filter p).map f
 | []=>rfl
 | a::R=>by
  rw[List.filterMap_cons,List.filter_cons,fm_if f p R]
  cases p a<;>rfl
theorem law_price (n:Nat) (h:List Int) (ls:List (List Int)) (ws:List Nat) (g:GoodP h ls ws):callF T dfs (n+1) 41 [pricesD h ls,.lst (ws.map natI)]=.ok (.int (hiredV h ws+likedV ls ws)):=by
 have hb:=ten_big
 have rg:=rng_nat (n:=h.length) (by have:=g.hl;lia)
 refine callF_rt (k:=true) rfl rfl rfl ?_
 have hnr:=nums_range (l:=ws) (p:=h.length) (by have:=g.hl;lia) g.wt
 have c1:compL (compF T (callF T dfs n) 1 [0,1] (.one 0) e_price_2 c_price_1 [.v (pricesD h ls),.v (.lst (ws.map natI)),.no]) ((List.range h.length).map natI)=.ok (((numsV ws).map λi=>h.getD i 0).map D.int):=by
  rw[compL_enc natI (λi=>if decide (i∈ws)=true then some (D.int (h.getD i 0)) else none) (by
   intro i hi
   have q:=row_at (List.mem_range.mp hi)
   have q2:D.cmp .In (.int (i:Int)) (.lst (ws.map natI))=.ok (.bl (decide (i∈ws))):=by
    show (do let k ←when (D.pls 30 (natD ws)&&D.pl 29 (.int (i:Int))) (.ok (D.mem (.int (i:Int)) (natD ws)));Res.ok (D.bl k))=_
    rw[natD_pls 29 ws,natD_mem i ws];rfl
   generalize h.getD i 0=v at *
   generalize decide (i∈ws)=K at *
   unfold pricesD
   cases K
   ·simp[compF,Tr.compEnv,natI,e_price_2,c_price_1,q,q2]
   ·simp[compF,Tr.compEnv,natI,e_price_2,c_price_1,q,q2])]
  rw[fm_if (λi=>D.int (h.getD i 0)) (λi=>decide (i∈ws)),hnr,List.map_map]
  rfl
 have c2:∀x2:Sl,compL (compF T (callF T dfs n) 2 [0] (.many [0,1]) e_price_3 (.con (.bl true)) [.v (pricesD h ls),.v (.lst (ws.map natI)),x2]) ((List.range ws.length).map λk:Nat=>D.tup [.int (k:Int),natI (ws.getD k 0)])=.ok (((List.range ws.length).map λk=>(ls.getD (ws.getD k 0) []).getD k 0).map D.int):=by
  intro x4
  rw[compL_enc (λk:Nat=>D.tup [.int (k:Int),natI (ws.getD k 0)]) (λk=>some (D.int ((ls.getD (ws.getD k 0) []).getD k 0))) (by
   intro k hk
   have gr:=g.row (List.mem_range.mp hk)
   have q1:=rows_at gr.1
   have q2:=row_at gr.2
   generalize ls.getD (ws.getD k 0) []=R at *
   generalize R.getD k 0=v at *
   generalize ws.getD k 0=w at *
   unfold pricesD
   simp[compF,Tr.compEnv,natI,e_price_3,q1,q2]),List.filterMap_eq_map',List.map_map]
  rfl
 have l1:h.length≤big:=by have:=g.hl;lia
 have l2:((List.range ws.length).map λk:Nat=>D.tup [.int (k:Int),natI (ws.getD k 0)]).length≤big:=by rw[List.length_map,List.length_range];have:=g.wl;lia
 have en:=enum_nat ws
 have ln:Bt.run .len [rowD h]=.ok (.int (h.length:Int)):=by
  unfold rowD
  rw[run_len_t,List.length_map]
 unfold hiredV likedV
 have s1:=run_sum (ns:=(numsV ws).map λi=>h.getD i 0)
 have s2:=run_sum (ns:=(List.range ws.length).map λk=>(ls.getD (ws.getD k 0) []).getD k 0)
 generalize ((numsV ws).map λi=>h.getD i 0)=A1 at *
 generalize ((List.range ws.length).map λk=>(ls.getD (ws.getD k 0) []).getD k 0)=A2 at *
 generalize ((List.range ws.length).map λk:Nat=>D.tup [.int (k:Int),natI (ws.getD k 0)])=EE at *
 generalize A1.map D.int=B1 at *
 generalize A2.map D.int=B2 at *
 unfold pricesD at c1 c2 ⊢
 simp[b_law_price,rg,ln,c1,l1,s1,en,c2,l2,s2]
noncomputable def hireP (h:List Int) (j:Nat):Int:=h.getD j 0
noncomputable def likeP (ls:List (List Int)) (j p:Nat):Int:=(ls.getD j []).getD p 0
theorem price_of_taking (n:Nat) (h:List Int) (ls:List (List Int)) (j:Nat) (t:List Nat) (hj:j < h.length) (hj2:j < ls.length) (ht:∀p∈t,p < (ls.getD j []).length) (hl:t.length≤100) :
 callF T dfs (n+1) 10 [pricesD h ls,.int (j:Int),tN t]=.ok (.int (ptak (hireP h j) (likeP ls j) t)):=by
 have hb:=ten_big
 have e1:=tN_nil t
 have e2:=row_at hj
 have it:D.items (tN t)=.ok (t.map natI):=rfl
 have c:∀x:Sl,compL (compF T (callF T dfs n) 1 [4,1] (.one 0) e_price_of_taking_1 (.con (.bl true)) [x,.v (.int (j:Int)),.v (tN t),.v (rowD h),.v (.tup (ls.map rowD))]) (t.map natI)=.ok ((t.map (likeP ls j)).map D.int):=by
  intro x
  rw[compL_enc natI (λp=>some (D.int (likeP ls j p))) (by
   intro p hp
   have q1:=rows_at hj2
   have q2:=row_at (ht p hp)
   unfold likeP
   generalize ls.getD j []=R at *
   generalize R.getD p 0=v at *
   simp[compF,Tr.compEnv,natI,e_price_of_taking_1,q1,q2]),List.filterMap_eq_map',List.map_map]
  rfl
 have s1:=run_sum (ns:=t.map (likeP ls j))
 have l1:(t.map natI).length≤big:=by rw[List.length_map];lia
 unfold ptak hireP
 by_cases q:t=[]
 ·rw[if_pos q]
  refine callF_rt (k:=false) rfl rfl rfl ?_
  rw[decide_eq_true q] at e1
  generalize tN t=td at *
  unfold pricesD
  simp[b_price_of_taking,e1]
 ·rw[if_neg q]
  refine callF_rt (k:=true) rfl rfl rfl ?_
  rw[decide_eq_false q] at e1
  generalize t.map (likeP ls j)=A1 at *
  generalize A1.map D.int=B1 at *
  generalize t.map natI=tl at *
  generalize tN t=td at *
  unfold pricesD
  simp[b_price_of_taking,e1,e2,it,c,l1,s1]
theorem left_behind (n:Nat) (left t:List Nat) (hl:left.length≤100):callF T dfs (n+1) 11 [tN left,tN t]=.ok (tN (behindV left t)):=by
 have hb:=ten_big
 have it:D.items (tN left)=.ok (left.map natI):=rfl
 have l1:(left.map natI).length≤big:=by rw[List.length_map];lia
 have c:compL (compF T (callF T dfs n) 1 [1] (.one 0) e_left_behind_2 c_left_behind_1 [.v (tN left),.v (tN t)]) (left.map natI)=.ok ((behindV left t).map natI):=by
  refine compL_keep natI (λp=>!decide (p∈t)) ?_
  intro p _
  have e:=tN_notin p t
  generalize (!decide (p∈t))=b at *
  generalize tN t=td at *
  cases b with
  | true=>simp[compF,Tr.compEnv,natI,e_left_behind_2,c_left_behind_1,e]
  | false=>simp[compF,Tr.compEnv,natI,e_left_behind_2,c_left_behind_1,e]
 refine callF_rt (k:=false) rfl rfl rfl ?_
 show _=Res.ok (Out.rt (D.tup ((behindV left t).map natI)) false)
 generalize (behindV left t).map natI=r at *
 generalize left.map natI=ll at *
 generalize tN left=td at *
 simp[b_left_behind,it,c,l1]
theorem with_parts (n:Nat) (cs:List (Option Nat)) (t:List Nat) (j:Nat) (hl:cs.length≤100):callF T dfs (n+1) 12 [.lst (cs.map optN),tN t,.int (j:Int)]=.ok (.lst ((withP cs t j).map optN)):=by
 have hb:=ten_big
 have en:enumD 0 (cs.map optN)=(List.range cs.length).map λk:Nat=>D.tup [.int (k:Int),optN (cs.getD k none)]:=by
  have:=enumD_range optN none cs 0
  rw[show ((0:Nat):Int)=0 from rfl] at this
  rw[this]
  apply List.map_congr_left
  intro a _
  rw[Nat.zero_add]
 have c:compL (compF T (callF T dfs n) 2 [2,1] (.many [0,1]) e_with_parts_1 (.con (.bl true)) [.v (.lst (cs.map optN)),.v (tN t),.v (.int (j:Int))]) ((List.range cs.length).map λk:Nat=>D.tup [.int (k:Int),optN (cs.getD k none)])=.ok ((withP cs t j).map optN):=by
  rw[compL_enc (λk:Nat=>D.tup [.int (k:Int),optN (cs.getD k none)]) (λk=>some (optN (if k∈t then some j else cs.getD k none))) (by
   intro k hk
   have e:=tN_in k t
   generalize cs.getD k none=o at *
   generalize tN t=td at *
   by_cases q:k∈t
   ·rw[if_pos q];rw[decide_eq_true q] at e;simp[compF,Tr.compEnv,e_with_parts_1,e]
   ·rw[if_neg q];rw[decide_eq_false q] at e;simp[compF,Tr.compEnv,e_with_parts_1,e]),List.filterMap_eq_map']
  unfold withP
  rw[List.map_map];rfl
 have l2:((List.range cs.length).map λk:Nat=>D.tup [.int (k:Int),optN (cs.getD k none)]).length≤big:=by rw[List.length_map,List.length_range];lia
 refine callF_rt (k:=true) rfl rfl rfl ?_
 generalize ((List.range cs.length).map λk:Nat=>D.tup [.int (k:Int),optN (cs.getD k none)])=EE at *
 generalize (withP cs t j).map optN=r at *
 generalize cs.map optN=cc at *
 generalize tN t=td at *
 simp[b_with_parts,en,c,l2]
noncomputable def wayD (v:Way):D:=.tup [.int v.1,.lst (v.2.map optN)]
noncomputable def keyW (k:List Nat):List (Sum Int Str):=k.map λ(i:Nat)=>Sum.inl (i:Int)
noncomputable def encL (L:List (List Nat×Way)):List (List (Sum Int Str)×D):=L.map λe=>(keyW e.1,wayD e.2)
theorem keyW_inj:∀ {a b:List Nat},keyW a=keyW b→a=b
 | [],[],_=>rfl
 | [],b::s,h=>nomatch h
 | a::r,[],h=>nomatch h
 | a::r,b::s,h=>by
  injection h with h1 h2
  injection h1 with h1
  rw[Int.ofNat.inj h1,keyW_inj h2]
theorem keyW_dec (a b:List Nat):decide (keyW a=keyW b)=decide (a=b):=by
 by_cases h:a=b
 ·rw[h,decide_eq_true rfl,decide_eq_true rfl]
 ·rw[decide_eq_false h,decide_eq_false λz=>h (keyW_inj z)]
theorem keysI_nat:∀k:List Nat,keysI (k.map natI)=some (keyW k)
 | []=>rfl
 | i::k=>by
  show (keysI (k.map natI)).map _=_
  rw[keysI_nat k];rfl
theorem keyD_nat (k:List Nat):(keyW k).map keyD=k.map natI:=by
 unfold keyW
 rw[List.map_map];rfl
theorem val_enc (L:List (List Nat×Way)) (k:List Nat):valT (encL L) (keyW k)=(valL L k).map wayD:=by
 unfold valT valL encL
 rw[List.find?_map,Option.map_map,Option.map_map]
 have e:((λkv:List (Sum Int Str)×D=>decide (kv.1=keyW k))∘λe:List Nat×Way=>(keyW e.1,wayD e.2))=λe=>decide (e.1=k):=by
  funext e;exact keyW_dec e.1 k
 rw[e];rfl
theorem put_enc (L:List (List Nat×Way)) (k:List Nat) (v:Way):putTD (encL L) (keyW k) (wayD v)=encL (putL L k v):=by
 unfold putTD putL encL
 rw[List.any_map]
 have e:((λkv:List (Sum Int Str)×D=>decide (kv.1=keyW k))∘λe:List Nat×Way=>(keyW e.1,wayD e.2))=λe=>decide (e.1=k):=by
  funext e;exact keyW_dec e.1 k
 rw[e]
 by_cases q:(L.any λe=>decide (e.1=k))=true
 ·rw[if_pos q,if_pos q,List.map_map,List.map_map]
  apply List.map_congr_left
  intro e _
  show (if keyW e.1=keyW k then (keyW e.1,wayD v) else (keyW e.1,wayD e.2))=_
  by_cases c:e.1=k
  ·rw[if_pos (congrArg keyW c)]
   show _=((λe:List Nat×Way=>(keyW e.1,wayD e.2)) (if e.1=k then (e.1,v) else e))
   rw[if_pos c]
  ·rw[if_neg (λz=>c (keyW_inj z))]
   show _=((λe:List Nat×Way=>(keyW e.1,wayD e.2)) (if e.1=k then (e.1,v) else e))
   rw[if_neg c]
 ·rw[if_neg q,if_neg q,List.map_append];rfl
theorem notin_enc (L:List (List Nat×Way)) (k:List Nat):D.cmp .NotIn (tN k) (.tdc (encL L))=.ok (.bl (valL L k).isNone):=by
 show ((Res.of (keysI (k.map natI))>>=λq=>Res.ok (valT (encL L) q).isSome)>>=λb=>Res.ok (D.bl (!b)))=_
 rw[keysI_nat]
 show Res.ok (D.bl (!(valT (encL L) (keyW k)).isSome))=_
 rw[val_enc]
 cases valL L k<;>rfl
theorem ix_enc {L:List (List Nat×Way)} {k:List Nat} {w:Way} (h:valL L k=some w):D.ix (.tdc (encL L)) (tN k)=.ok (wayD w):=by
 show (Res.of (keysI (k.map natI))>>=λq=>Res.of (valT (encL L) q))=_
 rw[keysI_nat]
 show Res.of (valT (encL L) (keyW k))=_
 rw[val_enc,h];rfl
theorem get_enc (L:List (List Nat×Way)) (k:List Nat):getR (.tdc (encL L)) (tN k)=.ok (((valL L k).map wayD).getD .non):=by
 show (Res.of (keysI (k.map natI))>>=λq=>Res.ok ((valT (encL L) q).getD .non))=_
 rw[keysI_nat]
 show Res.ok ((valT (encL L) (keyW k)).getD .non)=_
 rw[val_enc]
theorem keyV_nat (k:List Nat):keyV (tN k)=.ok (keyW k):=by
 show Res.of (keysI (k.map natI))=_
 rw[keysI_nat];rfl
theorem dkeys_enc (L:List (List Nat×Way)):dkeysR (.tdc (encL L))=.ok (L.map λe=>tN e.1):=by
 show Res.ok ((encL L).map _)=_
 unfold encL
 rw[List.map_map]
 refine congrArg Res.ok (List.map_congr_left λe _=>?_)
 show D.tup ((keyW e.1).map keyD)=_
 rw[keyD_nat];rfl
theorem upd_len (L:List (List Nat×Way)) (k:List Nat) (v:Way):(updL L k v).length≤L.length+1:=by
 have p:(putL L k v).length≤L.length+1:=by
  unfold putL
  split
  ·rw[List.length_map];lia
  ·rw[List.length_append];exact Nat.le_refl _
 unfold updL
 cases valL L k with
 | none=>exact p
 | some w =>
  dsimp only
  split
  ·exact p
  ·lia
theorem foldU_len:∀(cs L:List (List Nat×Way)),(foldU L cs).length≤L.length+cs.length
 | [],L=>Nat.le_refl _
 | c::cs,L=>by
  have h1:=foldU_len cs (updL L c.1 c.2)
  have h2:=upd_len L c.1 c.2
  show (foldU (updL L c.1 c.2) cs).length≤_
  rw[List.length_cons];lia
theorem next_in (n:Nat) (B C W:D) (h:List Int) (ls:List (List Int)) (j:Nat) (hj:j < h.length) (hj2:j < ls.length) (left:List Nat) (hl:left.length≤100) (c:Int) (cs:List (Option Nat)) (hc:cs.length≤100):∀(ts:List (List Nat)) (acc:List (List Nat×Way)) (x9 x10 x11:Sl),
 acc.length+ts.length≤100000→(∀t∈ts,t.length≤100∧∀p∈t,p < (ls.getD j []).length) →
 ∃x9' x10' x11',forL (bodyF T (callF T dfs (n+1)) (.one 9) b_next_ways_1) (ts.map tN) [.v B,.v C,.v (pricesD h ls),.v (.int (j:Int)),.v W,.o (.tdc (encL acc)),.v (tN left),.v (.int c),.v (.lst (cs.map optN)),x9,x10,x11] =
  .ok (.nx [.v B,.v C,.v (pricesD h ls),.v (.int (j:Int)),.v W,.o (.tdc (encL (foldU acc (ts.map λt=>(behindV left t,(c+ptak (hireP h j) (likeP ls j) t,withP cs t j)))))),.v (tN left),.v (.int c),.v (.lst (cs.map optN)),x9',x10',x11'])
 | [],acc,x9,x10,x11,_,_=>⟨x9,x10,x11,rfl⟩
 | t::ts,acc,x9,x10,x11,ha,ht=>by
  have hbig:(100000:Nat) < big:=by decide
  rw[List.length_cons] at ha
  have h0:=ht t (List.mem_cons_self ..)
  have e1:=left_behind n left t hl
  have e2:=price_of_taking n h ls j t hj hj2 h0.2 h0.1
  have e3:=with_parts n cs t j hc
  have e4:=notin_enc acc (behindV left t)
  have e5:=keyV_nat (behindV left t)
  have ul:=upd_len acc (behindV left t) (c+ptak (hireP h j) (likeP ls j) t,withP cs t j)
  obtain⟨x9',x10',x11',ih⟩:=next_in n B C W h ls j hj hj2 left hl c cs hc ts (updL acc (behindV left t) (c+ptak (hireP h j) (likeP ls j) t,withP cs t j)) (.v (tN t)) (.v (tN (behindV left t))) (.v (.int (c+ptak (hireP h j) (likeP ls j) t))) (by lia) (λq hq=>ht q (List.mem_cons_of_mem _ hq))
  refine⟨x9',x10',x11',?_⟩
  rw[List.map_cons,List.map_cons]
  show _=Res.ok (Out.nx [_,_,_,_,_,.o (.tdc (encL (foldU (updL acc (behindV left t) (c+ptak (hireP h j) (likeP ls j) t,withP cs t j)) _))),_,_,_,_,_,_])
  rw[←ih]
  refine forL_nx ?_
  have e6:=put_enc acc (behindV left t) (c+ptak (hireP h j) (likeP ls j) t,withP cs t j)
  have la:(encL acc).length < big:=by unfold encL;rw[List.length_map];lia
  unfold updL
  clear ih ul ht h0
  unfold wayD at e6
  dsimp only at e6
  generalize ptak (hireP h j) (likeP ls j) t=pr at *
  generalize pricesD h ls=prd at *
  cases hv:valL acc (behindV left t) with
  | none =>
   rw[hv] at e4
   dsimp only
   rw[←e6]
   generalize keyW (behindV left t)=kk at *
   generalize tN (behindV left t)=kt at *
   generalize (withP cs t j).map optN=wp at *
   generalize encL acc=ea at *
   generalize cs.map optN=cc at *
   simp[bodyF,b_next_ways_1,e1,e2,e3,e4,e5,la]
  | some w =>
   rw[hv] at e4
   have e7:=ix_enc hv
   have e8:D.ix (wayD w) (.int 0)=.ok (.int w.1):=rfl
   dsimp only
   by_cases q:c+pr < w.1
   ·rw[if_pos q,←e6]
    generalize keyW (behindV left t)=kk at *
    generalize tN (behindV left t)=kt at *
    generalize (withP cs t j).map optN=wp at *
    generalize encL acc=ea at *
    generalize cs.map optN=cc at *
    generalize wayD w=wd at *
    generalize w.1=w1 at *
    simp[bodyF,b_next_ways_1,e1,e2,e3,e4,e5,e7,e8,la,q]
   ·rw[if_neg q]
    generalize tN (behindV left t)=kt at *
    generalize encL acc=ea at *
    generalize cs.map optN=cc at *
    generalize wayD w=wd at *
    generalize w.1=w1 at *
    simp[bodyF,b_next_ways_1,e1,e2,e4,e7,e8,q]
theorem foldU_app (L a b:List (List Nat×Way)):foldU L (a++b)=foldU (foldU L a) b:=by
 unfold foldU
 rw[List.foldl_append]
theorem next_out (n:Nat) (P:List Part) (Q:List Player) (X Y Z:D) (ps:List (Nat×Nat)) (hv:∀p∈P,(signs p.voice).length=1) (h:List Int) (ls:List (List Int)) (j:Nat) (hq:j < Q.length) (hj:j < h.length) (hj2:j < ls.length) (hr:(ls.getD j []).length=P.length) (ways:List (List Nat×Way)):∀(es acc:List (List Nat×Way)) (x6 x7 x8 x9 x10 x11:Sl),
 acc.length+es.length*256≤100000→(∀e∈es,(∃v,valL ways e.1=some v∧v.2.length≤100)∧e.1.length≤8∧∀p∈e.1,p < P.length) →
 ∃x6' x7' x8' x9' x10' x11',forL (bodyF T (callF T dfs (n+2)) (.one 6) b_next_ways_2) (es.map λe=>tN e.1) [.v (.tup [.tup (P.map Part.enc),.tup (Q.map Player.enc),X,Y,Z]),.v (.lst (ps.map pairD)),.v (pricesD h ls),.v (.int (j:Int)),.v (.tdc (encL ways)),.o (.tdc (encL acc)),x6,x7,x8,x9,x10,x11] =
  .ok (.nx [.v (.tup [.tup (P.map Part.enc),.tup (Q.map Player.enc),X,Y,Z]),.v (.lst (ps.map pairD)),.v (pricesD h ls),.v (.int (j:Int)),.v (.tdc (encL ways)),.o (.tdc (encL (foldU acc (es.flatMap λe=>match valL ways e.1 with | some v=>candsE (okV P Q j) ps (hireP h j) (likeP ls j) j e.1 v | none=>[])))),x6',x7',x8',x9',x10',x11'])
 | [],acc,x6,x7,x8,x9,x10,x11,_,_=>⟨x6,x7,x8,x9,x10,x11,rfl⟩
 | e::es,acc,x6,x7,x8,x9,x10,x11,ha,he=>by
  rw[List.length_cons] at ha
  obtain⟨⟨v,hval,hvl⟩,hel,hep⟩:=he e (List.mem_cons_self ..)
  have tl:(takings (okV P Q j) ps e.1).length≤2^8:=Nat.le_trans (takings_len rfl) (Nat.pow_le_pow_right (by lia) hel)
  have tm:∀t∈takings (okV P Q j) ps e.1,t.length≤100∧∀p∈t,p < (ls.getD j []).length:=λt ht=>by
   have hs:=((mem_takings rfl).mp ht).1
   exact⟨Nat.le_trans hs.length_le (by lia),λp hp=>by rw[hr];exact hep p (hs.subset hp)⟩
  have t1:=takings_of n P Q X Y Z ps hv j hq e.1 (by lia) hep
  obtain⟨y9,y10,y11,hin⟩:=next_in (n+1) (.tup [.tup (P.map Part.enc),.tup (Q.map Player.enc),X,Y,Z]) (.lst (ps.map pairD)) (.tdc (encL ways)) h ls j hj hj2 e.1 (by lia) v.1 v.2 hvl (takings (okV P Q j) ps e.1) acc x9 x10 x11 (by lia) tm
  rw[show ((takings (okV P Q j) ps e.1).map λt=>(behindV e.1 t,(v.1+ptak (hireP h j) (likeP ls j) t,withP v.2 t j)))=candsE (okV P Q j) ps (hireP h j) (likeP ls j) j e.1 v from rfl] at hin
  have cl:(candsE (okV P Q j) ps (hireP h j) (likeP ls j) j e.1 v).length≤256:=by unfold candsE;rw[List.length_map];exact tl
  have fl:=foldU_len (candsE (okV P Q j) ps (hireP h j) (likeP ls j) j e.1 v) acc
  have ih:=next_out n P Q X Y Z ps hv h ls j hq hj hj2 hr ways es (foldU acc (candsE (okV P Q j) ps (hireP h j) (likeP ls j) j e.1 v)) (.v (tN e.1)) (.v (.int v.1)) (.v (.lst (v.2.map optN))) y9 y10 y11 (by lia) (λq hq=>he q (List.mem_cons_of_mem _ hq))
  obtain⟨x6',x7',x8',x9',x10',x11',ih⟩:=ih
  refine⟨x6',x7',x8',x9',x10',x11',?_⟩
  generalize (D.tup [.tup (P.map Part.enc),.tup (Q.map Player.enc),X,Y,Z])=B at *
  rw[List.map_cons,List.flatMap_cons,foldU_app,hval]
  dsimp only
  rw[←ih]
  refine forL_nx ?_
  have e1:=ix_enc hval
  unfold wayD at e1
  generalize candsE (okV P Q j) ps (hireP h j) (likeP ls j) j e.1 v=cd at *
  generalize takings (okV P Q j) ps e.1=ts at *
  generalize tN e.1=ke at *
  generalize v.2.map optN=cc at *
  simp[bodyF,b_next_ways_2,e1,t1,hin]
theorem next_ways (n:Nat) (P:List Part) (Q:List Player) (X Y Z:D) (ps:List (Nat×Nat)) (hv:∀p∈P,(signs p.voice).length=1) (h:List Int) (ls:List (List Int)) (j:Nat) (hq:j < Q.length) (hj:j < h.length) (hj2:j < ls.length) (hr:(ls.getD j []).length=P.length) (ways:List (List Nat×Way))
 (hw:ways.length≤256) (he:∀e∈ways,(∃v,valL ways e.1=some v∧v.2.length≤100)∧e.1.length≤8∧∀p∈e.1,p < P.length) :
 callF T dfs (n+3) 14 [.tup [.tup (P.map Part.enc),.tup (Q.map Player.enc),X,Y,Z],.lst (ps.map pairD),pricesD h ls,.int (j:Int),.tdc (encL ways)]=.ok (.tdc (encL (nextV (okV P Q j) ps (hireP h j) (likeP ls j) j ways))):=by
 obtain⟨x6,x7,x8,x9,x10,x11,hl⟩:=next_out n P Q X Y Z ps hv h ls j hq hj hj2 hr ways ways [] .no .no .no .no .no .no (by simp;lia) he
 have e0:encL []=[]:=rfl
 rw[e0] at hl
 have e1:=dkeys_enc ways
 refine callF_rt (k:=false) rfl rfl rfl ?_
 unfold nextV candsV
 generalize encL (foldU [] _)=r at *
 generalize (D.tup [.tup (P.map Part.enc),.tup (Q.map Player.enc),X,Y,Z])=B at *
 generalize (ways.map λe=>tN e.1)=ks at *
 generalize encL ways=ew at *
 generalize pricesD h ls=pr at *
 have dd:(D.tdc r).isDct=true:=rfl
 simp[b_next_ways,e1,hl,dd]
noncomputable def cstV (P:List Part) (Q:List Player) (ps:List (Nat×Nat)) (h:List Int) (ls:List (List Int)):Cst:=⟨P.length,okV P Q,ps,hireP h,likeP ls⟩
theorem mem_val {L:List (List Nat×Way)} {e:List Nat×Way} (h:e∈L):∃v,valL L e.1=some v:=by
 unfold valL
 cases q:L.find? λx=>decide (x.1=e.1) with
 | some x=>exact⟨x.2,rfl⟩
 | none =>
  have:=List.find?_eq_none.mp q e h
  simp at this
theorem layer_key {B:Cst} {k:Nat} {e:List Nat×Way} (h:e∈layerV B k):(∃v,valL (layerV B k) e.1=some v∧v.2.length=B.many)∧e.1.length≤B.many∧∀p∈e.1,p < B.many:=by
 obtain⟨v,hv⟩:=mem_val h
 obtain⟨h1,h2,_⟩:=layer_sound B k hv
 refine⟨⟨v,hv,h1.len⟩,?_,λp hp=>?_⟩
 ·rw[h2]
  exact Nat.le_trans (List.length_filter_le _ _) (Nat.le_of_eq List.length_range)
 ·rw[h2] at hp
  exact (mem_left.mp hp).1
theorem nodup_subL:∀ {l U:List (List Nat)},l.Nodup→(∀x∈l,x∈U)→l.length≤U.length
 | [],U,_,_=>Nat.zero_le _
 | a::r,U,h,hs=>by
  rw[List.nodup_cons] at h
  have ha:=hs a List.mem_cons_self
  have:=nodup_subL (l:=r) (U:=U.erase a) h.2 λx hx=>(List.mem_erase_of_ne (λe:x=a=>h.1 (e▸hx))).mpr (hs x (List.mem_cons_of_mem _ hx))
  rw[List.length_erase_of_mem ha] at this
  have:=List.length_pos_of_mem ha
  rw[List.length_cons];lia
theorem upd_nd {L:List (List Nat×Way)} (k:List Nat) (v:Way) (h:(L.map (·.1)).Nodup):((updL L k v).map (·.1)).Nodup:=by
 have p:((putL L k v).map (·.1)).Nodup:=by
  unfold putL
  by_cases q:(L.any λe=>decide (e.1=k))=true
  ·rw[if_pos q,List.map_map,show ((λe:List Nat×Way=>e.1)∘λe=>if e.1=k then (e.1,v) else e)=λe=>e.1 from funext λe=>by
    show (if e.1=k then (e.1,v) else e).1=e.1
    split<;>rfl]
   exact h
  ·rw[if_neg q,List.map_append]
   refine List.nodup_append.mpr ⟨h,List.nodup_cons.mpr ⟨(λz=>nomatch z),List.nodup_nil⟩,λa ha b hb=>?_⟩
   rw[List.mem_singleton.mp hb]
   obtain⟨e,he,rfl⟩:=List.mem_map.mp ha
   exact λz=>q (List.any_eq_true.mpr ⟨e,he,decide_eq_true z⟩)
 unfold updL
 cases valL L k with
 | none=>exact p
 | some w =>
  dsimp only
  split
  ·exact p
  ·exact h
theorem foldU_nd:∀(cs:List (List Nat×Way)) {L:List (List Nat×Way)},(L.map (·.1)).Nodup→((foldU L cs).map (·.1)).Nodup
 | [],L,h=>h
 | c::cs,L,h=>foldU_nd cs (upd_nd c.1 c.2 h)
theorem layer_len (B:Cst) (hm:B.many≤8) (k:Nat):(layerV B k).length≤256:=by
 have nd:((layerV B k).map (·.1)).Nodup:=by
  cases k with
  | zero=>exact List.nodup_cons.mpr ⟨(λz=>nomatch z),List.nodup_nil⟩
  | succ k=>exact foldU_nd _ List.nodup_nil
 have sub:∀x∈(layerV B k).map (·.1),x∈takings (λ_=>true) [] (List.range B.many):=λx hx=>by
  obtain⟨e,he,rfl⟩:=List.mem_map.mp hx
  obtain⟨v,hv⟩:=mem_val he
  rw[(layer_sound B k hv).2.1]
  refine (mem_takings rfl).mpr ⟨List.filter_sublist,(λ_ _=>rfl),?_⟩
  exact List.pairwise_of_forall λ_ _ z=>nomatch z
 have h1:=nodup_subL nd sub
 rw[List.length_map] at h1
 exact Nat.le_trans h1 (Nat.le_trans (takings_len rfl) (by rw[List.length_range];exact Nat.pow_le_pow_right (n:=2) (j:=8) (by lia) hm))
theorem trng_nat {n:Nat} (h:n≤1000):trngR (.int (n:Int))=.ok (tN (List.range n)):=by
 show when (small62 (n:Int)&&decide ((n:Int)≤1000)) (Res.ok (D.tup (rangeD 0 (n:Int).toNat)))=_
 rw[when_of (by unfold small62;simp;lia),Int.toNat_natCast,show (0:Int)=((0:Nat):Int) from rfl,rangeD_nat,List.range_eq_range'];rfl
@[simp] theorem fr_dlit {a b:E}:freshE T (.dlit a b)=false:=id rfl
theorem first_ways (n:Nat) (P:List Part) (A X Y Z:D) (hP:P.length≤8):callF T dfs (n+1) 13 [.tup [.tup (P.map Part.enc),A,X,Y,Z]]=.ok (.tdc (encL [(List.range P.length,((0:Int),List.replicate P.length none))])):=by
 have e1:=trng_nat (n:=P.length) (by lia)
 have e2:D.bin .Mult (.lst [.non]) (.int (P.length:Int))=.ok (.lst ((List.replicate P.length (none:Option Nat)).map optN)):=by
  show when (decide (1=1)&&decide ((0:Int)≤(P.length:Int))&&decide ((P.length:Int)≤1000)) (Res.ok (D.lst (List.replicate (P.length:Int).toNat [D.non]).flatten))=_
  rw[when_of (by simp;lia),List.map_replicate]
  refine congrArg (λq=>Res.ok (D.lst q)) ?_
  show (List.replicate P.length [D.non]).flatten=List.replicate P.length D.non
  generalize P.length=m
  induction m with
  | zero=>rfl
  | succ m ih=>rw[List.replicate_succ,List.flatten_cons,ih];rfl
 have e3:dlitR (tN (List.range P.length)) (.tup [.int 0,.lst ((List.replicate P.length (none:Option Nat)).map optN)])=.ok (.tdc (encL [(List.range P.length,((0:Int),List.replicate P.length none))])):=by
  show (Res.of (keysI ((List.range P.length).map natI))>>=λq=>Res.ok (D.tdc [(q,_)]))=_
  rw[keysI_nat];rfl
 have ln:=run_len_map (f:=Part.enc) (xs:=P)
 refine callF_rt (k:=false) rfl rfl rfl ?_
 generalize encL [(List.range P.length,((0:Int),List.replicate P.length none))]=r at *
 generalize (List.replicate P.length (none:Option Nat)).map optN=cc at *
 generalize tN (List.range P.length)=tr at *
 generalize (P.map Part.enc)=pe at *
 generalize P.length=m at *
 simp[b_first_ways,ln,e1,e2,e3]
theorem ix_last (a:List D) (x:D):D.ix (.lst (a++[x])) (.int (-1))=.ok x:=by
 show Res.of (atI (a++[x]) (-1))=_
 unfold atI ixN
 rw[if_neg (by lia),List.length_append,List.length_singleton,if_pos (by lia)]
 have:((-1:Int)+((a.length+1:Nat):Int)).toNat=a.length:=by lia
 rw[this]
 simp[Res.of]
theorem ways_loop (n:Nat) (P:List Part) (Q:List Player) (X Y Z:D) (ps:List (Nat×Nat)) (hv:∀p∈P,(signs p.voice).length=1) (h:List Int) (ls:List (List Int)) (hP:P.length≤8) (hQ:Q.length≤6) (hh:h.length=Q.length) (hls:ls.length=Q.length) (hr:∀r∈ls,r.length=P.length):∀(m k:Nat) (x4:Sl),k+m=Q.length →
 ∃x4',forL (bodyF T (callF T dfs (n+3)) (.one 4) b_all_ways_1) ((List.range' k m).map natI) [.v (.tup [.tup (P.map Part.enc),.tup (Q.map Player.enc),X,Y,Z]),.v (pricesD h ls),.v (.lst (ps.map pairD)),.o (.lst ((List.range (k+1)).map λi=>.tdc (encL (layerV (cstV P Q ps h ls) i)))),x4] =
  .ok (.nx [.v (.tup [.tup (P.map Part.enc),.tup (Q.map Player.enc),X,Y,Z]),.v (pricesD h ls),.v (.lst (ps.map pairD)),.o (.lst ((List.range (Q.length+1)).map λi=>.tdc (encL (layerV (cstV P Q ps h ls) i)))),x4'])
 | 0,k,x4,hk=>⟨x4,by rw[←hk];rfl⟩
 | m+1,k,x4,hk=>by
  have hb:=ten_big
  obtain⟨x4',ih⟩:=ways_loop n P Q X Y Z ps hv h ls hP hQ hh hls hr m (k+1) (.v (.int (k:Int))) (by lia)
  refine⟨x4',?_⟩
  rw[List.range'_succ,List.map_cons,←ih]
  refine forL_nx ?_
  have hk2:k < ls.length:=by lia
  have hrow:(ls.getD k []).length=P.length:=by
   rw[List.getD_eq_getElem?_getD,List.getElem?_eq_getElem hk2]
   exact hr _ (List.getElem_mem hk2)
  have ll:=layer_len (cstV P Q ps h ls) hP k
  have nx:=next_ways n P Q X Y Z ps hv h ls k (by lia) (by lia) hk2 hrow (layerV (cstV P Q ps h ls) k) ll (λe he=>by
   obtain⟨⟨v,h1,h2⟩,h3,h4⟩:=layer_key he
   refine⟨⟨v,h1,?_⟩,?_,h4⟩
   ·rw[h2];show P.length≤100;lia
   ·exact Nat.le_trans h3 hP)
  have e1:=ix_last ((List.range k).map λi=>D.tdc (encL (layerV (cstV P Q ps h ls) i))) (.tdc (encL (layerV (cstV P Q ps h ls) k)))
  rw[show nextV (okV P Q k) ps (hireP h k) (likeP ls k) k (layerV (cstV P Q ps h ls) k)=layerV (cstV P Q ps h ls) (k+1) from rfl] at nx
  have hA:∀k:Nat,(List.range (k+1)).map (λi=>D.tdc (encL (layerV (cstV P Q ps h ls) i)))=(List.range k).map (λi=>D.tdc (encL (layerV (cstV P Q ps h ls) i)))++[D.tdc (encL (layerV (cstV P Q ps h ls) k))]:=λk=>by rw[List.range_succ,List.map_append,List.map_singleton]
  rw[←hA k] at e1
  rw[hA (k+1)]
  have la:((List.range (k+1)).map (λi=>D.tdc (encL (layerV (cstV P Q ps h ls) i)))).length < big:=by rw[List.length_map,List.length_range];lia
  clear hA ih
  generalize (List.range (k+1)).map (λi=>D.tdc (encL (layerV (cstV P Q ps h ls) i)))=A at *
  generalize encL (layerV (cstV P Q ps h ls) k)=l0 at *
  generalize encL (layerV (cstV P Q ps h ls) (k+1))=l1 at *
  generalize (D.tup [.tup (P.map Part.enc),.tup (Q.map Player.enc),X,Y,Z])=B at *
  generalize pricesD h ls=pr at *
  simp[bodyF,b_all_ways_1,natI,e1,nx,la]
theorem all_ways (n:Nat) (P:List Part) (Q:List Player) (Y Z:D) (ss:List Scene) (hs:ss.length≤24) (hv:∀p∈P,(signs p.voice).length=1) (h:List Int) (ls:List (List Int)) (hP:P.length≤8) (hQ:Q.length≤6) (hh:h.length=Q.length) (hls:ls.length=Q.length) (hr:∀r∈ls,r.length=P.length) :
 callF T dfs (n+6) 15 [.tup [.tup (P.map Part.enc),.tup (Q.map Player.enc),.tup (ss.map Scene.enc),Y,Z],pricesD h ls] =
  .ok (.lst ((List.range (Q.length+1)).map λi=>.tdc (encL (layerV (cstV P Q ((pairsOf P.length).filter λp=>(reasonOf P ss p.1 p.2).isSome) h ls) i)))):=by
 have hb:=ten_big
 have c:=clashes_of n (.tup (Q.map Player.enc)) Y Z P ss hs (by lia)
 have f:=first_ways (n+4) P (.tup (Q.map Player.enc)) (.tup (ss.map Scene.enc)) Y Z (by lia)
 generalize ((pairsOf P.length).filter λp=>(reasonOf P ss p.1 p.2).isSome)=ps at *
 obtain⟨x4,l⟩:=ways_loop (n+2) P Q (.tup (ss.map Scene.enc)) Y Z ps hv h ls hP hQ hh hls hr Q.length 0 .no (by lia)
 rw[show ((List.range (0+1)).map λi=>D.tdc (encL (layerV (cstV P Q ps h ls) i)))=[.tdc (encL [(List.range P.length,((0:Int),List.replicate P.length none))])] from rfl,←List.range_eq_range'] at l
 have rg:=rng_nat (n:=Q.length) (by lia)
 have ln:=run_len_map (f:=Player.enc) (xs:=Q)
 refine callF_rt (k:=true) rfl rfl rfl ?_
 generalize encL [(List.range P.length,((0:Int),List.replicate P.length none))]=l0 at *
 generalize ((List.range (Q.length+1)).map λi=>D.tdc (encL (layerV (cstV P Q ps h ls) i)))=A at *
 generalize pricesD h ls=pr at *
 generalize (Q.map Player.enc)=qe at *
 generalize (List.range Q.length).map natI=rq at *
 simp[b_all_ways,c,f,l,rg,ln]
theorem least_of (n:Nat) (P:List Part) (Q:List Player) (Y Z:D) (ss:List Scene) (hs:ss.length≤24) (hv:∀p∈P,(signs p.voice).length=1) (h:List Int) (ls:List (List Int)) (hP:P.length≤8) (hQ:Q.length≤6) (hh:h.length=Q.length) (hls:ls.length=Q.length) (hr:∀r∈ls,r.length=P.length) :
 callF T dfs (n+7) 16 [.tup [.tup (P.map Part.enc),.tup (Q.map Player.enc),.tup (ss.map Scene.enc),Y,Z],pricesD h ls] =
  .ok (((valL (layerV (cstV P Q ((pairsOf P.length).filter λp=>(reasonOf P ss p.1 p.2).isSome) h ls) Q.length) []).map wayD).getD .non):=by
 have a:=all_ways n P Q Y Z ss hs hv h ls hP hQ hh hls hr
 have g:=get_enc (layerV (cstV P Q ((pairsOf P.length).filter λp=>(reasonOf P ss p.1 p.2).isSome) h ls) Q.length) []
 generalize (cstV P Q ((pairsOf P.length).filter λp=>(reasonOf P ss p.1 p.2).isSome) h ls)=C at *
 rw[List.range_succ,List.map_append,List.map_singleton] at a
 have e1:=ix_last ((List.range Q.length).map λi=>D.tdc (encL (layerV C i))) (.tdc (encL (layerV C Q.length)))
 rw[show tN []=.tup [] from rfl] at g
 refine callF_rt (k:=false) rfl rfl rfl ?_
 generalize (((List.range Q.length).map λi=>D.tdc (encL (layerV C i)))++[.tdc (encL (layerV C Q.length))])=A at *
 generalize encL (layerV C Q.length)=l0 at *
 generalize (((valL (layerV C Q.length) []).map wayD).getD .non)=r at *
 generalize pricesD h ls=pr at *
 have fr:∀a b,freshE T (.getV a b)=false:=λ_ _=>rfl
 simp[b_least_of,a,e1,g,fr]
theorem sum_part (f:Nat→Nat) (g:Nat→Int) (n:Nat):∀l:List Nat,((l.filter λp=>decide (f p < n+1)).map g).sum=((l.filter λp=>decide (f p < n)).map g).sum+((l.filter λp=>decide (f p=n)).map g).sum
 | []=>rfl
 | p::l=>by
  have ih:=sum_part f g n l
  rw[List.filter_cons,List.filter_cons,List.filter_cons]
  rcases Nat.lt_trichotomy (f p) n with c | c | c
  ·rw[if_pos (decide_eq_true (by lia)),if_pos (decide_eq_true c),if_neg (by simp;lia),List.map_cons,List.map_cons,List.sum_cons,List.sum_cons,ih];lia
  ·rw[if_pos (decide_eq_true (by lia)),if_neg (by simp;lia),if_pos (decide_eq_true c),List.map_cons,List.map_cons,List.sum_cons,List.sum_cons,ih];lia
  ·rw[if_neg (by simp;lia),if_neg (by simp;lia),if_neg (by simp;lia),ih]
theorem at_some {ws:List Nat} {p:Nat} (h:p < ws.length):atC (ws.map some) p=some (ws.getD p 0):=by
 unfold atC
 rw[List.getD_eq_getElem?_getD,List.getElem?_map,List.getElem?_eq_getElem h,List.getD_eq_getElem?_getD,List.getElem?_eq_getElem h];rfl
theorem mem_getD {ws:List Nat} {x:Nat}:x∈ws↔∃p,p < ws.length∧ws.getD p 0=x:=by
 rw[List.mem_iff_getElem]
 constructor
 ·rintro⟨p,hp,rfl⟩
  exact⟨p,hp,by rw[List.getD_eq_getElem?_getD,List.getElem?_eq_getElem hp];rfl⟩
 ·rintro⟨p,hp,rfl⟩
  exact⟨p,hp,by rw[List.getD_eq_getElem?_getD,List.getElem?_eq_getElem hp];rfl⟩
theorem price_both (C:Cst) (ws:List Nat) (hl:ws.length=C.many):∀n,priceV C (ws.map some) n=(((List.range n).filter λk=>decide (k∈ws)).map C.hire).sum+(((List.range C.many).filter λp=>decide (ws.getD p 0 < n)).map λp=>C.like (ws.getD p 0) p).sum
 | 0=>by
  have:((List.range C.many).filter λp=>decide (ws.getD p 0 < 0))=[]:=List.filter_eq_nil_iff.mpr λp _=>by simp
  rw[this];rfl
 | n+1=>by
  have ih:=price_both C ws hl n
  have e1:partsOf C.many n (ws.map some)=(List.range C.many).filter λp=>decide (ws.getD p 0=n):=by
   unfold partsOf
   refine List.filter_congr λp hp=>?_
   rw[at_some (by rw[hl];exact List.mem_range.mp hp)]
   simp
  have e2:(((List.range C.many).filter λp=>decide (ws.getD p 0=n)).map (C.like n))=((List.range C.many).filter λp=>decide (ws.getD p 0=n)).map λp=>C.like (ws.getD p 0) p:=by
   refine List.map_congr_left λp hp=>?_
   rw[of_decide_eq_true (List.mem_filter.mp hp).2]
  rw[priceV,ih,e1,sum_part,List.range_succ,List.filter_append,List.map_append,List.sum_append]
  unfold ptak
  by_cases c:n∈ws
  ·obtain⟨p,hp,hx⟩:=mem_getD.mp c
   have ne:¬((List.range C.many).filter λp=>decide (ws.getD p 0=n))=[]:=λz=>by
    have:p∈((List.range C.many).filter λp=>decide (ws.getD p 0=n)):=List.mem_filter.mpr ⟨List.mem_range.mpr (by lia),decide_eq_true hx⟩
    rw[z] at this;cases this
   rw[if_neg ne,e2,List.filter_cons,if_pos (decide_eq_true c)]
   simp only[List.filter_nil,List.map_cons,List.map_nil,List.sum_cons,List.sum_nil]
   lia
  ·have nil:((List.range C.many).filter λp=>decide (ws.getD p 0=n))=[]:=List.filter_eq_nil_iff.mpr λp hp=>by
    rw[decide_eq_true_eq]
    exact λz=>c (mem_getD.mpr ⟨p,by rw[hl];exact List.mem_range.mp hp,z⟩)
   rw[if_pos nil,nil,List.filter_cons,if_neg (by simpa using c)]
   simp only[List.filter_nil,List.map_nil,List.sum_nil]
   lia
theorem price_law {P:List Part} {Q:List Player} {ps:List (Nat×Nat)} {h:List Int} {ls:List (List Int)} {ws:List Nat} (hP:P.length=ws.length) (h6:h.length≤8) (wt:∀w∈ws,w < h.length):hiredV h ws+likedV ls ws=priceV (cstV P Q ps h ls) (ws.map some) h.length:=by
 rw[price_both (cstV P Q ps h ls) ws hP.symm h.length]
 have e1:=nums_range (l:=ws) (p:=h.length) h6 wt
 have e2:((List.range (cstV P Q ps h ls).many).filter λp=>decide (ws.getD p 0 < h.length))=List.range ws.length:=by
  show ((List.range P.length).filter λp=>decide (ws.getD p 0 < h.length))=_
  rw[hP]
  refine List.filter_eq_self.mpr λp hp=>decide_eq_true (wt _ (mem_getD.mpr ⟨p,List.mem_range.mp hp,rfl⟩))
 rw[e1,e2];rfl
noncomputable def clL (P:List Part) (ss:List Scene):Nat→List (Nat×Nat)
 | 0=>[]
 | m+1=>clL P ss m++((List.range m).filter λi=>(reasonOf P ss i m).isSome).map λi=>(i,m)
theorem mem_clL {P:List Part} {ss:List Scene}:∀ {m:Nat} {p:Nat×Nat},p∈clL P ss m↔p.1 < p.2∧p.2 < m∧(reasonOf P ss p.1 p.2).isSome=true
 | 0,p=>⟨λh=>(nomatch h),λh=>absurd h.2.1 (by lia)⟩
 | m+1,p=>by
  rw[clL,List.mem_append,mem_clL (m:=m),List.mem_map]
  constructor
  ·rintro (⟨h1,h2,h3⟩ | ⟨i,hi,rfl⟩)
   ·exact⟨h1,by lia,h3⟩
   ·obtain⟨h1,h2⟩:=List.mem_filter.mp hi
    exact⟨List.mem_range.mp h1,Nat.lt_succ_self _,h2⟩
  ·rintro⟨h1,h2,h3⟩
   by_cases c:p.2 < m
   ·exact .inl ⟨h1,c,h3⟩
   ·have:p.2=m:=by lia
    refine .inr ⟨p.1,List.mem_filter.mpr ⟨List.mem_range.mpr (by lia),by rw[←this];exact h3⟩,by rw[←this]⟩
theorem clL_len (P:List Part) (ss:List Scene):∀m,(clL P ss m).length≤m*m
 | 0=>Nat.le_refl _
 | m+1=>by
  have h1:=clL_len P ss m
  have h2:=List.length_filter_le (λi=>(reasonOf P ss i m).isSome) (List.range m)
  rw[List.length_range] at h2
  rw[clL,List.length_append,List.length_map,Nat.mul_add,Nat.add_mul];lia
theorem clashes_loop (n:Nat) (P:List Part) (A Y Z:D) (ss:List Scene) (hs:ss.length≤24) (g:∀s∈ss,0≤s.len∧0≤s.pause) (hP:P.length≤8):∀(m k:Nat) (x2:Sl),k+m=P.length →
 ∃x2',forL (bodyF T (callF T dfs (n+1)) (.one 2) b_clashes_3) ((List.range' k m).map natI) [.v (.tup [.tup (P.map Part.enc),A,.tup (ss.map Scene.enc),Y,Z]),.v (.lst ((clL P ss k).map pairD)),x2] =
  .ok (.nx [.v (.tup [.tup (P.map Part.enc),A,.tup (ss.map Scene.enc),Y,Z]),.v (.lst ((clL P ss P.length).map pairD)),x2'])
 | 0,k,x2,h=>⟨x2,by rw[←h];rfl⟩
 | m+1,k,x2,h=>by
  have hb:=ten_big
  obtain⟨x2',ih⟩:=clashes_loop n P A Y Z ss hs g hP m (k+1) (.v (.int (k:Int))) (by lia)
  refine⟨x2',?_⟩
  rw[List.range'_succ,List.map_cons,←ih]
  refine forL_nx ?_
  have rg:=rng_nat (n:=k) (by lia)
  have c:∀x1:Sl,compL (compF T (callF T dfs (n+1)) 1 [2,0] (.one 0) e_clashes_2 c_clashes_1 [.v (.tup [.tup (P.map Part.enc),A,.tup (ss.map Scene.enc),Y,Z]),x1,.v (.int (k:Int))]) ((List.range k).map natI)=.ok ((((List.range k).filter λi=>(reasonOf P ss i k).isSome).map λi=>(i,k)).map pairD):=by
   intro x1
   rw[compL_enc natI (λi=>if (reasonOf P ss i k).isSome=true then some (pairD (i,k)) else none) (by
    intro i hi
    have hik:=List.mem_range.mp hi
    have e1:=clash n P ss hs g i k (by lia) (by lia)
    unfold pairD
    dsimp only
    generalize (reasonOf P ss i k).isSome=b at *
    generalize P.map Part.enc=pe at *
    generalize ss.map Scene.enc=se at *
    cases b with
    | true=>simp[compF,Tr.compEnv,natI,c_clashes_1,e_clashes_2,e1]
    | false=>simp[compF,Tr.compEnv,natI,c_clashes_1,e_clashes_2,e1]),fm_ifL,List.map_map]
   rfl
  rw[clL,List.map_append]
  have l1:((clL P ss k).map pairD).length≤64:=by rw[List.length_map];exact Nat.le_trans (clL_len P ss k) (show k*k≤8*8 from Nat.mul_le_mul (by lia) (by lia))
  have l2:((((List.range k).filter λi=>(reasonOf P ss i k).isSome).map λi=>(i,k)).map pairD).length≤8:=by
   rw[List.length_map,List.length_map]
   exact Nat.le_trans (List.length_filter_le _ _) (by rw[List.length_range];lia)
  have l3:((List.range k).map natI).length≤big:=by rw[List.length_map,List.length_range];lia
  generalize (((List.range k).filter λi=>(reasonOf P ss i k).isSome).map λi=>(i,k)).map pairD=more at *
  generalize (clL P ss k).map pairD=old at *
  have ad:=add_lsts (a:=old) (b:=more) (by lia)
  generalize (D.tup [.tup (P.map Part.enc),A,.tup (ss.map Scene.enc),Y,Z])=B at *
  generalize (List.range k).map natI=rk at *
  simp[bodyF,b_clashes_3,natI,rg,c,l3,ad]
theorem law_clashes (n:Nat) (P:List Part) (A Y Z:D) (ss:List Scene) (hs:ss.length≤24) (g:∀s∈ss,0≤s.len∧0≤s.pause) (hP:P.length≤8) :
 callF T dfs (n+2) 39 [.tup [.tup (P.map Part.enc),A,.tup (ss.map Scene.enc),Y,Z]]=.ok (.lst ((clL P ss P.length).map pairD)):=by
 obtain⟨x2,h⟩:=clashes_loop n P A Y Z ss hs g hP P.length 0 .no (by lia)
 rw[←List.range_eq_range',show (clL P ss 0).map pairD=[] from rfl] at h
 have rg:=rng_nat (n:=P.length) (by lia)
 have ln:=run_len_map (f:=Part.enc) (xs:=P)
 refine callF_rt (k:=false) rfl rfl rfl ?_
 generalize (clL P ss P.length).map pairD=r at *
 generalize (List.range P.length).map natI=rk at *
 generalize P.map Part.enc=pe at *
 simp[b_law_clashes,rg,ln,h]
noncomputable def playsB (P:List Part) (Q:List Player) (cl:List (Nat×Nat)) (ws:List Nat):Bool:=((List.range ws.length).all λk=>okV P Q (ws.getD k 0) k)&&cl.all λp=>!decide (ws.getD p.1 0=ws.getD p.2 0)
theorem nat_at {ws:List Nat} {k:Nat} (h:k < ws.length):D.ix (.lst (ws.map natI)) (.int (k:Int))=.ok (natI (ws.getD k 0)):=ix_l (by
 rw[List.getElem?_map,List.getElem?_eq_getElem h,List.getD_eq_getElem?_getD,List.getElem?_eq_getElem h];rfl)
theorem nat_eq (a b:Nat):D.cmp .Eq (natI a) (natI b)=.ok (.bl (decide (a=b))):=by
 show D.cmp .Eq (optN (some a)) (.int (b:Int))=_
 rw[cast_eqi,show decide (some a=some b)=decide (a=b) from decide_eq_decide.mpr ⟨λh=>Option.some.inj h,λh=>congrArg some h⟩]
theorem plays_1 (n:Nat) (P:List Part) (Q:List Player) (X Y Z C:D) (hv:∀p∈P,(signs p.voice).length=1) (ws:List Nat) (wl:ws.length=P.length) (wt:∀w∈ws,w < Q.length) (x5 x6:Sl):∀(ks:List Nat) (x3 x4:Sl),(∀k∈ks,k < ws.length) →
 ((ks.all λk=>okV P Q (ws.getD k 0) k)=true∧∃x3' x4',forL (bodyF T (callF T dfs n) (.many [3,4]) b_plays_1) (ks.map λk:Nat=>D.tup [.int (k:Int),natI (ws.getD k 0)]) [.v (.tup [.tup (P.map Part.enc),.tup (Q.map Player.enc),X,Y,Z]),.v C,.v (.lst (ws.map natI)),x3,x4,x5,x6]=.ok (.nx [.v (.tup [.tup (P.map Part.enc),.tup (Q.map Player.enc),X,Y,Z]),.v C,.v (.lst (ws.map natI)),x3',x4',x5,x6])) ∨
 ((ks.all λk=>okV P Q (ws.getD k 0) k)=false∧forL (bodyF T (callF T dfs n) (.many [3,4]) b_plays_1) (ks.map λk:Nat=>D.tup [.int (k:Int),natI (ws.getD k 0)]) [.v (.tup [.tup (P.map Part.enc),.tup (Q.map Player.enc),X,Y,Z]),.v C,.v (.lst (ws.map natI)),x3,x4,x5,x6]=.ok (.rt (.bl false) false))
 | [],x3,x4,_=>.inl ⟨rfl,x3,x4,rfl⟩
 | k::ks,x3,x4,hk=>by
  have hkl:=hk k (List.mem_cons_self ..)
  have hkP:k < P.length:=by lia
  have hj:ws.getD k 0 < Q.length:=wt _ (mem_getD.mpr ⟨k,hkl,rfl⟩)
  have e1:=ps_at (List.getElem?_eq_getElem hkP)
  have e2:=qs_at (List.getElem?_eq_getElem hj)
  have e3:=notin_voices (p:=P[k]) (q:=Q[ws.getD k 0]) (hv _ (List.getElem_mem hkP))
  rw[←mayB_at hkP hj] at e3
  have ih:=plays_1 n P Q X Y Z C hv ws wl wt x5 x6 ks (.v (.int (k:Int))) (.v (natI (ws.getD k 0))) (λq hq=>hk q (List.mem_cons_of_mem _ hq))
  rw[List.all_cons,List.map_cons]
  unfold okV at ih ⊢
  generalize mayB P Q k (ws.getD k 0)=c at *
  generalize P[k]=pk at *
  generalize Q[ws.getD k 0]=qk at *
  generalize hw:ws.getD k 0=w at *
  unfold natI at ih ⊢
  cases c with
  | true =>
   rw[Bool.true_and]
   rcases ih with ⟨h1,y3,y4,h2⟩ | ⟨h1,h2⟩
   ·refine .inl ⟨h1,y3,y4,?_⟩
    rw[←h2]
    exact forL_nx (by simp[bodyF,b_plays_1,e1,e2,e3])
   ·refine .inr ⟨h1,?_⟩
    rw[←h2]
    exact forL_nx (by simp[bodyF,b_plays_1,e1,e2,e3])
  | false =>
   refine .inr ⟨rfl,forL_rt (by simp[bodyF,b_plays_1,e1,e2,e3])⟩
theorem plays_2 (n:Nat) (B C:D) (ws:List Nat) (x3 x4:Sl):∀(cl:List (Nat×Nat)) (x5 x6:Sl),(∀p∈cl,p.1 < ws.length∧p.2 < ws.length) →
 ((cl.all λp=>!decide (ws.getD p.1 0=ws.getD p.2 0))=true∧∃x5' x6',forL (bodyF T (callF T dfs n) (.many [5,6]) b_plays_2) (cl.map pairD) [.v B,.v C,.v (.lst (ws.map natI)),x3,x4,x5,x6]=.ok (.nx [.v B,.v C,.v (.lst (ws.map natI)),x3,x4,x5',x6'])) ∨
 ((cl.all λp=>!decide (ws.getD p.1 0=ws.getD p.2 0))=false∧forL (bodyF T (callF T dfs n) (.many [5,6]) b_plays_2) (cl.map pairD) [.v B,.v C,.v (.lst (ws.map natI)),x3,x4,x5,x6]=.ok (.rt (.bl false) false))
 | [],x5,x6,_=>.inl ⟨rfl,x5,x6,rfl⟩
 | p::cl,x5,x6,hp=>by
  have h0:=hp p (List.mem_cons_self ..)
  have e1:=nat_at h0.1
  have e2:=nat_at h0.2
  have e3:=nat_eq (ws.getD p.1 0) (ws.getD p.2 0)
  have ih:=plays_2 n B C ws x3 x4 cl (.v (.int (p.1:Int))) (.v (.int (p.2:Int))) (λq hq=>hp q (List.mem_cons_of_mem _ hq))
  rw[List.all_cons,List.map_cons]
  unfold pairD at ih ⊢
  generalize natI (ws.getD p.1 0)=a at *
  generalize natI (ws.getD p.2 0)=b at *
  generalize decide (ws.getD p.1 0=ws.getD p.2 0)=c at *
  cases c with
  | false =>
   rw[Bool.not_false,Bool.true_and]
   rcases ih with ⟨h1,y3,y4,h2⟩ | ⟨h1,h2⟩
   ·refine .inl ⟨h1,y3,y4,?_⟩
    rw[←h2]
    exact forL_nx (by simp[bodyF,b_plays_2,e1,e2,e3])
   ·refine .inr ⟨h1,?_⟩
    rw[←h2]
    exact forL_nx (by simp[bodyF,b_plays_2,e1,e2,e3])
  | true =>
   refine .inr ⟨rfl,forL_rt (by simp[bodyF,b_plays_2,e1,e2,e3])⟩
theorem law_plays (n:Nat) (P:List Part) (Q:List Player) (X Y Z:D) (cl:List (Nat×Nat)) (hv:∀p∈P,(signs p.voice).length=1) (ws:List Nat) (wl:ws.length=P.length) (wt:∀w∈ws,w < Q.length) (hc:∀p∈cl,p.1 < ws.length∧p.2 < ws.length) :
 callF T dfs (n+1) 40 [.tup [.tup (P.map Part.enc),.tup (Q.map Player.enc),X,Y,Z],.lst (cl.map pairD),.lst (ws.map natI)]=.ok (.bl (playsB P Q cl ws)):=by
 have en:=enum_nat ws
 have r1:=plays_1 n P Q X Y Z (.lst (cl.map pairD)) hv ws wl wt .no .no (List.range ws.length) .no .no (λk hk=>List.mem_range.mp hk)
 refine callF_rt (k:=false) rfl rfl rfl ?_
 unfold playsB
 generalize (D.tup [.tup (P.map Part.enc),.tup (Q.map Player.enc),X,Y,Z])=B at *
 generalize (List.range ws.length).map (λk:Nat=>D.tup [.int (k:Int),natI (ws.getD k 0)])=EE at *
 rcases r1 with ⟨h1,y3,y4,h2⟩ | ⟨h1,h2⟩
 ·have r2:=plays_2 n B (.lst (cl.map pairD)) ws y3 y4 cl .no .no hc
  rw[h1,Bool.true_and]
  generalize ws.map natI=wd at *
  generalize cl.map pairD=cd at *
  rcases r2 with ⟨h3,y5,y6,h4⟩ | ⟨h3,h4⟩
  ·rw[h3];simp[b_law_plays,en,h2,h4]
  ·rw[h3];simp[b_law_plays,en,h2,h4]
 ·rw[h1,Bool.false_and]
  generalize ws.map natI=wd at *
  generalize cl.map pairD=cd at *
  simp[b_law_plays,en,h2]
noncomputable def lN (b:List Nat):D:=.lst (b.map natI)
theorem law_book (n:Nat) (ns:List Int) (many pls:Nat) (hm:many≤8) (hp:pls≤6):∃(P:List Part) (Q:List Player) (ss:List Scene) (ls:List Lk),P.length=many∧(∀p∈P,(signs p.voice).length=1)∧Q.length=pls∧ss.length≤12∧(∀s∈ss,GoodScene many s)∧GoodL pls many ls∧callF T dfs (n+3) 37 [.lst (ns.map D.int),.int (many:Int),.int (pls:Int),.int 12]=.ok (bookK (.tup (ss.map Scene.enc)) P Q ls):=by
 obtain⟨P,p1,p2,p3⟩:=parts n (cellV ns 1) many hm
 obtain⟨Q,q1,q2⟩:=players n (cellV ns 2) pls hp
 obtain⟨ls,l1,l2⟩:=likes n (cellV ns 3) pls many hp hm
 have c1:=cell_at (n+1) ns 1
 rw[show ((1:Nat):Int)=1 from rfl] at c1
 have c2:=cell_at (n+1) ns 2
 rw[show ((2:Nat):Int)=2 from rfl] at c2
 have c3:=cell_at (n+1) ns 3
 rw[show ((3:Nat):Int)=3 from rfl] at c3
 obtain⟨cells,hcells,hlen⟩:∃cells:List Int,cut (ns.map D.int) (some 6) (some 18)=cells.map D.int∧cells.length≤12:=by
  refine⟨cut ns (some 6) (some 18),by unfold cut sIx;simp,by unfold cut sIx;simp;lia⟩
 obtain⟨ss,s1,s2,s3⟩:=scenes n cells (by lia) many hm
 refine⟨P,Q,ss,ls,p1,λp hp=>(p2 p hp).2,q1,by lia,s2,l1,callF_rt (k:=false) rfl rfl rfl ?_⟩
 unfold bookK
 simp[b_law_book,c1,p3,c2,q2,c3,l2,hcells,s3]
theorem left_some (ws:List Nat):leftOf ws.length (ws.map some)=[]:=by
 unfold leftOf
 refine List.filter_eq_nil_iff.mpr λp hp=>?_
 rw[at_some (List.mem_range.mp hp)]
 simp
theorem plays_pcs {P:List Part} {Q:List Player} {ss:List Scene} {h:List Int} {ls:List (List Int)} {ws:List Nat} (wl:ws.length=P.length) (wt:∀w∈ws,w < Q.length) :
 playsB P Q (clL P ss P.length) ws=true↔Pcs (cstV P Q ((pairsOf P.length).filter λp=>(reasonOf P ss p.1 p.2).isSome) h ls) Q.length (ws.map some):=by
 unfold playsB
 rw[Bool.and_eq_true,List.all_eq_true,List.all_eq_true]
 have at':∀ {p pl:Nat},p < P.length→(atC (ws.map some) p=some pl↔ws.getD p 0=pl):=λ{p pl} hp=>by
  rw[at_some (by lia)]
  exact⟨λz=>Option.some.inj z,λz=>congrArg some z⟩
 constructor
 ·rintro⟨h1,h2⟩
  refine⟨by rw[List.length_map];exact wl,λp hp pl e=>?_,λp hp pl e=>?_,λp q hpq hq pl e1 e2 hc=>?_⟩
  ·rw[←(at' hp).mp e]
   exact wt _ (mem_getD.mpr ⟨p,by rw[wl];exact hp,rfl⟩)
  ·rw[←(at' hp).mp e]
   exact h1 p (List.mem_range.mpr (by rw[wl];exact hp))
  ·have hq:q < P.length:=hq
   have:=h2 (p,q) (mem_clL.mpr ⟨hpq,hq,(List.mem_filter.mp hc).2⟩)
   rw[(at' (by lia)).mp e1,(at' hq).mp e2] at this
   simp at this
 ·intro C
  refine⟨λk hk=>?_,λp hp=>?_⟩
  ·have hk:k < P.length:=by have:=List.mem_range.mp hk;lia
   exact C.ok k hk _ ((at' hk).mpr rfl)
  ·obtain⟨h1,h2,h3⟩:=mem_clL.mp hp
   have ne:¬ws.getD p.1 0=ws.getD p.2 0:=λz=>C.apart p.1 p.2 h1 h2 _ ((at' (by lia)).mpr rfl) ((at' h2).mpr z.symm) (List.mem_filter.mpr ⟨mem_pairsOf h1 h2,h3⟩)
   rw[decide_eq_false ne];rfl
theorem pcs_some {C:Cst} {k:Nat} {c:List (Option Nat)} (hc:Pcs C k c) (hl:leftOf C.many c=[]):∃ws:List Nat,c=ws.map some∧ws.length=C.many∧∀w∈ws,w < k:=by
 have all:∀p,p < C.many→∃pl,atC c p=some pl:=λp hp=>by
  cases q:atC c p with
  | some pl=>exact⟨pl,rfl⟩
  | none =>
   have:p∈leftOf C.many c:=mem_left.mpr ⟨hp,q⟩
   rw[hl] at this;cases this
 have sm:∀o∈c,∃pl,o=some pl∧pl < k:=λo ho=>by
  obtain⟨p,hp,rfl⟩:=List.mem_iff_getElem.mp ho
  have hpm:p < C.many:=by rw[←hc.len];exact hp
  obtain⟨pl,e⟩:=all p hpm
  have e':atC c p=c[p]:=by unfold atC;rw[List.getD_eq_getElem?_getD,List.getElem?_eq_getElem hp];rfl
  exact⟨pl,by rw[←e'];exact e,hc.lt p hpm pl e⟩
 refine⟨c.map λo=>o.getD 0,?_,by rw[List.length_map];exact hc.len,λw hw=>?_⟩
 ·rw[List.map_map]
  conv=>lhs;rw[←List.map_id c]
  refine List.map_congr_left λo ho=>?_
  obtain⟨pl,rfl,_⟩:=sm o ho
  rfl
 ·obtain⟨o,ho,rfl⟩:=List.mem_map.mp hw
  obtain⟨pl,rfl,hp⟩:=sm o ho
  exact hp
theorem filter_subs (p:Nat→Bool):∀l:List Nat,l.filter p∈subsN l
 | []=>List.mem_singleton.mpr rfl
 | a::r=>by
  rw[subsN,List.filter_cons]
  split
  ·exact List.mem_append_right _ (List.mem_map.mpr ⟨_,filter_subs p r,rfl⟩)
  ·exact List.mem_append_left _ (filter_subs p r)
theorem tab_all:∀m,m < 7→((subsN (List.range m)).all λk=>keyTab.contains k)=true:=by decide +kernel
theorem tab_len:∀m,m < 7→decide ((subsN (List.range m)).length≤64)=true:=by decide +kernel
theorem nats_nat:∀k:List Nat,natsOf (k.map natI)=some k
 | []=>rfl
 | a::r=>by
  rw[List.map_cons]
  show (if decide (0≤(a:Int)) then (natsOf (r.map natI)).bind λq=>some ((a:Int).toNat::q) else none)=_
  rw[if_pos (decide_eq_true (Int.natCast_nonneg a)),nats_nat r];rfl
theorem pairOf_tN {k:List Nat} (h:keyTab.contains k=true):pairOf (tN k)=some k:=by
 show ((natsOf (k.map natI)).bind λk=>if keyTab.contains k then some k else none)=_
 rw[nats_nat]
 show (if keyTab.contains k then some k else none)=_
 rw[if_pos h]
theorem prsOf_tN:∀ {ks:List (List Nat)},(∀k∈ks,keyTab.contains k=true)→prsOf (ks.map tN)=some ks
 | [],_=>rfl
 | k::r,h=>by
  rw[List.map_cons,prsOf,pairOf_tN (h k List.mem_cons_self),prsOf_tN λx hx=>h x (List.mem_cons_of_mem _ hx)];rfl
theorem nodupP_of:∀ {ks:List (List Nat)},ks.Nodup→nodupP ks=true
 | [],_=>rfl
 | k::r,h=>by
  obtain⟨h1,h2⟩:=List.nodup_cons.mp h
  rw[nodupP,nodupP_of h2,Bool.and_true,Bool.not_eq_true']
  cases e:r.contains k with
  | false=>rfl
  | true=>exact absurd (List.contains_iff_mem.mp e) h1
theorem setN_tN {ks:List (List Nat)} (h1:∀k∈ks,keyTab.contains k=true) (h2:ks.Nodup) (h3:ks.length≤72):D.setN (.lst (ks.map tN))=.ok (.int (ks.length:Nat)):=by
 have e:=prsOf_tN h1
 have e2:=nodupP_of h2
 cases ks with
 | nil=>rfl
 | cons k r =>
  show (match prsOf ((k::r).map tN) with | some ps=>when (nodupP ps&&decide (ps.length≤72)) (Res.ok (D.int ps.length)) | none=>Res.no)=_
  rw[e]
  show when (nodupP (k::r)&&decide ((k::r).length≤72)) _=_
  rw[e2,decide_eq_true h3];rfl
theorem are_unlike (n:Nat) {ks:List (List Nat)} (h1:∀k∈ks,keyTab.contains k=true) (h2:ks.Nodup) (h3:ks.length≤72):callF T dfs (n+1) 0 [.lst (ks.map tN)]=.ok (.bl true):=by
 have e:=setN_tN h1 h2 h3
 have l:Bt.run .len [.lst (ks.map tN)]=.ok (.int (ks.length:Nat)):=by rw[show Bt.run .len [.lst (ks.map tN)]=.ok (.int ((ks.map tN).length:Nat)) from rfl,List.length_map]
 refine callF_rt (k:=false) rfl rfl rfl ?_
 generalize ks.map tN=K at *
 simp[b_are_unlike,e,l]
noncomputable def rowP (e:List Nat×Way):D:=.tup [tN e.1,.int e.2.1]
noncomputable def layD (L:List (List Nat×Way)):D:=.lst (L.map rowP)
theorem val_of {L:List (List Nat×Way)} (nd:(L.map (·.1)).Nodup) {e:List Nat×Way} (h:e∈L):valL L e.1=some e.2:=by
 induction L with
 | nil=>cases h
 | cons a r ih =>
  rw[List.map_cons,List.nodup_cons] at nd
  unfold valL
  rw[List.find?_cons]
  rcases List.mem_cons.mp h with q | q
  ·subst q
   rw[decide_eq_true rfl];rfl
  ·have:¬a.1=e.1:=λz=>nd.1 (by rw[z];exact List.mem_map.mpr ⟨e,q,rfl⟩)
   rw[decide_eq_false this]
   exact ih nd.2 q
theorem layer_nd (B:Cst):∀k,((layerV B k).map (·.1)).Nodup
 | 0=>by rw[layerV];simp
 | k+1=>by rw[layerV];exact foldU_nd _ (by simp)
theorem layer_tab (B:Cst) (hm:B.many≤6) (k:Nat):(∀q∈(layerV B k).map (·.1),keyTab.contains q=true)∧(layerV B k).length≤64:=by
 have sub:∀q∈(layerV B k).map (·.1),q∈subsN (List.range B.many):=by
  intro q hq
  obtain⟨e,he,rfl⟩:=List.mem_map.mp hq
  obtain⟨_,h2,_⟩:=layer_sound B k (val_of (layer_nd B k) he)
  rw[h2];exact filter_subs _ _
 refine⟨λq hq=>List.all_eq_true.mp (tab_all B.many (by lia)) q (sub q hq),?_⟩
 have:=nodup_subL (layer_nd B k) sub
 rw[List.length_map] at this
 exact Nat.le_trans this (of_decide_eq_true (tab_len B.many (by lia)))
theorem layer_of (n:Nat) (L:List (List Nat×Way)) (nd:(L.map (·.1)).Nodup) (hl:L.length≤1000):callF T dfs (n+1) 17 [.tdc (encL L)]=.ok (layD L):=by
 have hb:=ten_big
 have dk:=dkeys_enc L
 have c:compL (compF T (callF T dfs n) 1 [0] (.one 0) e_layer_of_1 (.con (.bl true)) [.v (.tdc (encL L))]) (L.map λe=>tN e.1)=.ok (L.map rowP):=by
  rw[compL_enc (λe:List Nat×Way=>tN e.1) (λe=>some (rowP e)) (by
   intro e he
   have i1:=ix_enc (val_of nd he)
   rw[show wayD e.2=.tup [.int e.2.1,.lst (e.2.2.map optN)] from rfl] at i1
   unfold rowP
   generalize tN e.1=k at *
   generalize encL L=l at *
   simp[compF,Tr.compEnv,e_layer_of_1,i1]),List.filterMap_eq_map']
 have l2:(L.map λe=>tN e.1).length≤big:=by rw[List.length_map];lia
 refine callF_rt (k:=true) rfl rfl rfl ?_
 unfold layD
 generalize L.map rowP=R at *
 generalize (L.map λe=>tN e.1)=K at *
 generalize encL L=l at *
 simp[b_layer_of,dk,c,l2]
theorem paper_of (n:Nat) (P:List Part) (Q:List Player) (Y Z:D) (ss:List Scene) (hs:ss.length≤24) (hv:∀p∈P,(signs p.voice).length=1) (h:List Int) (ls:List (List Int)) (hP:P.length≤8) (hQ:Q.length≤6) (hh:h.length=Q.length) (hls:ls.length=Q.length) (hr:∀r∈ls,r.length=P.length) :
 callF T dfs (n+7) 18 [.tup [.tup (P.map Part.enc),.tup (Q.map Player.enc),.tup (ss.map Scene.enc),Y,Z],pricesD h ls] =
  .ok (.lst ((List.range (Q.length+1)).map λi=>layD (layerV (cstV P Q ((pairsOf P.length).filter λp=>(reasonOf P ss p.1 p.2).isSome) h ls) i))):=by
 have hb:=ten_big
 have a:=all_ways n P Q Y Z ss hs hv h ls hP hQ hh hls hr
 have hm:(cstV P Q ((pairsOf P.length).filter λp=>(reasonOf P ss p.1 p.2).isSome) h ls).many≤8:=hP
 generalize (cstV P Q ((pairsOf P.length).filter λp=>(reasonOf P ss p.1 p.2).isSome) h ls)=C at *
 have c:∀x0 x1:Sl,compL (compF T (callF T dfs (n+6)) 1 [] (.one 0) e_paper_of_1 (.con (.bl true)) [x0,x1]) ((List.range (Q.length+1)).map λi=>D.tdc (encL (layerV C i)))=.ok ((List.range (Q.length+1)).map λi=>layD (layerV C i)):=by
  intro x0 x1
  rw[compL_enc (λi:Nat=>D.tdc (encL (layerV C i))) (λi=>some (layD (layerV C i))) (by
   intro i _
   have e:=layer_of (n+5) (layerV C i) (layer_nd C i) (Nat.le_trans (layer_len C hm i) (by lia))
   generalize encL (layerV C i)=l at *
   generalize layD (layerV C i)=r at *
   simp[compF,Tr.compEnv,e_paper_of_1,e]),List.filterMap_eq_map']
 have l2:((List.range (Q.length+1)).map λi=>D.tdc (encL (layerV C i))).length≤big:=by rw[List.length_map,List.length_range];lia
 refine callF_rt (k:=true) rfl rfl rfl ?_
 generalize ((List.range (Q.length+1)).map λi=>D.tdc (encL (layerV C i)))=A at *
 generalize ((List.range (Q.length+1)).map λi=>layD (layerV C i))=R at *
 generalize pricesD h ls=pr at *
 simp[b_paper_of,a,c,l2]
theorem once_comp (n:Nat) (L:List (List Nat×Way)) (x0:Sl):compL (compF T (callF T dfs n) 2 [] (.many [0,1]) e_has_each_left_once_1 (.con (.bl true)) [x0]) (L.map rowP)=.ok ((L.map (·.1)).map tN):=by
 rw[compL_enc rowP (λe=>some (tN e.1)) (by
  intro e _
  unfold rowP
  generalize tN e.1=k at *
  simp[compF,Tr.compEnv,e_has_each_left_once_1]),List.filterMap_eq_map',List.map_map]
 rfl
theorem has_once (n:Nat) (L:List (List Nat×Way)) (h1:∀q∈L.map (·.1),keyTab.contains q=true) (h2:(L.map (·.1)).Nodup) (h3:L.length≤64):callF T dfs (n+2) 20 [layD L]=.ok (.bl true):=by
 have hb:=ten_big
 have c:=once_comp (n+1) L (.v (layD L))
 have u:=are_unlike n h1 h2 (by rw[List.length_map];lia)
 have l2:(L.map rowP).length≤big:=by rw[List.length_map];lia
 refine callF_rt (k:=false) rfl rfl rfl ?_
 unfold layD at *
 generalize L.map rowP=R at *
 generalize (L.map (·.1)).map tN=K at *
 simp[b_has_each_left_once,c,u,l2]
theorem first_eq (m:Nat) (r:List (Option Nat)):D.cmp .Eq (layD [(List.range m,((0:Int),r))]) (.lst [.tup [tN (List.range m),.int 0]])=.ok (.bl true):=by
 have p:D.pl 30 (layD [(List.range m,((0:Int),r))])=true:=by
  show D.pl 30 (.lst [.tup [tN (List.range m),.int 0]])=true
  rw[pl_lst]
  show (D.pl 29 (.tup [tN (List.range m),.int 0])&&D.pls 30 [])=true
  rw[pl_tup]
  show ((D.pl 28 (tN (List.range m))&&(D.pl 28 (.int 0)&&D.pls 29 []))&&D.pls 30 [])=true
  rw[show D.pl 28 (tN (List.range m))=true from by unfold tN;rw[pl_tup];exact pls_map natI 27 (natI_pl 27) _];rfl
 exact cmp_same p
theorem has_layers (n:Nat) (P:List Part) (Q:List Player) (X Y Z:D) (C:Cst) (hm:C.many=P.length) (hP:P.length≤8) :
 callF T dfs (n+1) 19 [.tup [.tup (P.map Part.enc),.tup (Q.map Player.enc),X,Y,Z],.lst ((List.range (Q.length+1)).map λi=>layD (layerV C i))]=.ok (.bl true):=by
 have ln:=run_len_map (f:=Player.enc) (xs:=Q)
 have ln2:=run_len_map (f:=Part.enc) (xs:=P)
 have tr:=trng_nat (n:=P.length) (by lia)
 have e0:D.ix (.lst ((List.range (Q.length+1)).map λi=>layD (layerV C i))) (.int 0)=.ok (layD [(List.range P.length,((0:Int),List.replicate P.length none))]):=ix_l (i:=0) (by
  rw[List.getElem?_map,List.getElem?_range (by lia)]
  show some (layD (layerV C 0))=_
  rw[layerV,hm])
 have l3:Bt.run .len [.lst ((List.range (Q.length+1)).map λi=>layD (layerV C i))]=.ok (.int ((Q.length:Int)+1)):=by
  rw[show ∀a:List D,Bt.run .len [.lst a]=.ok (.int (a.length:Nat)) from λ_=>rfl,List.length_map,List.length_range];rfl
 have e1:=first_eq P.length (List.replicate P.length none)
 refine callF_rt (k:=false) rfl rfl rfl ?_
 generalize ((List.range (Q.length+1)).map λi=>layD (layerV C i))=A at *
 generalize layD [(List.range P.length,((0:Int),List.replicate P.length none))]=l0 at *
 generalize tN (List.range P.length)=r0 at *
 generalize Q.map Player.enc=qe at *
 generalize P.map Part.enc=pe at *
 simp[b_has_its_layers,ln,ln2,tr,e0,l3,e1]
noncomputable def encP (L:List (List Nat×Way)):List (List (Sum Int Str)×D):=L.map λe=>(keyW e.1,D.int e.2.1)
theorem val_encP (L:List (List Nat×Way)) (k:List Nat):valT (encP L) (keyW k)=(valL L k).map λv=>D.int v.1:=by
 unfold valT valL encP
 rw[List.find?_map,Option.map_map,Option.map_map]
 have e:((λkv:List (Sum Int Str)×D=>decide (kv.1=keyW k))∘λe:List Nat×Way=>(keyW e.1,D.int e.2.1))=λe=>decide (e.1=k):=by
  funext e;exact keyW_dec e.1 k
 rw[e];rfl
theorem in_encP {L:List (List Nat×Way)} {k:List Nat} {w:Way} (h:valL L k=some w):D.cmp .NotIn (tN k) (.tdc (encP L))=.ok (.bl false)∧D.ix (.tdc (encP L)) (tN k)=.ok (.int w.1):=by
 constructor
 ·show ((Res.of (keysI (k.map natI))>>=λq=>Res.ok (valT (encP L) q).isSome)>>=λb=>Res.ok (D.bl (!b)))=_
  rw[keysI_nat]
  show Res.ok (D.bl (!(valT (encP L) (keyW k)).isSome))=_
  rw[val_encP,h];rfl
 ·show (Res.of (keysI (k.map natI))>>=λq=>Res.of (valT (encP L) q))=_
  rw[keysI_nat]
  show Res.of (valT (encP L) (keyW k))=_
  rw[val_encP,h];rfl
theorem pairsR_lay:∀L:List (List Nat×Way),pairsR (L.map rowP)=.ok (encP L)
 | []=>rfl
 | e::r=>by
  rw[List.map_cons]
  show (Res.of (keysI (e.1.map natI))>>=λk=>pairsR (r.map rowP)>>=λq=>Res.ok ((k,D.int e.2.1)::q))=_
  rw[keysI_nat,pairsR_lay r];rfl
theorem putAllD_nd:∀(qs kvs:List (List (Sum Int Str)×D)),((kvs++qs).map (·.1)).Nodup→putAllD qs kvs=kvs++qs
 | [],kvs,_=>by rw[List.append_nil];rfl
 | q::r,kvs,h=>by
  have h':((kvs++[q]++r).map (·.1)).Nodup:=by rw[List.append_assoc];exact h
  have e:putTD kvs q.1 q.2=kvs++[q]:=by
   unfold putTD
   rw[if_neg]
   intro z
   obtain⟨x,hx,hz⟩:=List.any_eq_true.mp z
   have hz:=of_decide_eq_true hz
   rw[List.map_append,List.nodup_append] at h
   exact h.2.2 x.1 (List.mem_map.mpr ⟨x,hx,rfl⟩) q.1 (List.mem_map.mpr ⟨q,List.mem_cons_self,rfl⟩) hz
  show putAllD r (putTD kvs q.1 q.2)=_
  rw[e,putAllD_nd r _ h',List.append_assoc];rfl
theorem nodup_keyW:∀ {l:List (List Nat)},l.Nodup→(l.map keyW).Nodup
 | [],_=>.nil
 | a::r,h=>by
  obtain⟨h1,h2⟩:=List.nodup_cons.mp h
  refine List.nodup_cons.mpr ⟨λz=>?_,nodup_keyW h2⟩
  obtain⟨b,hb,e⟩:=List.mem_map.mp z
  exact h1 (keyW_inj e▸hb)
theorem dcl_lay {L:List (List Nat×Way)} (nd:(L.map (·.1)).Nodup):dclR (layD L)=.ok (.tdc (encP L)):=by
 show (pairsR (L.map rowP)>>=λqs=>Res.ok (D.tdc (putAllD qs [])))=_
 rw[pairsR_lay]
 show Res.ok (D.tdc (putAllD (encP L) []))=_
 rw[putAllD_nd _ _ (by
  rw[List.nil_append]
  unfold encP
  rw[List.map_map]
  have:=nodup_keyW nd
  rw[List.map_map] at this
  exact this)]
 rfl
theorem behind_loop (n:Nat) (B cd:D) (h:List Int) (ls:List (List Int)) (j:Nat) (hj:j < h.length) (hj2:j < ls.length) (left:List Nat) (hl:left.length≤100) (c:Int) (L:List (List Nat×Way)) (en:D):∀(ts:List (List Nat)) (x8 x9:Sl),
 (∀t∈ts,t.length≤100∧(∀p∈t,p < (ls.getD j []).length)∧∃w,valL L (behindV left t)=some w∧w.1≤c+ptak (hireP h j) (likeP ls j) t) →
 ∃ y8 y9, forL (bodyF T (callF T dfs (n + 1)) (.one 8) b_holds_behind_1) (ts.map tN) [.v B, .v cd, .v (pricesD h ls), .v (.int (j : Int)), .v en, .v (.tdc (encP L)), .v (tN left), .v (.int c), x8, x9] =
   .ok (.nx [.v B,.v cd,.v (pricesD h ls),.v (.int (j:Int)),.v en,.v (.tdc (encP L)),.v (tN left),.v (.int c),y8,y9])
 | [],x8,x9,_=>⟨x8,x9,rfl⟩
 | t::ts,x8,x9,ht=>by
  obtain⟨h1,h2,w,h3,h4⟩:=ht t List.mem_cons_self
  obtain⟨y8,y9,ih⟩:=behind_loop n B cd h ls j hj hj2 left hl c L en ts (.v (tN t)) (.v (tN (behindV left t))) λq hq=>ht q (List.mem_cons_of_mem _ hq)
  refine⟨y8,y9,?_⟩
  rw[List.map_cons,←ih]
  refine forL_nx ?_
  have e1:=left_behind n left t hl
  have e2:=price_of_taking n h ls j t hj hj2 h2 h1
  obtain⟨e3,e4⟩:=in_encP h3
  have e5:¬c+ptak (hireP h j) (likeP ls j) t < w.1:=by lia
  generalize ptak (hireP h j) (likeP ls j) t=pt at *
  generalize tN (behindV left t)=bd at *
  generalize tN left=ld at *
  generalize tN t=td at *
  generalize pricesD h ls=pr at *
  generalize encP L=el at *
  generalize w.1=w1 at *
  simp [bodyF, b_holds_behind_1, e1, e2, e3, e4, e5]
theorem holds_behind (n:Nat) (P:List Part) (Q:List Player) (X Y Z:D) (ps:List (Nat×Nat)) (hv:∀p∈P,(signs p.voice).length=1) (h:List Int) (ls:List (List Int)) (j:Nat) (hq:j < Q.length) (hj:j < h.length) (hj2:j < ls.length) (hr:(ls.getD j []).length=P.length) (e:List Nat×Way) (he:e.1.length≤8) (hp:∀p∈e.1,p < P.length) (L:List (List Nat×Way))
 (hL:∀t∈takings (okV P Q j) ps e.1,∃w,valL L (behindV e.1 t)=some w∧w.1≤e.2.1+ptak (hireP h j) (likeP ls j) t) :
 callF T dfs (n+3) 21 [.tup [.tup (P.map Part.enc),.tup (Q.map Player.enc),X,Y,Z],.lst (ps.map pairD),pricesD h ls,.int (j:Int),rowP e,.tdc (encP L)]=.ok (.bl true):=by
 have t1:=takings_of n P Q X Y Z ps hv j hq e.1 he hp
 obtain⟨y8,y9,l⟩:=behind_loop (n+1) (.tup [.tup (P.map Part.enc),.tup (Q.map Player.enc),X,Y,Z]) (.lst (ps.map pairD)) h ls j hj hj2 e.1 (by lia) e.2.1 L (rowP e) (takings (okV P Q j) ps e.1) .no .no (λt ht=>by
  have hs:=((mem_takings rfl).mp ht).1
  exact⟨Nat.le_trans hs.length_le (by lia),λp hp'=>by rw[hr];exact hp p (hs.subset hp'),hL t ht⟩)
 refine callF_rt (k:=false) rfl rfl rfl ?_
 unfold rowP at *
 generalize (D.tup [.tup (P.map Part.enc),.tup (Q.map Player.enc),X,Y,Z])=B at *
 generalize (takings (okV P Q j) ps e.1).map tN=ts at *
 generalize tN e.1=k at *
 generalize pricesD h ls=pr at *
 generalize encP L=el at *
 generalize e.2.1=c at *
 simp [b_holds_behind, t1, l]
theorem bls_true {α:Type}:∀L:List α,blsOf (L.map λ_=>D.bl true)=.ok (L.map λ_=>true)
 | []=>rfl
 | a::r=>by
  rw[List.map_cons]
  show (blsOf (r.map λ_=>D.bl true)>>=λq=>Res.ok (true::q))=_
  rw[bls_true r];rfl
theorem all_true {α:Type} (L:List α):Bt.run .all [.lst (L.map λ_=>D.bl true)]=.ok (.bl true):=by
 rw[run_all,bls_true]
 show Res.ok (D.bl ((L.map λ_=>true).all id))=_
 rw[show (L.map λ_=>true).all id=true from by rw[List.all_map];simp]
theorem next_le {C:Cst} {k:Nat} {e:List Nat×Way} (he:e∈layerV C k) {t:List Nat} (ht:t∈takings (C.ok k) C.ps e.1):∃w,valL (layerV C (k+1)) (behindV e.1 t)=some w∧w.1≤e.2.1+ptak (C.hire k) (C.like k) t:=by
 have hm:(behindV e.1 t,(e.2.1+ptak (C.hire k) (C.like k) t,withP e.2.2 t k))∈candsV (C.ok k) C.ps (C.hire k) (C.like k) k (layerV C k):=by
  unfold candsV
  refine List.mem_flatMap.mpr ⟨e,he,?_⟩
  rw[val_of (layer_nd C k) he]
  exact List.mem_map.mpr ⟨t,ht,rfl⟩
 obtain⟨w,h1,h2⟩:=foldU_le (L:=[]) (.inr hm)
 exact⟨w,h1,h2⟩
theorem step_loop (n:Nat) (P:List Part) (Q:List Player) (X Y Z:D) (ps:List (Nat×Nat)) (hv:∀p∈P,(signs p.voice).length=1) (h:List Int) (ls:List (List Int)) (hP:P.length≤8) (hQ:Q.length≤6) (hh:h.length=Q.length) (hls:ls.length=Q.length) (hr:∀r∈ls,r.length=P.length):∀(m k:Nat) (x4 x5:Sl),k+m=Q.length →
 ∃ y4 y5, forL (bodyF T (callF T dfs (n + 3)) (.one 4) b_holds_step_by_step_2) ((List.range' k m).map natI) [.v (.tup [.tup (P.map Part.enc), .tup (Q.map Player.enc), X, Y, Z]), .v (pricesD h ls), .v (.lst ((List.range (Q.length + 1)).map fun i => layD (layerV (cstV P Q ps h ls) i))), .v (.lst (ps.map pairD)), x4, x5] =
   .ok (.nx [.v (.tup [.tup (P.map Part.enc),.tup (Q.map Player.enc),X,Y,Z]),.v (pricesD h ls),.v (.lst ((List.range (Q.length+1)).map λi=>layD (layerV (cstV P Q ps h ls) i))),.v (.lst (ps.map pairD)),y4,y5])
 | 0,k,x4,x5,hk=>⟨x4,x5,rfl⟩
 | m+1,k,x4,x5,hk=>by
  have hb:=ten_big
  obtain⟨y4,y5,ih⟩:=step_loop n P Q X Y Z ps hv h ls hP hQ hh hls hr m (k+1) (.v (.int (k:Int))) (.v (.tdc (encP (layerV (cstV P Q ps h ls) (k+1))))) (by lia)
  refine⟨y4,y5,?_⟩
  rw[List.range'_succ,List.map_cons,←ih]
  clear ih
  refine forL_nx ?_
  have hk2:k < ls.length:=by lia
  have hrow:(ls.getD k []).length=P.length:=by
   rw[List.getD_eq_getElem?_getD,List.getElem?_eq_getElem hk2]
   exact hr _ (List.getElem_mem hk2)
  have at_:∀i,i < Q.length+1→D.ix (.lst ((List.range (Q.length+1)).map λi=>layD (layerV (cstV P Q ps h ls) i))) (.int (i:Nat))=.ok (layD (layerV (cstV P Q ps h ls) i)):=λi hi=>ix_l (by rw[List.getElem?_map,List.getElem?_range hi];rfl)
  have a1:=at_ k (by lia)
  have a2:=at_ (k+1) (by lia)
  rw[show (((k+1:Nat)):Int)=(k:Int)+1 from rfl] at a2
  have dc:=dcl_lay (layer_nd (cstV P Q ps h ls) (k+1))
  have ll:=layer_len (cstV P Q ps h ls) hP k
  have c : ∀ x3 : Sl, compL (compF T (callF T dfs (n + 3)) 1 [0, 3, 1, 4, 5] (.one 0) e_holds_step_by_step_1 (.con (.bl true)) [.v (.tup [.tup (P.map Part.enc), .tup (Q.map Player.enc), X, Y, Z]), .v (pricesD h ls), x3, .v (.lst (ps.map pairD)), .v (.int (k : Int)), .v (.tdc (encP (layerV (cstV P Q ps h ls) (k + 1))))]) ((layerV (cstV P Q ps h ls) k).map rowP) = .ok ((layerV (cstV P Q ps h ls) k).map fun _ => D.bl true) := by
   intro x3
   rw[compL_enc rowP (λ_=>some (D.bl true)) (by
    intro e he
    obtain⟨_,h3,h4⟩:=layer_key he
    have q:=holds_behind n P Q X Y Z ps hv h ls k (by lia) (by lia) hk2 hrow e (Nat.le_trans h3 hP) h4 (layerV (cstV P Q ps h ls) (k+1)) (λt ht=>next_le he ht)
    generalize encP (layerV (cstV P Q ps h ls) (k+1))=el at *
    generalize rowP e=re at *
    generalize (D.tup [.tup (P.map Part.enc),.tup (Q.map Player.enc),X,Y,Z])=B at *
    generalize pricesD h ls=pr at *
    simp [compF, Tr.compEnv, e_holds_step_by_step_1, q]), List.filterMap_eq_map']
  have al:=all_true (layerV (cstV P Q ps h ls) k)
  have l2:((layerV (cstV P Q ps h ls) k).map rowP).length≤big:=by rw[List.length_map];lia
  rw[show layD (layerV (cstV P Q ps h ls) k)=.lst ((layerV (cstV P Q ps h ls) k).map rowP) from rfl] at a1
  clear at_
  generalize ((List.range (Q.length+1)).map λi=>layD (layerV (cstV P Q ps h ls) i))=A at *
  generalize layD (layerV (cstV P Q ps h ls) (k+1))=l1 at *
  generalize encP (layerV (cstV P Q ps h ls) (k+1))=el at *
  generalize ((layerV (cstV P Q ps h ls) k).map λ_=>D.bl true)=tt at *
  generalize (layerV (cstV P Q ps h ls) k).map rowP=l0 at *
  generalize (D.tup [.tup (P.map Part.enc),.tup (Q.map Player.enc),X,Y,Z])=B at *
  generalize pricesD h ls=pr at *
  simp [bodyF, b_holds_step_by_step_2, natI, a1, a2, dc, c, al, l2]
theorem holds_step (n:Nat) (P:List Part) (Q:List Player) (Y Z:D) (ss:List Scene) (hs:ss.length≤24) (hv:∀p∈P,(signs p.voice).length=1) (h:List Int) (ls:List (List Int)) (hP:P.length≤8) (hQ:Q.length≤6) (hh:h.length=Q.length) (hls:ls.length=Q.length) (hr:∀r∈ls,r.length=P.length) :
 callF T dfs (n+6) 22 [.tup [.tup (P.map Part.enc),.tup (Q.map Player.enc),.tup (ss.map Scene.enc),Y,Z],pricesD h ls,.lst ((List.range (Q.length+1)).map λi=>layD (layerV (cstV P Q ((pairsOf P.length).filter λp=>(reasonOf P ss p.1 p.2).isSome) h ls) i))]=.ok (.bl true):=by
 have hb:=ten_big
 have c:=clashes_of n (.tup (Q.map Player.enc)) Y Z P ss hs (by lia)
 generalize ((pairsOf P.length).filter λp=>(reasonOf P ss p.1 p.2).isSome)=ps at *
 obtain⟨x4,x5,l⟩:=step_loop (n+2) P Q (.tup (ss.map Scene.enc)) Y Z ps hv h ls hP hQ hh hls hr Q.length 0 .no .no (by lia)
 rw[←List.range_eq_range'] at l
 have rg:=rng_nat (n:=Q.length) (by lia)
 have ln:=run_len_map (f:=Player.enc) (xs:=Q)
 refine callF_rt (k:=false) rfl rfl rfl ?_
 generalize ((List.range (Q.length+1)).map λi=>layD (layerV (cstV P Q ps h ls) i))=A at *
 generalize pricesD h ls=pr at *
 generalize (Q.map Player.enc)=qe at *
 generalize (List.range Q.length).map natI=rq at *
 simp [b_holds_step_by_step, c, l, rg, ln]
noncomputable def optI:Option Int→D
 | none=>.non
 | some p=>.int p
noncomputable def endsB (L:List (List Nat×Way)) (pr:Option Int):Bool:=match valL L [],pr with
 | none,_=>true
 | some _,none=>false
 | some v,some p=>decide (p≤v.1)
theorem val_not {k:List Nat}:∀ {L:List (List Nat×Way)},k∉L.map (·.1)→valL L k=none
 | [],_=>rfl
 | a::r,h=>by
  have h1:¬a.1=k:=λz=>h (by rw[List.map_cons,z];exact List.mem_cons_self)
  unfold valL
  rw[List.find?_cons,decide_eq_false h1]
  exact val_not (L:=r) λz=>h (List.mem_cons_of_mem _ z)
theorem ends_val:∀ {L:List (List Nat×Way)},(L.map (·.1)).Nodup→L.filterMap (λe=>if decide (e.1=[])=true then some (D.int e.2.1) else none)=((valL L []).map λv=>D.int v.1).toList
 | [],_=>rfl
 | a::r,nd=>by
  rw[List.map_cons,List.nodup_cons] at nd
  have ih:=ends_val nd.2
  by_cases q:a.1=[]
  ·rw[List.filterMap_cons_some (b:=D.int a.2.1) (by rw[if_pos (decide_eq_true q)]),ih,val_not (L:=r) (by rw[←q];exact nd.1)]
   unfold valL
   rw[List.find?_cons,decide_eq_true q];rfl
  ·rw[List.filterMap_cons_none (by rw[if_neg (by rw[decide_eq_false q];exact Bool.false_ne_true)]),ih]
   unfold valL
   rw[List.find?_cons,decide_eq_false q]
theorem ends_with (n:Nat) (L:List (List Nat×Way)) (nd:(L.map (·.1)).Nodup) (hl:L.length≤1000) (pr:Option Int):callF T dfs (n+1) 23 [layD L,optI pr]=.ok (.bl (endsB L pr)):=by
 have hb:=ten_big
 have c:∀x0 x1 x2:Sl,compL (compF T (callF T dfs n) 2 [] (.many [0,1]) e_ends_with_2 c_ends_with_1 [x0,x1,x2]) (L.map rowP)=.ok (((valL L []).map λv=>D.int v.1).toList):=by
  intro x0 x1 x2
  rw[compL_enc rowP (λe=>if decide (e.1=[])=true then some (D.int e.2.1) else none) (by
   intro e _
   have e1:=tN_nil e.1
   unfold rowP
   generalize tN e.1=k at *
   by_cases q:e.1=[]
   ·rw[decide_eq_true q] at e1;rw[if_pos (decide_eq_true q)];simp[compF,Tr.compEnv,e_ends_with_2,c_ends_with_1,e1]
   ·rw[decide_eq_false q] at e1;rw[if_neg (by rw[decide_eq_false q];exact Bool.false_ne_true)];simp[compF,Tr.compEnv,e_ends_with_2,c_ends_with_1,e1]),ends_val nd]
 have l2:(L.map rowP).length≤big:=by rw[List.length_map];lia
 refine callF_rt (k:=false) rfl rfl rfl ?_
 unfold layD endsB
 generalize L.map rowP=R at *
 have n1:D.cmp .Eq (.lst []) (.lst [])=.ok (.bl true):=rfl
 have n2:∀x:Int,D.cmp .Eq (.lst [.int x]) (.lst [])=.ok (.bl false):=λ_=>rfl
 generalize valL L []=ov at *
 cases ov with
 | none =>
  rw[show ((none:Option Way).map λv=>D.int v.1).toList=[] from rfl] at c
  cases pr with
  | none=>simp[b_ends_with,optI,c,l2,n1]
  | some p =>
   have al:=all_true ([]:List Nat)
   rw[List.map_nil] at al
   have c2:∀x0 x1 x2:Sl,compL (compF T (callF T dfs n) 1 [1] (.one 0) e_ends_with_3 (.con (.bl true)) [x0,x1,x2]) []=.ok []:=λ_ _ _=>rfl
   simp[b_ends_with,optI,c,l2,al,c2]
 | some v =>
  rw[show ((some v).map λv=>D.int v.1).toList=[.int v.1] from rfl] at c
  cases pr with
  | none=>simp[b_ends_with,optI,c,l2,n2]
  | some p =>
   have al:∀b:Bool,Bt.run .all [.lst [.bl b]]=.ok (.bl b):=λb=>by cases b<;>rfl
   have c2:∀x0 x2:Sl,compL (compF T (callF T dfs n) 1 [1] (.one 0) e_ends_with_3 (.con (.bl true)) [x0,.v (.int p),x2]) [.int v.1]=.ok [.bl (decide (p≤v.1))]:=λx0 x2=>by
    generalize v.1=w
    simp[compL,compF,Tr.compEnv,e_ends_with_3]
   have l3:1≤big:=by lia
   simp[b_ends_with,optI,c,l2,al,c2,l3]
theorem holds_is (n:Nat) (P:List Part) (Q:List Player) (Y Z:D) (ss:List Scene) (hs:ss.length≤24) (hv:∀p∈P,(signs p.voice).length=1) (h:List Int) (ls:List (List Int)) (hP:P.length≤6) (hQ:Q.length≤6) (hh:h.length=Q.length) (hls:ls.length=Q.length) (hr:∀r∈ls,r.length=P.length) (pr:Option Int) :
 callF T dfs (n+7) 24 [.tup [.tup (P.map Part.enc),.tup (Q.map Player.enc),.tup (ss.map Scene.enc),Y,Z],pricesD h ls,.lst ((List.range (Q.length+1)).map λi=>layD (layerV (cstV P Q ((pairsOf P.length).filter λp=>(reasonOf P ss p.1 p.2).isSome) h ls) i)),optI pr]=.ok (.bl (endsB (layerV (cstV P Q ((pairsOf P.length).filter λp=>(reasonOf P ss p.1 p.2).isSome) h ls) Q.length) pr)):=by
 have hb:=ten_big
 have s1:=holds_step n P Q Y Z ss hs hv h ls (by lia) hQ hh hls hr
 have hm:(cstV P Q ((pairsOf P.length).filter λp=>(reasonOf P ss p.1 p.2).isSome) h ls).many=P.length:=rfl
 generalize (cstV P Q ((pairsOf P.length).filter λp=>(reasonOf P ss p.1 p.2).isSome) h ls)=C at *
 have s2:=has_layers (n+5) P Q (.tup (ss.map Scene.enc)) Y Z C hm (by lia)
 have s3:=ends_with (n+5) (layerV C Q.length) (layer_nd C _) (Nat.le_trans (layer_len C (by lia) _) (by lia)) pr
 have c : ∀ x0 x1 x2 x3 : Sl, compL (compF T (callF T dfs (n + 6)) 1 [] (.one 0) e_holds_1 (.con (.bl true)) [x0, x1, x2, x3]) ((List.range (Q.length + 1)).map fun i => layD (layerV C i)) = .ok ((List.range (Q.length + 1)).map fun _ => D.bl true) := by
  intro x0 x1 x2 x3
  rw[compL_enc (λi:Nat=>layD (layerV C i)) (λ_=>some (D.bl true)) (by
   intro i _
   obtain⟨t1,t2⟩:=layer_tab C (by lia) i
   have e:=has_once (n+4) (layerV C i) t1 (layer_nd C i) t2
   generalize layD (layerV C i)=l at *
   simp [compF, Tr.compEnv, e_holds_1, e]), List.filterMap_eq_map']
 have al:=all_true (List.range (Q.length+1))
 have l2:((List.range (Q.length+1)).map λi=>layD (layerV C i)).length≤big:=by rw[List.length_map,List.length_range];lia
 have e1:D.ix (.lst ((List.range (Q.length+1)).map λi=>layD (layerV C i))) (.int (-1))=.ok (layD (layerV C Q.length)):=by
  rw[List.range_succ,List.map_append,List.map_singleton];exact ix_last _ _
 refine callF_rt (k:=false) rfl rfl rfl ?_
 generalize ((List.range (Q.length+1)).map λi=>layD (layerV C i))=A at *
 generalize ((List.range (Q.length+1)).map λ_=>D.bl true)=tt at *
 generalize layD (layerV C Q.length)=lq at *
 generalize endsB (layerV C Q.length) pr=b at *
 generalize optI pr=pd at *
 generalize (D.tup [.tup (P.map Part.enc),.tup (Q.map Player.enc),.tup (ss.map Scene.enc),Y,Z])=B at *
 generalize pricesD h ls=pr at *
 cases b with
 | true => simp [b_holds, s1, s2, s3, c, al, l2, e1]
 | false => simp [b_holds, s1, s2, s3, c, al, l2, e1]
noncomputable def priceW (h:List Int) (ls:List (List Int)) (w:List Nat):Int:=hiredV h w+likedV ls w
theorem least_is (n:Nat) (P:List Part) (Q:List Player) (Y Z:D) (ss:List Scene) (hs:ss.length≤24) (hv:∀p∈P,(signs p.voice).length=1) (h:List Int) (ls:List (List Int)) (hP:P.length≤8) (hQ:Q.length≤6) (hh:h.length=Q.length) (hls:ls.length=Q.length) (hr:∀r∈ls,r.length=P.length) :
 (callF T dfs (n+7) 16 [.tup [.tup (P.map Part.enc),.tup (Q.map Player.enc),.tup (ss.map Scene.enc),Y,Z],pricesD h ls]=.ok .non∧∀w:List Nat,w.length=P.length→(∀x∈w,x < Q.length)→playsB P Q (clL P ss P.length) w=false) ∨
 ∃w0:List Nat,w0.length=P.length∧(∀x∈w0,x < Q.length)∧playsB P Q (clL P ss P.length) w0=true ∧
  callF T dfs (n+7) 16 [.tup [.tup (P.map Part.enc),.tup (Q.map Player.enc),.tup (ss.map Scene.enc),Y,Z],pricesD h ls]=.ok (.tup [.int (priceW h ls w0),lN w0]) ∧
  ∀w:List Nat,w.length=P.length→(∀x∈w,x < Q.length)→playsB P Q (clL P ss P.length) w=true→priceW h ls w0≤priceW h ls w:=by
 have a3:=least_of n P Q Y Z ss hs hv h ls hP hQ hh hls hr
 have pr:∀w:List Nat,w.length=P.length→(∀x∈w,x < Q.length)→priceW h ls w=priceV (cstV P Q ((pairsOf P.length).filter λp=>(reasonOf P ss p.1 p.2).isSome) h ls) (w.map some) Q.length:=λw h1 h2=>by
  rw[←hh]
  exact price_law h1.symm (by lia) (by rw[hh];exact h2)
 have pc:=λ(w:List Nat) (h1:w.length=P.length) (h2:∀x∈w,x < Q.length)=>plays_pcs (ss:=ss) (h:=h) (ls:=ls) h1 h2
 have full:=@layer_full (cstV P Q ((pairsOf P.length).filter λp=>(reasonOf P ss p.1 p.2).isSome) h ls) Q.length
 have snd:=@layer_sound (cstV P Q ((pairsOf P.length).filter λp=>(reasonOf P ss p.1 p.2).isSome) h ls) Q.length []
 have hm:(cstV P Q ((pairsOf P.length).filter λp=>(reasonOf P ss p.1 p.2).isSome) h ls).many=P.length:=rfl
 generalize (cstV P Q ((pairsOf P.length).filter λp=>(reasonOf P ss p.1 p.2).isSome) h ls)=C at *
 have lf:∀w:List Nat,w.length=P.length→leftOf C.many (w.map some)=[]:=λw hw=>by
  rw[hm,←hw];exact left_some w
 cases hval:valL (layerV C Q.length) [] with
 | none =>
  refine .inl ⟨by rw[a3,hval];rfl,λw h1 h2=>?_⟩
  cases q:playsB P Q (clL P ss P.length) w with
  | false=>rfl
  | true =>
   obtain⟨v,e,_⟩:=full ((pc w h1 h2).mp q)
   rw[lf w h1,hval] at e
   cases e
 | some v =>
  obtain⟨p1,p2,p3⟩:=snd hval
  obtain⟨ws,w1,w2,w3⟩:=pcs_some p1 p2.symm
  have wl:=w2.trans hm
  have hpr:=pr ws wl w3
  rw[←w1,←p3] at hpr
  refine .inr ⟨ws,wl,w3,(pc ws wl w3).mpr (by rw[←w1];exact p1),?_,λw h1 h2 q=>?_⟩
  ·rw[a3,hval,hpr]
   have e6:v.2.map optN=ws.map natI:=by rw[w1,List.map_map];rfl
   show Res.ok (D.tup [.int v.1,.lst (v.2.map optN)])=_
   rw[e6];rfl
  ·obtain⟨v',e,le⟩:=full ((pc w h1 h2).mp q)
   rw[lf w h1,hval] at e
   injection e with e
   rw[hpr,pr w h1 h2,e];exact le
theorem compL_ex {α β:Type} {f:D→Res (Option D)} (enc:α→D) (enc':β→D):∀ {xs:List α},(∀a∈xs,∃b,f (enc a)=.ok (some (enc' b)))→∃bs:List β,bs.length=xs.length∧compL f (xs.map enc)=.ok (bs.map enc')
 | [],_=>⟨[],rfl,rfl⟩
 | a::xs,h=>by
  obtain⟨b,hb⟩:=h a List.mem_cons_self
  obtain⟨bs,h1,h2⟩:=compL_ex enc enc' (xs:=xs) λx hx=>h x (List.mem_cons_of_mem _ hx)
  refine⟨b::bs,by rw[List.length_cons,h1];rfl,?_⟩
  rw[List.map_cons,compL,hb,h2];rfl
theorem opt_at (pls:Nat) (w:Int) (hw:0≤w∧w < (pls:Int)+1):∃o:Option Nat,D.ix (.lst (.non::(List.range pls).map natI)) (.int w)=.ok (optN o):=by
 obtain⟨k,rfl⟩:=Int.eq_ofNat_of_zero_le hw.1
 cases k with
 | zero=>exact⟨none,ix_l (i:=0) rfl⟩
 | succ k =>
  refine⟨some k,ix_l ?_⟩
  rw[List.getElem?_cons_succ,List.getElem?_map,List.getElem?_range (by lia)];rfl
theorem cast_comp (n:Nat) (c:Int) (many pls:Nat) (hm:many≤8) (hp:pls≤6) (x0 x1 x3 x4 x6 x7 x8 x9:Sl):∃cs:List (Option Nat),cs.length=many∧compL (compF T (callF T dfs (n+1)) 1 [5,2] (.one 0) e_law_1 (.con (.bl true)) [x0,x1,.v (.int (pls:Int)),x3,x4,.v (.int c),x6,x7,x8,x9]) ((List.range many).map natI)=.ok (cs.map optN):=by
 have hb:=ten_big
 obtain⟨cs,h1,h2⟩:=compL_ex (f:=compF T (callF T dfs (n+1)) 1 [5,2] (.one 0) e_law_1 (.con (.bl true)) [x0,x1,.v (.int (pls:Int)),x3,x4,.v (.int c),x6,x7,x8,x9]) natI optN (xs:=List.range many) (by
  intro k hk
  have hk:=List.mem_range.mp hk
  have e1:=mixed n c (k:Int) ⟨by lia,by lia⟩
  have hz:(0:Int) < (pls:Int)+1:=by lia
  generalize mixV c (k:Int)=m at *
  have m1:D.bin .Mod (.int m) (.int ((pls:Int)+1))=.ok (.int (m % ((pls:Int)+1))):=bin_mod hz
  obtain⟨o,eo⟩:=opt_at pls (m % ((pls:Int)+1)) ⟨Int.emod_nonneg m (Int.ne_of_gt hz),Int.emod_lt_of_pos m hz⟩
  have rl:=lrng_nat8 (many:=pls) (by lia)
  have ad:D.bin .Add (.lst [.non]) (.lst ((List.range pls).map natI))=.ok (.lst (.non::(List.range pls).map natI)):=add_lsts (by simp;lia)
  refine⟨o,?_⟩
  generalize (List.range pls).map natI=RP at *
  simp[compF,Tr.compEnv,natI,e_law_1,e1,rl,ad,m1,eo])
 exact⟨cs,by rw[h1,List.length_range],h2⟩
theorem law_paper (n:Nat) (P:List Part) (Q:List Player) (Y Z:D) (ss:List Scene) (hs:ss.length≤24) (hv:∀p∈P,(signs p.voice).length=1) (h:List Int) (ls:List (List Int)) (hP:P.length≤6) (hQ:Q.length≤6) (hh:h.length=Q.length) (hls:ls.length=Q.length) (hr:∀r∈ls,r.length=P.length) :
 callF T dfs (n+8) 42 [.tup [.tup (P.map Part.enc),.tup (Q.map Player.enc),.tup (ss.map Scene.enc),Y,Z],pricesD h ls,((valL (layerV (cstV P Q ((pairsOf P.length).filter λp=>(reasonOf P ss p.1 p.2).isSome) h ls) Q.length) []).map wayD).getD .non]=.ok (.bl true):=by
 have pp:=paper_of n P Q Y Z ss hs hv h ls (by lia) hQ hh hls hr
 have ho:=holds_is n P Q Y Z ss hs hv h ls hP hQ hh hls hr
 generalize (cstV P Q ((pairsOf P.length).filter λp=>(reasonOf P ss p.1 p.2).isSome) h ls)=C at *
 refine callF_rt (k:=false) rfl rfl rfl ?_
 generalize ((List.range (Q.length+1)).map λi=>layD (layerV C i))=A at *
 generalize (D.tup [.tup (P.map Part.enc),.tup (Q.map Player.enc),.tup (ss.map Scene.enc),Y,Z])=B at *
 generalize pricesD h ls=pr at *
 unfold endsB at ho
 generalize valL (layerV C Q.length) []=ov at *
 have o1:=ho none
 have pw:D.bin .Pow (.int 10) (.int 19)=.ok (.int (10^19)):=rfl
 rw[show optI none=D.non from rfl] at o1
 have i1:∀a:Bool,D.cmp .Is (.bl a) (.bl a)=.ok (.bl true):=λa=>by cases a<;>rfl
 have i2:∀a:Bool,D.cmp .IsNot (.bl a) (.bl a)=.ok (.bl false):=λa=>by cases a<;>rfl
 cases ov with
 | none =>
  have o2:=ho (some (10^19))
  rw[show optI (some (10^19))=D.int (10^19) from rfl] at o2
  generalize (10:Int)^19=big19 at *
  simp[b_law_paper,pp,o1,o2,pw,i1]
 | some v =>
  have o2:=ho (some v.1)
  have o3:=ho (some (v.1+1))
  rw[show ∀x,optI (some x)=D.int x from λ_=>rfl] at o2 o3
  have d1:decide (v.1≤v.1)=true:=decide_eq_true (Int.le_refl _)
  have d2:decide (v.1+1≤v.1)=false:=decide_eq_false (by lia)
  simp only[d1,d2] at o1 o2 o3
  rw[show ((some v).map wayD).getD D.non=.tup [.int v.1,.lst (v.2.map optN)] from rfl]
  generalize v.2.map optN=cc at *
  generalize v.1=w at *
  simp[b_law_paper,pp,o1,o2,o3,i1,i2]
theorem some_comp (n:Nat) (c:Int) (many pls k:Nat) (hm:many≤8) (hk:k≤40) (hp:0 < pls) (x0 x1 x2 x3 x7:Sl):∃ws:List Nat,ws.length=many∧(∀x∈ws,x < pls)∧compL (compF T (callF T dfs (n+1)) 1 [5,4,6] (.one 0) e_is_least_1 (.con (.bl true)) [x0,x1,x2,x3,.v (.int c),.v (.int (pls:Int)),.v (.int (k:Int)),x7]) ((List.range many).map natI)=.ok (ws.map natI):=by
 have hz:(0:Int) < (pls:Int):=by lia
 refine⟨(List.range many).map λp:Nat=>(mixV c (7*(k:Int)+(p:Int)) / 3 % (pls:Int)).toNat,by rw[List.length_map,List.length_range],λx hx=>?_,?_⟩
 ·obtain⟨p,_,rfl⟩:=List.mem_map.mp hx
  have h1:=Int.emod_nonneg (mixV c (7*(k:Int)+(p:Int)) / 3) (Int.ne_of_gt hz)
  have h2:=Int.emod_lt_of_pos (mixV c (7*(k:Int)+(p:Int)) / 3) hz
  lia
 ·rw[compL_enc natI (λp:Nat=>some (natI (mixV c (7*(k:Int)+(p:Int)) / 3 % (pls:Int)).toNat)) (by
   intro p hp'
   have hp':=List.mem_range.mp hp'
   have e1:=mixed n c (7*(k:Int)+(p:Int)) ⟨by lia,by lia⟩
   have m1:∀a:Int,D.bin .Mod (.int a) (.int (pls:Int))=.ok (.int (a % (pls:Int))):=λa=>bin_mod hz
   have e2:natI (mixV c (7*(k:Int)+(p:Int)) / 3 % (pls:Int)).toNat=.int (mixV c (7*(k:Int)+(p:Int)) / 3 % (pls:Int)):=by
    unfold natI
    rw[Int.toNat_of_nonneg (Int.emod_nonneg _ (Int.ne_of_gt hz))]
   rw[e2]
   simp[compF,Tr.compEnv,natI,e_is_least_1,e1,m1]),List.filterMap_eq_map',List.map_map]
  rfl
noncomputable def Best (P:List Part) (Q:List Player) (cl:List (Nat×Nat)) (h:List Int) (ls:List (List Int)) (f:D):Prop :=
 (f=.non∧∀w:List Nat,w.length=P.length→(∀x∈w,x < Q.length)→playsB P Q cl w=false) ∨
  ∃w0:List Nat,w0.length=P.length∧(∀x∈w0,x < Q.length)∧playsB P Q cl w0=true∧f=.tup [.int (priceW h ls w0),lN w0] ∧
   ∀w:List Nat,w.length=P.length→(∀x∈w,x < Q.length)→playsB P Q cl w=true→priceW h ls w0≤priceW h ls w
theorem best_loop (n:Nat) (P:List Part) (Q:List Player) (X Y Z:D) (cl:List (Nat×Nat)) (hv:∀p∈P,(signs p.voice).length=1) (hP:P.length≤8) (hQ:Q.length≤6) (hQ0:0 < Q.length) (hc:∀p∈cl,p.1 < P.length∧p.2 < P.length) (h:List Int) (ls:List (List Int)) (hh:h.length=Q.length) (hls:ls.length=Q.length) (hr:∀r∈ls,r.length=P.length) (f:D) (hf:Best P Q cl h ls f) (c:Int):∀(ks:List Nat) (x6 x7:Sl),(∀k∈ks,k≤40) →
 ∃y6 y7,forL (bodyF T (callF T dfs (n+1)) (.one 6) b_is_least_2) (ks.map natI) [.v (.tup [.tup (P.map Part.enc),.tup (Q.map Player.enc),X,Y,Z]),.v (.lst (cl.map pairD)),.v (pricesD h ls),.v f,.v (.int c),.v (.int (Q.length:Int)),x6,x7] =
  .ok (.nx [.v (.tup [.tup (P.map Part.enc),.tup (Q.map Player.enc),X,Y,Z]),.v (.lst (cl.map pairD)),.v (pricesD h ls),.v f,.v (.int c),.v (.int (Q.length:Int)),y6,y7])
 | [],x6,x7,_=>⟨x6,x7,rfl⟩
 | k::ks,x6,x7,hk=>by
  have hb:=ten_big
  obtain⟨ws,w1,w2,w3⟩:=some_comp n c P.length Q.length k hP (hk k List.mem_cons_self) hQ0 (.v (.tup [.tup (P.map Part.enc),.tup (Q.map Player.enc),X,Y,Z])) (.v (.lst (cl.map pairD))) (.v (pricesD h ls)) (.v f) x7
  obtain⟨y6,y7,ih⟩:=best_loop n P Q X Y Z cl hv hP hQ hQ0 hc h ls hh hls hr f hf c ks (.v (.int (k:Int))) (.v (.lst (ws.map natI))) λq hq=>hk q (List.mem_cons_of_mem _ hq)
  refine⟨y6,y7,?_⟩
  rw[List.map_cons,←ih]
  clear ih
  refine forL_nx ?_
  have e1:=law_plays n P Q X Y Z cl hv ws w1 w2 (λp hp=>by rw[w1];exact hc p hp)
  have e2:=law_price n h ls ws ⟨by lia,by lia,λr hrr=>by rw[hr r hrr,w1],by lia,λx hx=>by rw[hh];exact w2 x hx⟩
  rw[show hiredV h ws+likedV ls ws=priceW h ls ws from rfl] at e2
  have ln:=run_len_map (f:=Part.enc) (xs:=P)
  have rg:=rng_nat (n:=P.length) (by lia)
  have l2:((List.range P.length).map natI).length≤big:=by rw[List.length_map,List.length_range];lia
  have hpl:playsB P Q cl ws=true→∃w0:List Nat,f=.tup [.int (priceW h ls w0),lN w0]∧¬priceW h ls ws < priceW h ls w0:=λq=>by
   rcases hf with ⟨_,g⟩ | ⟨w0,_,_,_,g1,g2⟩
   ·rw[g ws w1 w2] at q;cases q
   ·exact⟨w0,g1,by have:=g2 ws w1 w2 q;lia⟩
  generalize playsB P Q cl ws=b at *
  generalize priceW h ls ws=pw at *
  generalize pricesD h ls=pr at *
  generalize ws.map natI=wd at *
  generalize (List.range P.length).map natI=RP at *
  generalize P.map Part.enc=pe at *
  generalize Q.map Player.enc=qe at *
  cases b with
  | false=>simp[bodyF,b_is_least_2,natI,ln,rg,w3,l2,e1]
  | true =>
   obtain⟨w0,rfl,g2⟩:=hpl rfl
   generalize lN w0=l0 at *
   generalize priceW h ls w0=p0 at *
   simp[bodyF,b_is_least_2,natI,ln,rg,w3,l2,e1,e2,g2]
theorem law_is_least (n:Nat) (P:List Part) (Q:List Player) (X Y Z:D) (cl:List (Nat×Nat)) (hv:∀p∈P,(signs p.voice).length=1) (hP:P.length≤8) (hQ:Q.length≤6) (hc:∀p∈cl,p.1 < P.length∧p.2 < P.length) (h:List Int) (ls:List (List Int)) (hh:h.length=Q.length) (hls:ls.length=Q.length) (hr:∀r∈ls,r.length=P.length) (f:D) (hf:Best P Q cl h ls f) (c:Int) :
 callF T dfs (n+2) 43 [.tup [.tup (P.map Part.enc),.tup (Q.map Player.enc),X,Y,Z],.lst (cl.map pairD),pricesD h ls,f,.int c]=.ok (.bl true):=by
 have hb:=ten_big
 have lnq:=run_len_map (f:=Player.enc) (xs:=Q)
 have lnp:=run_len_map (f:=Part.enc) (xs:=P)
 have loop:∃y6 y7,forL (bodyF T (callF T dfs (n+1)) (.one 6) b_is_least_2) ((List.range (if 0 < Q.length then 30 else 0)).map natI) [.v (.tup [.tup (P.map Part.enc),.tup (Q.map Player.enc),X,Y,Z]),.v (.lst (cl.map pairD)),.v (pricesD h ls),.v f,.v (.int c),.v (.int (Q.length:Int)),.no,.no] =
  .ok (.nx [.v (.tup [.tup (P.map Part.enc),.tup (Q.map Player.enc),X,Y,Z]),.v (.lst (cl.map pairD)),.v (pricesD h ls),.v f,.v (.int c),.v (.int (Q.length:Int)),y6,y7]):=by
  by_cases q:0 < Q.length
  ·rw[if_pos q]
   exact best_loop n P Q X Y Z cl hv hP hQ q hc h ls hh hls hr f hf c (List.range 30) .no .no λk hk=>by have:=List.mem_range.mp hk;lia
  ·rw[if_neg q];exact⟨.no,.no,rfl⟩
 obtain⟨y6,y7,l⟩:=loop
 have rg:∀m:Nat,m≤1000→rngR (.int (m:Int))=.ok ((List.range m).map natI):=λm hm=>rng_nat hm
 have rg2:rngR (.int (30*(if 0 < Q.length then (1:Int) else 0)))=.ok ((List.range (if 0 < Q.length then 30 else 0)).map natI):=by
  by_cases q:0 < Q.length
  ·rw[if_pos q,if_pos q];exact rg 30 (by lia)
  ·rw[if_neg q,if_neg q];exact rg 0 (by lia)
 have bi:∀b:Bool,Bt.run .int [.bl b]=.ok (.int (if b=true then 1 else 0)):=λb=>by cases b<;>rfl
 refine callF_rt (k:=false) rfl rfl rfl ?_
 rcases hf with ⟨rfl,_⟩ | ⟨w0,g1,g2,g3,rfl,_⟩
 ·generalize (List.range (if 0 < Q.length then 30 else 0)).map natI=RR at *
  generalize pricesD h ls=pr at *
  generalize P.map Part.enc=pe at *
  generalize Q.map Player.enc=qe at *
  simp[b_law_is_least,lnq,bi,rg2,l]
 ·have e1:=law_plays n P Q X Y Z cl hv w0 g1 g2 (λp hp=>by rw[g1];exact hc p hp)
  have e2:=law_price n h ls w0 ⟨by lia,by lia,λr hrr=>by rw[hr r hrr,g1],by lia,λx hx=>by rw[hh];exact g2 x hx⟩
  rw[show hiredV h w0+likedV ls w0=priceW h ls w0 from rfl] at e2
  rw[g3] at e1
  have ll:Bt.run .len [lN w0]=.ok (.int (P.length:Int)):=by
   show Res.ok (D.int ((w0.map natI).length:Nat))=_
   rw[List.length_map,g1]
  have ty:(lN w0).isTy .list=true:=rfl
  have nd:(lN w0).isDct=false:=rfl
  rw[show D.lst (w0.map natI)=lN w0 from rfl] at e1 e2
  generalize (List.range (if 0 < Q.length then 30 else 0)).map natI=RR at *
  generalize lN w0=l0 at *
  generalize priceW h ls w0=p0 at *
  generalize pricesD h ls=pr at *
  generalize P.map Part.enc=pe at *
  generalize Q.map Player.enc=qe at *
  simp[b_law_is_least,lnq,lnp,bi,rg2,l,e1,e2,ll,ty,nd]
noncomputable def s_tail:S :=
 (.cons (.asg (.one 7) (.call 16 (.acons (.var 3) (.acons (.var 4) .anil))))
 (.cons (.ite (.or (.not (.call 42 (.acons (.var 3) (.acons (.var 4) (.acons (.var 7) .anil))))) (.not (.call 43 (.acons (.var 3) (.acons (.call 39 (.acons (.var 3) .anil)) (.acons (.var 4) (.acons (.var 7) (.acons (.var 5) .anil))))))))
 (.cons (.ret (.con (.bl false)))
 .nil)
 .nil)
 (.cons (.ite (.cmp .Eq (.var 2) (.con (.int 0)))
 (.cons (.ret (.cmp .Eq (.cmp .Is (.var 7) (.con .non)) (.cmp .Gt (.var 1) (.con (.int 0)))))
 .nil)
 .nil)
 (.cons (.asg (.one 8) (.tup (.acons (.ix (.var 3) (.con (.int 0))) (.acons (.sl (.ix (.var 3) (.con (.int 1))) .omit (.neg (.con (.int 1)))) (.acons (.ix (.var 3) (.con (.int 2))) (.acons (.tup .anil) (.acons (.tup .anil) .anil)))))))
 (.cons (.asg (.one 9) (.call 16 (.acons (.var 8) (.acons (.tup (.acons (.sl (.ix (.var 4) (.con (.int 0))) .omit (.neg (.con (.int 1)))) (.acons (.sl (.ix (.var 4) (.con (.int 1))) .omit (.neg (.con (.int 1)))) .anil))) .anil))))
 (.cons (.ret (.or (.cmp .Is (.var 9) (.con .non)) (.and (.cmp .IsNot (.var 7) (.con .non)) (.cmp .LtE (.ix (.var 7) (.con (.int 0))) (.ix (.var 9) (.con (.int 0)))))))
 .nil))))))
noncomputable def s_pre (t:S):S :=
 (.cons (.asg (.one 1) (.bin .Mod (.call 30 (.acons (.var 0) (.acons (.con (.int 0)) .anil))) (.con (.int 7))))
 (.cons (.asg (.one 2) (.bin .Mod (.bin .FloorDiv (.call 30 (.acons (.var 0) (.acons (.con (.int 0)) .anil))) (.con (.int 7))) (.con (.int 5))))
 (.cons (.asg (.one 3) (.call 37 (.acons (.var 0) (.acons (.var 1) (.acons (.var 2) (.acons (.con (.int 12)) .anil))))))
 (.cons (.asg (.one 4) (.call 27 (.acons (.var 3) .anil)))
 (.cons (.asg (.one 5) (.call 30 (.acons (.var 0) (.acons (.con (.int 4)) .anil))))
 (.cons (.ite (.cmp .Eq (.bin .Mod (.var 5) (.con (.int 3))) (.con (.int 1)))
 (.cons (.asg (.one 6) (.comp 1 [5,2] (.one 0) e_law_1 (.rng (.var 1)) (.con (.bl true))))
 (.cons (.asg (.one 4) (.call 29 (.acons (.var 3) (.acons (.var 6) .anil))))
 .nil))
 .nil)
 t))))))
theorem b_law_eq:b_law=s_pre s_tail:=rfl
theorem cut_last {α:Type} (l:List α):cut l none (some (-1))=l.dropLast:=by
 show (l.drop 0).take ((if (-1:Int) < 0 then (-1+(l.length:Int)).toNat else min (-1:Int).toNat l.length) - 0)=_
 rw[if_pos (by lia)]
 rw[List.drop_zero,List.dropLast_eq_take]
 congr 1
 lia
theorem getD_last {α:Type} {l:List α} {i:Nat} {d:α} (h:i < l.length - 1):l.dropLast.getD i d=l.getD i d:=by
 rw[List.getD_eq_getElem?_getD,List.getD_eq_getElem?_getD,List.getElem?_dropLast,if_pos h]
theorem nums_lt {l:List Nat} {i:Nat} (h:i∈numsV l):i∈l:=by
 unfold numsV at h
 exact List.contains_iff_mem.mp (List.mem_filter.mp h).2
theorem fewer_plays {P:List Part} {Q:List Player} {cl:List (Nat×Nat)} {w:List Nat} (hw:∀x∈w,x < Q.length - 1):playsB P Q.dropLast cl w=playsB P Q cl w:=by
 unfold playsB
 congr 1
 rw[Bool.eq_iff_iff,List.all_eq_true,List.all_eq_true]
 have key:∀k∈List.range w.length,okV P Q.dropLast (w.getD k 0) k=okV P Q (w.getD k 0) k:=λk hk=>by
  have hk:=List.mem_range.mp hk
  have hx:w.getD k 0 < Q.length - 1:=by
   rw[List.getD_eq_getElem?_getD,List.getElem?_eq_getElem hk]
   exact hw _ (List.getElem_mem hk)
  unfold okV mayB
  rw[List.getElem?_dropLast,if_pos hx]
 exact⟨λh k hk=>by rw[←key k hk];exact h k hk,λh k hk=>by rw[key k hk];exact h k hk⟩
theorem fewer_price {h:List Int} {ls:List (List Int)} {w:List Nat} (hw:∀x∈w,x < h.length - 1) (hl:ls.length=h.length):priceW h.dropLast ls.dropLast w=priceW h ls w:=by
 unfold priceW hiredV likedV
 congr 1
 ·congr 1
  exact List.map_congr_left λi hi=>getD_last (hw i (nums_lt hi))
 ·congr 1
  refine List.map_congr_left λk hk=>?_
  have hk:=List.mem_range.mp hk
  rw[getD_last (l:=ls)]
  rw[hl,List.getD_eq_getElem?_getD,List.getElem?_eq_getElem hk]
  exact hw _ (List.getElem_mem hk)
theorem best_of (n:Nat) (P:List Part) (Q:List Player) (Y Z:D) (ss:List Scene) (hs:ss.length≤24) (hv:∀p∈P,(signs p.voice).length=1) (h:List Int) (ls:List (List Int)) (hP:P.length≤8) (hQ:Q.length≤6) (hh:h.length=Q.length) (hls:ls.length=Q.length) (hr:∀r∈ls,r.length=P.length) {f:D}
 (hf:callF T dfs (n+7) 16 [.tup [.tup (P.map Part.enc),.tup (Q.map Player.enc),.tup (ss.map Scene.enc),Y,Z],pricesD h ls]=.ok f):Best P Q (clL P ss P.length) h ls f:=by
 rcases least_is n P Q Y Z ss hs hv h ls hP hQ hh hls hr with ⟨h1,h2⟩ | ⟨w0,h1,h2,h3,h4,h5⟩
 ·rw[hf] at h1
  injection h1 with h1
  exact .inl ⟨h1,h2⟩
 ·rw[hf] at h4
  injection h4 with h4
  exact .inr ⟨w0,h1,h2,h3,h4,h5⟩
theorem law_tail (n:Nat) (P:List Part) (Q:List Player) (ss:List Scene) (L Z x0:D) (x6:Sl) (c:Int) (hP:P.length≤6) (hQ:Q.length≤4) (hv:∀p∈P,(signs p.voice).length=1) (hs:ss.length≤24) (g:∀s∈ss,0≤s.len∧0≤s.pause)
 (h:List Int) (ls:List (List Int)) (hh:h.length=Q.length) (hls:ls.length=Q.length) (hr:∀r∈ls,r.length=P.length) :
 exS T (callF T dfs (n+8)) s_tail [.v x0,.v (.int (P.length:Int)),.v (.int (Q.length:Int)),.v (.tup [.tup (P.map Part.enc),.tup (Q.map Player.enc),.tup (ss.map Scene.enc),L,Z]),.v (pricesD h ls),.v (.int c),x6,.no,.no,.no]=.ok (.rt (.bl true) false):=by
 have hb:=ten_big
 have a1:=least_of (n+1) P Q L Z ss hs hv h ls (by lia) (by lia) hh hls hr
 have a2:=law_paper n P Q L Z ss hs hv h ls hP (by lia) hh hls hr
 generalize ((valL (layerV (cstV P Q ((pairsOf P.length).filter λp=>(reasonOf P ss p.1 p.2).isSome) h ls) Q.length) []).map wayD).getD D.non=f at *
 have bf:=best_of (n+1) P Q L Z ss hs hv h ls (by lia) (by lia) hh hls hr a1
 have a3:=law_clashes (n+6) P (.tup (Q.map Player.enc)) L Z ss hs g (by lia)
 have a4:=law_is_least (n+6) P Q (.tup (ss.map Scene.enc)) L Z (clL P ss P.length) hv (by lia) (by lia) (λp hp=>by
  obtain⟨h1,h2,_⟩:=mem_clL.mp hp
  exact⟨by lia,h2⟩) h ls hh hls hr f bf c
 have i1:∀b:Bool,D.cmp .Eq (.bl b) (.bl b)=.ok (.bl true):=λb=>by cases b<;>rfl
 by_cases q0:Q.length=0
 ·rcases bf with ⟨rfl,g1⟩ | ⟨w0,g1,g2,_,rfl,_⟩
  ·have hp:(0:Int) < (P.length:Int):=by
    rcases Nat.eq_zero_or_pos P.length with z | z
    ·have:=g1 [] z.symm (λx hx=>by cases hx)
     rw[z] at this
     cases this
    ·lia
   rw[q0] at *
   generalize (clL P ss P.length).map pairD=cd at *
   generalize (D.tup [.tup (P.map Part.enc),.tup (Q.map Player.enc),.tup (ss.map Scene.enc),L,Z])=B at *
   generalize pricesD h ls=pr at *
   generalize (P.length:Int)=pl at *
   simp[s_tail,a1,a2,a3,a4,hp,i1]
  ·have hw:w0=[]:=by
    cases w0 with
    | nil=>rfl
    | cons x r=>have:=g2 x List.mem_cons_self;lia
   have hp:(P.length:Int)=0:=by rw[←g1,hw];rfl
   rw[q0,hp] at *
   generalize (clL P ss P.length).map pairD=cd at *
   generalize (D.tup [.tup (P.map Part.enc),.tup (Q.map Player.enc),.tup (ss.map Scene.enc),L,Z])=B at *
   generalize pricesD h ls=pr at *
   generalize lN w0=l0 at *
   generalize priceW h ls w0=p0 at *
   simp[s_tail,a1,a2,a3,a4,i1]
 ·have lq:Q.dropLast.length=Q.length - 1:=List.length_dropLast
  obtain⟨f',b1⟩:∃f',callF T dfs (n+8) 16 [.tup [.tup (P.map Part.enc),.tup (Q.dropLast.map Player.enc),.tup (ss.map Scene.enc),.tup [],.tup []],pricesD h.dropLast ls.dropLast]=.ok f' :=
   ⟨_,least_of (n+1) P Q.dropLast (.tup []) (.tup []) ss hs hv h.dropLast ls.dropLast (by lia) (by lia) (by rw[List.length_dropLast,lq,hh]) (by rw[List.length_dropLast,lq,hls]) (λr hrr=>hr r (List.dropLast_subset _ hrr))⟩
  have b2:=best_of (n+1) P Q.dropLast (.tup []) (.tup []) ss hs hv h.dropLast ls.dropLast (by lia) (by lia) (by rw[List.length_dropLast,lq,hh]) (by rw[List.length_dropLast,lq,hls]) (λr hrr=>hr r (List.dropLast_subset _ hrr)) b1
  have q1:¬(Q.length:Int)=0:=by lia
  have s1:D.sl (.tup (Q.map Player.enc)) none (some (-1))=.ok (.tup (Q.dropLast.map Player.enc)):=by
   show Res.ok (D.tup (cut (Q.map Player.enc) none (some (-1))))=_
   rw[cut_last,List.map_dropLast]
  have s2:D.sl (rowD h) none (some (-1))=.ok (rowD h.dropLast):=by
   show Res.ok (D.tup (cut (h.map D.int) none (some (-1))))=_
   rw[cut_last];unfold rowD;rw[List.map_dropLast]
  have s3:D.sl (.tup (ls.map rowD)) none (some (-1))=.ok (.tup (ls.dropLast.map rowD)):=by
   show Res.ok (D.tup (cut (ls.map rowD) none (some (-1))))=_
   rw[cut_last,List.map_dropLast]
  have fin:f'=.non∨∃p1 p2:Int,∃l1 l2:D,f'=.tup [.int p1,l1]∧f=.tup [.int p2,l2]∧p2≤p1:=by
   rcases b2 with ⟨e,_⟩ | ⟨w1,h1,h2,h3,h4,_⟩
   ·exact .inl e
   ·rw[lq] at h2
    rw[fewer_plays h2] at h3
    have h2':∀x∈w1,x < Q.length:=λx hx=>by have:=h2 x hx;lia
    rw[fewer_price (by rw[hh];exact h2) (by rw[hls,hh])] at h4
    rcases bf with ⟨_,g1⟩ | ⟨w0,_,_,_,g1,g2⟩
    ·rw[g1 w1 h1 h2'] at h3;cases h3
    ·exact .inr ⟨_,_,_,_,h4,g1,g2 w1 h1 h2' h3⟩
  unfold pricesD at *
  generalize (clL P ss P.length).map pairD=cd at *
  generalize Q.dropLast.map Player.enc=qd at *
  generalize Q.map Player.enc=qe at *
  generalize P.map Part.enc=pe at *
  generalize rowD h.dropLast=hd at *
  generalize rowD h=he at *
  generalize ls.dropLast.map rowD=ld at *
  generalize ls.map rowD=le at *
  generalize (Q.length:Int)=qn at *
  rcases fin with rfl | ⟨p1,p2,l1,l2,rfl,rfl,hle⟩
  ·simp[s_tail,a1,a2,a3,a4,q1,s1,s2,s3,b1]
  ·simp[s_tail,a1,a2,a3,a4,q1,s1,s2,s3,b1,hle]
theorem law_true (ns:List Int) (hn:ns.length≤63):callF T dfs 40 44 [.lst (ns.map D.int)]=.ok (.bl true):=by
 have hb:=ten_big
 have e1:=cell_at 38 ns 0
 rw[show ((0:Nat):Int)=0 from rfl] at e1
 have e4:=cell_at 38 ns 4
 rw[show ((4:Nat):Int)=4 from rfl] at e4
 obtain⟨many,hm⟩:∃many:Nat,cellV ns 0 % 7=many:=⟨(cellV ns 0 % 7).toNat,by lia⟩
 obtain⟨pls,hp⟩:∃pls:Nat,cellV ns 0 / 7 % 5=pls:=⟨(cellV ns 0 / 7 % 5).toNat,by lia⟩
 have hm6:many≤6:=by lia
 have hp4:pls≤4:=by lia
 obtain⟨P,Q,ss,ls,hP,hv,hQ,hss,good,gl,e2⟩:=law_book 36 ns many pls (by lia) (by lia)
 have g:∀s∈ss,0≤s.len∧0≤s.pause:=λs hs=>⟨(good s hs).len,(good s hs).pause⟩
 have e3:=prices_of 36 (.tup (ss.map Scene.enc)) P Q ls (by lia) (by lia)
 have tail:=λ(x6:Sl) (c:Int) (h:List Int) (l2:List (List Int))=>law_tail 31 P Q ss (.tup (ls.map likeD)) (.tup []) (.lst (ns.map D.int)) x6 c (by lia) (by lia) hv (by lia) g h l2
 refine callF_rt (k:=false) rfl rfl rfl ?_
 show exS T (callF T dfs 39) b_law _=_
 rw[b_law_eq]
 rw[show (D.tup [.tup (P.map Part.enc),.tup (Q.map Player.enc),.tup (ss.map Scene.enc),.tup (ls.map likeD),.tup []])=bookK (.tup (ss.map Scene.enc)) P Q ls from rfl] at tail
 generalize s_tail=tl at *
 subst hP
 subst hQ
 generalize cellV ns 4=c at *
 have rgm:=rng_nat (n:=P.length) (by lia)
 have lm:((List.range P.length).map natI).length≤big:=by rw[List.length_map,List.length_range];lia
 by_cases q:c % 3=1
 ·obtain⟨cs,c1,c2⟩:=cast_comp 38 c P.length Q.length (by lia) (by lia) (.v (.lst (ns.map D.int))) (.v (.int (P.length:Int))) (.v (bookK (.tup (ss.map Scene.enc)) P Q ls)) (.v (pricesD (Q.map Player.hire) ((List.range Q.length).map λi=>(List.range P.length).map (likeV ls i)))) .no .no .no .no
  have e5:=prices_of_change 37 (.tup (ss.map Scene.enc)) P Q ls (by lia) cs (by lia)
  have t:=tail (.v (.lst (cs.map optN))) c (List.replicate Q.length 0) ((List.range Q.length).map (chgV cs)) (by rw[List.length_replicate]) (by rw[List.length_map,List.length_range]) (λr hr=>by
   obtain⟨p,_,rfl⟩:=List.mem_map.mp hr
   unfold chgV
   rw[List.length_map];exact c1)
  clear tail
  generalize pricesD (Q.map Player.hire) _=pd at *
  generalize pricesD (List.replicate Q.length 0) _=pd2 at *
  generalize bookK (.tup (ss.map Scene.enc)) P Q ls=BK at *
  generalize (List.range P.length).map natI=RM at *
  simp[s_pre,e1,hm,hp,e2,e3,e4,q,rgm,c2,lm,e5,t]
 ·have t:=tail .no c (Q.map Player.hire) ((List.range Q.length).map λi=>(List.range P.length).map (likeV ls i)) (by rw[List.length_map]) (by rw[List.length_map,List.length_range]) (λr hr=>by
   obtain⟨p,_,rfl⟩:=List.mem_map.mp hr
   rw[List.length_map,List.length_range])
  clear tail
  generalize pricesD _ _=pd at *
  generalize bookK (.tup (ss.map Scene.enc)) P Q ls=BK at *
  simp[s_pre,e1,hm,hp,e2,e3,e4,q,t]
end K42
namespace K42
open PySem L2 Tr
noncomputable def top (i:Nat):Stmt:=PySem.Challenge.pw_troupe_k42_whole_least_with_papers.main.body.getD i (.Pass ⟨0,0,0,0⟩)
noncomputable abbrev d_are_unlike:DefT:=⟨"are_unlike", top 5,["things"],["things"],b_are_unlike,none⟩
noncomputable abbrev d_time_between:DefT:=⟨"time_between", top 7,["book", "s", "t", "scenes"],["book", "s", "t"],b_time_between,none⟩
noncomputable abbrev d_change_time:DefT:=⟨"change_time", top 8,["book", "one", "other"],["book", "one", "other"],b_change_time,none⟩
noncomputable abbrev d_short_change_from:DefT:=⟨"short_change_from", top 9,["book", "s", "one", "other", "need", "t", "have"],["book", "s", "one", "other"],b_short_change_from,none⟩
noncomputable abbrev d_reason_from:DefT:=⟨"reason_from", top 10,["book", "s", "i", "j", "numbers"],["book", "s", "i", "j"],b_reason_from,none⟩
noncomputable abbrev d_reason_of:DefT:=⟨"reason_of", top 11,["book", "i", "j", "s", "reason"],["book", "i", "j"],b_reason_of,none⟩
noncomputable abbrev d_clashes_of:DefT:=⟨"clashes_of", top 12,["book", "pairs", "many", "i"],["book"],b_clashes_of,none⟩
noncomputable abbrev d_fault_of_part:DefT:=⟨"fault_of_part", top 14,["book", "i", "player"],["book", "i", "player"],b_fault_of_part,none⟩
noncomputable abbrev d_may_join:DefT:=⟨"may_join", top 16,["clashes", "taken", "part"],["clashes", "taken", "part"],b_may_join,none⟩
noncomputable abbrev d_takings_of:DefT:=⟨"takings_of", top 17,["book", "clashes", "player", "left", "takings", "part"],["book", "clashes", "player", "left"],b_takings_of,none⟩
noncomputable abbrev d_price_of_taking:DefT:=⟨"price_of_taking", top 18,["prices", "player", "taken", "hires", "likes"],["prices", "player", "taken"],b_price_of_taking,none⟩
noncomputable abbrev d_left_behind:DefT:=⟨"left_behind", top 19,["left", "taken"],["left", "taken"],b_left_behind,none⟩
noncomputable abbrev d_with_parts:DefT:=⟨"with_parts", top 20,["casting", "taken", "player"],["casting", "taken", "player"],b_with_parts,none⟩
noncomputable abbrev d_first_ways:DefT:=⟨"first_ways", top 21,["book", "many"],["book"],b_first_ways,none⟩
noncomputable abbrev d_next_ways:DefT:=⟨"next_ways", top 22,["book", "clashes", "prices", "player", "ways", "found", "left", "price", "casting", "taken", "behind", "cost"],["book", "clashes", "prices", "player", "ways"],b_next_ways,none⟩
noncomputable abbrev d_all_ways:DefT:=⟨"all_ways", top 23,["book", "prices", "clashes", "layers", "player"],["book", "prices"],b_all_ways,none⟩
noncomputable abbrev d_least_of:DefT:=⟨"least_of", top 24,["book", "prices"],["book", "prices"],b_least_of,none⟩
noncomputable abbrev d_layer_of:DefT:=⟨"layer_of", top 26,["ways"],["ways"],b_layer_of,none⟩
noncomputable abbrev d_paper_of:DefT:=⟨"paper_of", top 27,["book", "prices"],["book", "prices"],b_paper_of,none⟩
noncomputable abbrev d_has_its_layers:DefT:=⟨"has_its_layers", top 28,["book", "paper"],["book", "paper"],b_has_its_layers,none⟩
noncomputable abbrev d_has_each_left_once:DefT:=⟨"has_each_left_once", top 29,["layer"],["layer"],b_has_each_left_once,none⟩
noncomputable abbrev d_holds_behind : DefT := ⟨"holds_behind", top 30, ["book", "clashes", "prices", "player", "entry", "following", "left", "price", "taken", "behind"], ["book", "clashes", "prices", "player", "entry", "following"], b_holds_behind, none⟩
noncomputable abbrev d_holds_step_by_step : DefT := ⟨"holds_step_by_step", top 31, ["book", "prices", "paper", "clashes", "player", "following"], ["book", "prices", "paper"], b_holds_step_by_step, none⟩
noncomputable abbrev d_ends_with:DefT:=⟨"ends_with", top 32,["layer", "price", "ends"],["layer", "price"],b_ends_with,none⟩
noncomputable abbrev d_holds : DefT := ⟨"holds", top 33, ["book", "prices", "paper", "price"], ["book", "prices", "paper", "price"], b_holds, none⟩
noncomputable abbrev d_like_of:DefT:=⟨"like_of", top 35,["book", "player", "part", "like"],["book", "player", "part"],b_like_of,none⟩
noncomputable abbrev d_likes_of:DefT:=⟨"likes_of", top 36,["book", "player"],["book", "player"],b_likes_of,none⟩
noncomputable abbrev d_prices_of:DefT:=⟨"prices_of", top 37,["book", "hires", "likes"],["book"],b_prices_of,none⟩
noncomputable abbrev d_likes_of_change:DefT:=⟨"likes_of_change", top 38,["casting", "player"],["casting", "player"],b_likes_of_change,none⟩
noncomputable abbrev d_prices_of_change:DefT:=⟨"prices_of_change", top 39,["book", "casting", "players"],["book", "casting"],b_prices_of_change,none⟩
noncomputable abbrev d_law_cell_at:DefT:=⟨"_law_cell_at", top 41,["_law_script", "_law_k"],["_law_script", "_law_k"],b_law_cell_at,none⟩
noncomputable abbrev d_law_mixed:DefT:=⟨"_law_mixed", top 42,["_law_cell", "_law_k"],["_law_cell", "_law_k"],b_law_mixed,none⟩
noncomputable abbrev d_law_minutes:DefT:=⟨"_law_minutes", top 43,["_law_n"],["_law_n"],b_law_minutes,none⟩
noncomputable abbrev d_law_parts:DefT:=⟨"_law_parts", top 44,["_law_n", "_law_many", "_law_found", "_law_k", "_law_m", "_law_off", "_law_put_on"],["_law_n", "_law_many"],b_law_parts,none⟩
noncomputable abbrev d_law_scenes:DefT:=⟨"_law_scenes", top 45,["_law_cells", "_law_many", "_law_found", "_law_k", "_law_cell", "_law_m", "_law_numbers", "_law_name"],["_law_cells", "_law_many"],b_law_scenes,none⟩
noncomputable abbrev d_law_players:DefT:=⟨"_law_players", top 46,["_law_n", "_law_many", "_law_found", "_law_k", "_law_m", "_law_voices", "_law_hire"],["_law_n", "_law_many"],b_law_players,none⟩
noncomputable abbrev d_law_likes:DefT:=⟨"_law_likes", top 47,["_law_n", "_law_players_here", "_law_many", "_law_found", "_law_player", "_law_part", "_law_m"],["_law_n", "_law_players_here", "_law_many"],b_law_likes,none⟩
noncomputable abbrev d_law_book:DefT:=⟨"_law_book", top 48,["_law_script", "_law_parts_here", "_law_players_here", "_law_scenes_here", "_law_told", "_law_cells", "_law_team"],["_law_script", "_law_parts_here", "_law_players_here", "_law_scenes_here"],b_law_book,none⟩
noncomputable abbrev d_law_clash:DefT:=⟨"_law_clash", top 49,["_law_parts_here", "_law_scenes_here", "_law_i", "_law_j", "_law_now", "_law_last", "_law_scene", "_law_one", "_law_other"],["_law_parts_here", "_law_scenes_here", "_law_i", "_law_j"],b_law_clash,none⟩
noncomputable abbrev d_law_clashes:DefT:=⟨"_law_clashes", top 50,["_law_book_here", "_law_found", "_law_j"],["_law_book_here"],b_law_clashes,none⟩
noncomputable abbrev d_law_plays:DefT:=⟨"_law_plays", top 51,["_law_book_here", "_law_clashes_here", "_law_casting", "_law_part", "_law_player", "_law_i", "_law_j"],["_law_book_here", "_law_clashes_here", "_law_casting"],b_law_plays,none⟩
noncomputable abbrev d_law_price:DefT:=⟨"_law_price", top 52,["_law_prices", "_law_casting", "_law_price_here"],["_law_prices", "_law_casting"],b_law_price,none⟩
noncomputable abbrev d_law_paper:DefT:=⟨"_law_paper", top 53,["_law_book_here", "_law_prices", "_law_found", "_law_paper_here"],["_law_book_here", "_law_prices", "_law_found"],b_law_paper,none⟩
noncomputable abbrev d_law_is_least:DefT:=⟨"_law_is_least", top 54,["_law_book_here", "_law_clashes_here", "_law_prices", "_law_found", "_law_n", "_law_players_here", "_law_k", "_law_casting"],["_law_book_here", "_law_clashes_here", "_law_prices", "_law_found", "_law_n"],b_law_is_least,none⟩
noncomputable abbrev d_law:DefT:=⟨"law", top 55,["_law_script", "_law_parts_here", "_law_players_here", "_law_book_here", "_law_prices", "_law_n", "_law_casting", "_law_found", "_law_fewer", "_law_less"],["_law_script"],b_law,none⟩
noncomputable def defs : List DefT := [d_are_unlike, d_time_between, d_change_time, d_short_change_from, d_reason_from, d_reason_of, d_clashes_of, d_fault_of_part, d_may_join, d_takings_of, d_price_of_taking, d_left_behind, d_with_parts, d_first_ways, d_next_ways, d_all_ways, d_least_of, d_layer_of, d_paper_of, d_has_its_layers, d_has_each_left_once, d_holds_behind, d_holds_step_by_step, d_ends_with, d_holds, d_like_of, d_likes_of, d_prices_of, d_likes_of_change, d_prices_of_change, d_law_cell_at, d_law_mixed, d_law_minutes, d_law_parts, d_law_scenes, d_law_players, d_law_likes, d_law_book, d_law_clash, d_law_clashes, d_law_plays, d_law_price, d_law_paper, d_law_is_least, d_law]
noncomputable def Tx:Txt:=⟨["PARTS", "PLAYERS", "SCENES", "LIKES"],[("are_unlike":Str),("time_between":Str),("change_time":Str),("short_change_from":Str),("reason_from":Str),("reason_of":Str),("clashes_of":Str),("fault_of_part":Str),("may_join":Str),("takings_of":Str),("price_of_taking":Str),("left_behind":Str),("with_parts":Str),("first_ways":Str),("next_ways":Str),("all_ways":Str),("least_of":Str),("layer_of":Str),("paper_of":Str),("has_its_layers":Str),("has_each_left_once":Str),("holds_behind":Str),("holds_step_by_step":Str),("ends_with":Str),("holds":Str),("like_of":Str),("likes_of":Str),("prices_of":Str),("likes_of_change":Str),("prices_of_change":Str),("_law_cell_at":Str),("_law_mixed":Str),("_law_minutes":Str),("_law_parts":Str),("_law_scenes":Str),("_law_players":Str),("_law_likes":Str),("_law_book":Str),("_law_clash":Str),("_law_clashes":Str),("_law_plays":Str),("_law_price":Str),("_law_paper":Str),("_law_is_least":Str),("law":Str)],[],[],[],[],[]⟩
theorem okB:defs.all (·.okB Tx)=true:=by decide +kernel
end K42
open PySem PySem.W PyProof.Rows
set_option maxRecDepth 100000 in
set_option maxHeartbeats 0 in
theorem PySem.Challenge.cw_troupe_k42_whole_least_with_papers_holds : PySem.Challenge.rw_troupe_k42_whole_least_with_papers.Holds := by
 refine K42.hd ?_
 k_fill
 refine Tr.walkT (l:=PySem.Challenge.rw_troupe_k42_whole_least_with_papers) (T:=K42.T) (Tx:=K42.Tx) (defs:=K42.defs) (i:=44) (n:=40) rfl rfl rfl rfl rfl ⟨rfl,by decide,by decide⟩ K42.law_true (λw h Y=>PySem.W.kIn_of Y) ?X (λ_ _ _ _ _ _ _=>rfl)
 case X =>
  intro w mg h KX G
  refine' Tr.text_plain ⟨Tr.dn_of rfl rfl,K42.okB,(Tr.all_cons (Tr.fun_in KX G ?a0 ?l0 ?c0 ?k0 ?b0) (Tr.all_cons (Tr.fun_in KX G ?a1 ?l1 ?c1 ?k1 ?b1) (Tr.all_cons (Tr.fun_in KX G ?a2 ?l2 ?c2 ?k2 ?b2) (Tr.all_cons (Tr.fun_in KX G ?a3 ?l3 ?c3 ?k3 ?b3) (Tr.all_cons (Tr.fun_in KX G ?a4 ?l4 ?c4 ?k4 ?b4) (Tr.all_cons (Tr.fun_in KX G ?a5 ?l5 ?c5 ?k5 ?b5) (Tr.all_cons (Tr.fun_in KX G ?a6 ?l6 ?c6 ?k6 ?b6) (Tr.all_cons (Tr.fun_in KX G ?a7 ?l7 ?c7 ?k7 ?b7) (Tr.all_cons (Tr.fun_in KX G ?a8 ?l8 ?c8 ?k8 ?b8) (Tr.all_cons (Tr.fun_in KX G ?a9 ?l9 ?c9 ?k9 ?b9) (Tr.all_cons (Tr.fun_in KX G ?a10 ?l10 ?c10 ?k10 ?b10) (Tr.all_cons (Tr.fun_in KX G ?a11 ?l11 ?c11 ?k11 ?b11) (Tr.all_cons (Tr.fun_in KX G ?a12 ?l12 ?c12 ?k12 ?b12) (Tr.all_cons (Tr.fun_in KX G ?a13 ?l13 ?c13 ?k13 ?b13) (Tr.all_cons (Tr.fun_in KX G ?a14 ?l14 ?c14 ?k14 ?b14) (Tr.all_cons (Tr.fun_in KX G ?a15 ?l15 ?c15 ?k15 ?b15) (Tr.all_cons (Tr.fun_in KX G ?a16 ?l16 ?c16 ?k16 ?b16) (Tr.all_cons (Tr.fun_in KX G ?a17 ?l17 ?c17 ?k17 ?b17) (Tr.all_cons (Tr.fun_in KX G ?a18 ?l18 ?c18 ?k18 ?b18) (Tr.all_cons (Tr.fun_in KX G ?a19 ?l19 ?c19 ?k19 ?b19) (Tr.all_cons (Tr.fun_in KX G ?a20 ?l20 ?c20 ?k20 ?b20) (Tr.all_cons (Tr.fun_in KX G ?a21 ?l21 ?c21 ?k21 ?b21) (Tr.all_cons (Tr.fun_in KX G ?a22 ?l22 ?c22 ?k22 ?b22) (Tr.all_cons (Tr.fun_in KX G ?a23 ?l23 ?c23 ?k23 ?b23) (Tr.all_cons (Tr.fun_in KX G ?a24 ?l24 ?c24 ?k24 ?b24) (Tr.all_cons (Tr.fun_in KX G ?a25 ?l25 ?c25 ?k25 ?b25) (Tr.all_cons (Tr.fun_in KX G ?a26 ?l26 ?c26 ?k26 ?b26) (Tr.all_cons (Tr.fun_in KX G ?a27 ?l27 ?c27 ?k27 ?b27) (Tr.all_cons (Tr.fun_in KX G ?a28 ?l28 ?c28 ?k28 ?b28) (Tr.all_cons (Tr.fun_in KX G ?a29 ?l29 ?c29 ?k29 ?b29) (Tr.all_cons (Tr.fun_in KX G ?a30 ?l30 ?c30 ?k30 ?b30) (Tr.all_cons (Tr.fun_in KX G ?a31 ?l31 ?c31 ?k31 ?b31) (Tr.all_cons (Tr.fun_in KX G ?a32 ?l32 ?c32 ?k32 ?b32) (Tr.all_cons (Tr.fun_in KX G ?a33 ?l33 ?c33 ?k33 ?b33) (Tr.all_cons (Tr.fun_in KX G ?a34 ?l34 ?c34 ?k34 ?b34) (Tr.all_cons (Tr.fun_in KX G ?a35 ?l35 ?c35 ?k35 ?b35) (Tr.all_cons (Tr.fun_in KX G ?a36 ?l36 ?c36 ?k36 ?b36) (Tr.all_cons (Tr.fun_in KX G ?a37 ?l37 ?c37 ?k37 ?b37) (Tr.all_cons (Tr.fun_in KX G ?a38 ?l38 ?c38 ?k38 ?b38) (Tr.all_cons (Tr.fun_in KX G ?a39 ?l39 ?c39 ?k39 ?b39) (Tr.all_cons (Tr.fun_in KX G ?a40 ?l40 ?c40 ?k40 ?b40) (Tr.all_cons (Tr.fun_in KX G ?a41 ?l41 ?c41 ?k41 ?b41) (Tr.all_cons (Tr.fun_in KX G ?a42 ?l42 ?c42 ?k42 ?b42) (Tr.all_cons (Tr.fun_in KX G ?a43 ?l43 ?c43 ?k43 ?b43) (Tr.all_cons (Tr.fun_in KX G ?a44 ?l44 ?c44 ?k44 ?b44) Tr.all_nil))))))))))))))))))))))))))))))))))))))))))))),(Tr.gl_cons (Tr.glob_int KX G ?gg0) (Tr.gl_cons (Tr.glob_int KX G ?gg1) (Tr.gl_cons (Tr.glob_int KX G ?gg2) (Tr.gl_cons (Tr.glob_int KX G ?gg3) Tr.gl_nil)))),(Tr.all_cons (Tr.blt_none KX G ?z0) (Tr.all_cons (Tr.blt_none KX G ?z1) (Tr.all_cons (Tr.blt_none KX G ?z2) (Tr.all_cons (Tr.blt_none KX G ?z3) (Tr.all_cons (Tr.blt_none KX G ?z4) (Tr.all_cons (Tr.blt_none KX G ?z5) (Tr.all_cons (Tr.blt_none KX G ?z6) (Tr.all_cons (Tr.blt_none KX G ?z7) (Tr.all_cons (Tr.blt_none KX G ?z8) (Tr.all_cons (Tr.blt_none KX G ?z9) (Tr.all_cons (Tr.blt_none KX G ?z10) (Tr.all_cons (Tr.blt_none KX G ?z11) (Tr.all_cons (Tr.blt_none KX G ?z12) (Tr.all_cons (Tr.blt_none KX G ?z13) (Tr.all_cons (Tr.blt_none KX G ?z14) (Tr.all_cons (Tr.blt_none KX G ?z15) (Tr.all_cons (Tr.blt_none KX G ?z16) (Tr.all_cons (Tr.blt_none KX G ?z17) (Tr.all_cons (Tr.blt_none KX G ?z18) Tr.all_nil))))))))))))))))))),Tr.all_nil,Tr.all_nil,Tr.all_nil,Tr.all_nil,Tr.all_nil,Tr.all_nil⟩ rfl
  (case a0=>k_is);(case l0=>k_is);(case c0=>k_is);(case k0=>k_is)
  (case b0=>exact λ_ _ _ _ _ _=>Tr.len1 (λ_=>rfl))
  (case a1=>k_is);(case l1=>k_is);(case c1=>k_is);(case k1=>k_is)
  (case b1=>exact λ_ _ _ _ _ _=>Tr.len3 (λ_ _ _=>rfl))
  (case a2=>k_is);(case l2=>k_is);(case c2=>k_is);(case k2=>k_is)
  (case b2=>exact λ_ _ _ _ _ _=>Tr.len3 (λ_ _ _=>rfl))
  (case a3=>k_is);(case l3=>k_is);(case c3=>k_is);(case k3=>k_is)
  (case b3=>exact λ_ _ _ _ _ _=>Tr.len4 (λ_ _ _ _=>rfl))
  (case a4=>k_is);(case l4=>k_is);(case c4=>k_is);(case k4=>k_is)
  (case b4=>exact λ_ _ _ _ _ _=>Tr.len4 (λ_ _ _ _=>rfl))
  (case a5=>k_is);(case l5=>k_is);(case c5=>k_is);(case k5=>k_is)
  (case b5=>exact λ_ _ _ _ _ _=>Tr.len3 (λ_ _ _=>rfl))
  (case a6=>k_is);(case l6=>k_is);(case c6=>k_is);(case k6=>k_is)
  (case b6=>exact λ_ _ _ _ _ _=>Tr.len1 (λ_=>rfl))
  (case a7=>k_is);(case l7=>k_is);(case c7=>k_is);(case k7=>k_is)
  (case b7=>exact λ_ _ _ _ _ _=>Tr.len3 (λ_ _ _=>rfl))
  (case a8=>k_is);(case l8=>k_is);(case c8=>k_is);(case k8=>k_is)
  (case b8=>exact λ_ _ _ _ _ _=>Tr.len3 (λ_ _ _=>rfl))
  (case a9=>k_is);(case l9=>k_is);(case c9=>k_is);(case k9=>k_is)
  (case b9=>exact λ_ _ _ _ _ _=>Tr.len4 (λ_ _ _ _=>rfl))
  (case a10=>k_is);(case l10=>k_is);(case c10=>k_is);(case k10=>k_is)
  (case b10=>exact λ_ _ _ _ _ _=>Tr.len3 (λ_ _ _=>rfl))
  (case a11=>k_is);(case l11=>k_is);(case c11=>k_is);(case k11=>k_is)
  (case b11=>exact λ_ _ _ _ _ _=>Tr.len2 (λ_ _=>rfl))
  (case a12=>k_is);(case l12=>k_is);(case c12=>k_is);(case k12=>k_is)
  (case b12=>exact λ_ _ _ _ _ _=>Tr.len3 (λ_ _ _=>rfl))
  (case a13=>k_is);(case l13=>k_is);(case c13=>k_is);(case k13=>k_is)
  (case b13=>exact λ_ _ _ _ _ _=>Tr.len1 (λ_=>rfl))
  (case a14=>k_is);(case l14=>k_is);(case c14=>k_is);(case k14=>k_is)
  (case b14=>exact λ_ _ _ _ _ _=>Tr.len5 (λ_ _ _ _ _=>rfl))
  (case a15=>k_is);(case l15=>k_is);(case c15=>k_is);(case k15=>k_is)
  (case b15=>exact λ_ _ _ _ _ _=>Tr.len2 (λ_ _=>rfl))
  (case a16=>k_is);(case l16=>k_is);(case c16=>k_is);(case k16=>k_is)
  (case b16=>exact λ_ _ _ _ _ _=>Tr.len2 (λ_ _=>rfl))
  (case a17=>k_is);(case l17=>k_is);(case c17=>k_is);(case k17=>k_is)
  (case b17=>exact λ_ _ _ _ _ _=>Tr.len1 (λ_=>rfl))
  (case a18=>k_is);(case l18=>k_is);(case c18=>k_is);(case k18=>k_is)
  (case b18=>exact λ_ _ _ _ _ _=>Tr.len2 (λ_ _=>rfl))
  (case a19=>k_is);(case l19=>k_is);(case c19=>k_is);(case k19=>k_is)
  (case b19=>exact λ_ _ _ _ _ _=>Tr.len2 (λ_ _=>rfl))
  (case a20=>k_is);(case l20=>k_is);(case c20=>k_is);(case k20=>k_is)
  (case b20=>exact λ_ _ _ _ _ _=>Tr.len1 (λ_=>rfl))
  (case a21=>k_is);(case l21=>k_is);(case c21=>k_is);(case k21=>k_is)
  (case b21=>exact λ_ _ _ _ _ _=>Tr.len6 (λ_ _ _ _ _ _=>rfl))
  (case a22=>k_is);(case l22=>k_is);(case c22=>k_is);(case k22=>k_is)
  (case b22=>exact λ_ _ _ _ _ _=>Tr.len3 (λ_ _ _=>rfl))
  (case a23=>k_is);(case l23=>k_is);(case c23=>k_is);(case k23=>k_is)
  (case b23=>exact λ_ _ _ _ _ _=>Tr.len2 (λ_ _=>rfl))
  (case a24=>k_is);(case l24=>k_is);(case c24=>k_is);(case k24=>k_is)
  (case b24=>exact λ_ _ _ _ _ _=>Tr.len4 (λ_ _ _ _=>rfl))
  (case a25=>k_is);(case l25=>k_is);(case c25=>k_is);(case k25=>k_is)
  (case b25=>exact λ_ _ _ _ _ _=>Tr.len3 (λ_ _ _=>rfl))
  (case a26=>k_is);(case l26=>k_is);(case c26=>k_is);(case k26=>k_is)
  (case b26=>exact λ_ _ _ _ _ _=>Tr.len2 (λ_ _=>rfl))
  (case a27=>k_is);(case l27=>k_is);(case c27=>k_is);(case k27=>k_is)
  (case b27=>exact λ_ _ _ _ _ _=>Tr.len1 (λ_=>rfl))
  (case a28=>k_is);(case l28=>k_is);(case c28=>k_is);(case k28=>k_is)
  (case b28=>exact λ_ _ _ _ _ _=>Tr.len2 (λ_ _=>rfl))
  (case a29=>k_is);(case l29=>k_is);(case c29=>k_is);(case k29=>k_is)
  (case b29=>exact λ_ _ _ _ _ _=>Tr.len2 (λ_ _=>rfl))
  (case a30=>k_is);(case l30=>k_is);(case c30=>k_is);(case k30=>k_is)
  (case b30=>exact λ_ _ _ _ _ _=>Tr.len2 (λ_ _=>rfl))
  (case a31=>k_is);(case l31=>k_is);(case c31=>k_is);(case k31=>k_is)
  (case b31=>exact λ_ _ _ _ _ _=>Tr.len2 (λ_ _=>rfl))
  (case a32=>k_is);(case l32=>k_is);(case c32=>k_is);(case k32=>k_is)
  (case b32=>exact λ_ _ _ _ _ _=>Tr.len1 (λ_=>rfl))
  (case a33=>k_is);(case l33=>k_is);(case c33=>k_is);(case k33=>k_is)
  (case b33=>exact λ_ _ _ _ _ _=>Tr.len2 (λ_ _=>rfl))
  (case a34=>k_is);(case l34=>k_is);(case c34=>k_is);(case k34=>k_is)
  (case b34=>exact λ_ _ _ _ _ _=>Tr.len2 (λ_ _=>rfl))
  (case a35=>k_is);(case l35=>k_is);(case c35=>k_is);(case k35=>k_is)
  (case b35=>exact λ_ _ _ _ _ _=>Tr.len2 (λ_ _=>rfl))
  (case a36=>k_is);(case l36=>k_is);(case c36=>k_is);(case k36=>k_is)
  (case b36=>exact λ_ _ _ _ _ _=>Tr.len3 (λ_ _ _=>rfl))
  (case a37=>k_is);(case l37=>k_is);(case c37=>k_is);(case k37=>k_is)
  (case b37=>exact λ_ _ _ _ _ _=>Tr.len4 (λ_ _ _ _=>rfl))
  (case a38=>k_is);(case l38=>k_is);(case c38=>k_is);(case k38=>k_is)
  (case b38=>exact λ_ _ _ _ _ _=>Tr.len4 (λ_ _ _ _=>rfl))
  (case a39=>k_is);(case l39=>k_is);(case c39=>k_is);(case k39=>k_is)
  (case b39=>exact λ_ _ _ _ _ _=>Tr.len1 (λ_=>rfl))
  (case a40=>k_is);(case l40=>k_is);(case c40=>k_is);(case k40=>k_is)
  (case b40=>exact λ_ _ _ _ _ _=>Tr.len3 (λ_ _ _=>rfl))
  (case a41=>k_is);(case l41=>k_is);(case c41=>k_is);(case k41=>k_is)
  (case b41=>exact λ_ _ _ _ _ _=>Tr.len2 (λ_ _=>rfl))
  (case a42=>k_is);(case l42=>k_is);(case c42=>k_is);(case k42=>k_is)
  (case b42=>exact λ_ _ _ _ _ _=>Tr.len3 (λ_ _ _=>rfl))
  (case a43=>k_is);(case l43=>k_is);(case c43=>k_is);(case k43=>k_is)
  (case b43=>exact λ_ _ _ _ _ _=>Tr.len5 (λ_ _ _ _ _=>rfl))
  (case a44=>k_is);(case l44=>k_is);(case c44=>k_is);(case k44=>k_is)
  (case b44=>exact λ_ _ _ _ _ _=>Tr.len1 (λ_=>rfl))
  (case gg0=>k_is)
  (case gg1=>k_is)
  (case gg2=>k_is)
  (case gg3=>k_is)
  (case z0=>k_is)
  (case z1=>k_is)
  (case z2=>k_is)
  (case z3=>k_is)
  (case z4=>k_is)
  (case z5=>k_is)
  (case z6=>k_is)
  (case z7=>k_is)
  (case z8=>k_is)
  (case z9=>k_is)
  (case z10=>k_is)
  (case z11=>k_is)
  (case z12=>k_is)
  (case z13=>k_is)
  (case z14=>k_is)
  (case z15=>k_is)
  (case z16=>k_is)
  (case z17=>k_is)
  (case z18=>k_is)
