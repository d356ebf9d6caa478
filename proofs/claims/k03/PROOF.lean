import PyProof.Rows.All
import Wide.All
import OpenK.AllK
import Wide.FinOn
import Lean
import PyProof.EqAt
import PyProof.EqKinds
import PyProof.TupleCall
import PySem.Challenge.RW_troupe_k03_no_book
set_option Elab.async false
set_option genSizeOf false
set_option bootstrap.genMatcherCode false
set_option compiler.extract_closed false
set_option genSizeOfSpec false
set_option linter.all false
set_option maxRecDepth 100000
namespace K03
theorem both1 {a b:Bool} (h:(a&&b)=true):a=true:=(Bool.and_eq_true_iff.mp h).1
theorem both2 {a b:Bool} (h:(a&&b)=true):b=true:=(Bool.and_eq_true_iff.mp h).2
noncomputable def vw:PySem.Program:=PySem.W.view PySem.Challenge.pw_troupe_k03_no_book [1,2,3,4,5,6,8,9,10,11,12,13,14,15,16,17,18,19,20,21,22,23,24,25,26,27,28,29,30,31,33,34,35,36,37,38,39,40,41,42,43,44,45,46,47]
end K03
section
open PySem PySem.W PyProof.Rows
set_option maxHeartbeats 0
local macro_rules
  | `(tactic| o_head $H)=>`(tactic| (
    apply holds_open (N:=4900) (q:=K03.vw) (loose:=[("READERS" : PySem.Str)])
      (Yf:=($H).obs) (Ya:=($H).val) (YP:=($H).says)
      (XP:=XL K03.vw []) (Xt:=fun s=>xlAt K03.vw [] s&&recOk (PySem.Challenge.rw_troupe_k03_no_book.row.toRowW).records s)
      (by intro w;kernel_rfl) ($H).of ($H).keeps
      (fun s e=>xl_of s (K03.both1 e)) XL.keeps
      rfl rfl rfl
      (fun s e=>recFacts_of (K03.both2 e))
      rfl (by assumption) (by decide +kernel)
      (by refine⟨rfl,rfl,rfl,rfl,rfl,?_⟩;decide +kernel)))
open_top K03.hd for PySem.Challenge.rw_troupe_k03_no_book
end
set_option Elab.async false
set_option linter.all false
set_option maxRecDepth 100000
namespace L2
open PySem PySem.Spec PyProof.Rows
noncomputable abbrev Key:=Sum Int Str
noncomputable def keyIs:Key→Value→Bool
 | .inl k,v=>Value.isInt k v
 | .inr x,v=>Value.isStrOf x v
noncomputable def keyH (w:World):Key→Int
 | .inl k=>hashInt k
 | .inr x=>hashStr w x
theorem keyIs_shape:∀ {k:Key} {v:Value},keyIs k v=true→(∃i t,k=Sum.inl i∧v=Value.int i t)∨(∃x t,k=Sum.inr x∧v=Value.str x t)
 | .inl i,v,h=>by
  obtain⟨t,e⟩:=Value.isInt_shape (k:=i) (v:=v) h
  exact .inl ⟨i,t,rfl,e⟩
 | .inr x,v,h=>by
  obtain⟨t,e⟩:=Value.isStrOf_shape (x:=x) (v:=v) h
  exact .inr ⟨x,t,rfl,e⟩
theorem keyIs_int (i:Int) (t:Tok):keyIs (.inl i) (.int i t)=true:=by simp[keyIs,Value.isInt]
theorem keyIs_str (x:Str) (t:Tok):keyIs (.inr x) (.str x t)=true:=by simp[keyIs,Value.isStrOf]
theorem key_ll (a b:Int):decide ((Sum.inl a:Key)=Sum.inl b)=(a==b):=by
 by_cases e:a=b
 ·subst e;simp
 ·have h:¬(Sum.inl a:Key)=Sum.inl b:=λq=>e (Sum.inl.inj q)
  rw[decide_eq_false h]
  exact (beq_eq_false_iff_ne.mpr e).symm
theorem key_rr (a b:Str):decide ((Sum.inr a:Key)=Sum.inr b)=decide (a=b):=by
 by_cases e:a=b
 ·subst e;simp
 ·have h:¬(Sum.inr a:Key)=Sum.inr b:=λq=>e (Sum.inr.inj q)
  rw[decide_eq_false h,decide_eq_false e]
theorem key_lr (a:Int) (b:Str):decide ((Sum.inl a:Key)=Sum.inr b)=false:=decide_eq_false (λq=>nomatch q)
theorem key_rl (a:Str) (b:Int):decide ((Sum.inr a:Key)=Sum.inl b)=false:=decide_eq_false (λq=>nomatch q)
noncomputable def mixKind (prog:Program) (w:World):PySem.KeyKind prog w Key where
 is:=keyIs
 hash:=keyH w
 inj:=λv a b ha hb=>by
  rcases keyIs_shape ha with ⟨i,t,rfl,rfl⟩ | ⟨x,t,rfl,rfl⟩
  ·rcases keyIs_shape hb with ⟨j,u,rfl,e⟩ | ⟨y,u,rfl,e⟩
   ·injection e with e1 _;rw[e1]
   ·exact nomatch e
  ·rcases keyIs_shape hb with ⟨j,u,rfl,e⟩ | ⟨y,u,rfl,e⟩
   ·exact nomatch e
   ·injection e with e1 _;rw[e1]
 byValue:=λk v h=>by
  rcases keyIs_shape h with ⟨i,t,rfl,rfl⟩ | ⟨x,t,rfl,rfl⟩<;>rfl
 pyHash:=λhv h=>by
  rcases keyIs_shape hv with ⟨i,t,rfl,rfl⟩ | ⟨x,t,rfl,rfl⟩
  ·exact wpAny_pyHash_int h
  ·exact wpAny_pyHash_str h
 eqBool:=λhu hv h=>by
  rcases keyIs_shape hu with ⟨i,t,rfl,rfl⟩ | ⟨x,t,rfl,rfl⟩
  ·rcases keyIs_shape hv with ⟨j,u,rfl,rfl⟩ | ⟨y,u,rfl,rfl⟩
   ·rw[key_ll] at h;exact wpAny_eqBool_int h
   ·rw[key_lr] at h;exact SeqAt.EqAt.int_str i t y u _ _ _ _ h
  ·rcases keyIs_shape hv with ⟨j,u,rfl,rfl⟩ | ⟨y,u,rfl,rfl⟩
   ·rw[key_rl] at h;exact SeqAt.EqAt.str_int x t j u _ _ _ _ h
   ·rw[key_rr] at h;exact wpAny_eqBool_str h
 «strs»:=λk x t v h=>by
  rcases keyIs_shape h with ⟨i,u,rfl,e⟩ | ⟨y,u,rfl,e⟩
  ·exact nomatch e
  ·injection e with e1 _
   subst e1
   cases v<;>rfl
theorem mixKind_int (prog:Program) (w:World) (i:Int) (t:Tok):(mixKind prog w).is (.inl i) (.int i t)=true:=keyIs_int i t
theorem mixKind_str (prog:Program) (w:World) (x:Str) (t:Tok):(mixKind prog w).is (.inr x) (.str x t)=true:=keyIs_str x t
inductive V where
 | non | bl (b:Bool) | int (i:Int) | str (x:Str) | byt (b:Array UInt8) | flt (b:UInt64) | ref (a:Addr) | ty (n:String)
 deriving DecidableEq
noncomputable def RelV:V→Value→Prop
 | .non,u=>u=Value.none
 | .bl b,u=>u=Value.bool b
 | .int i,u=>∃t,u=Value.int i t
 | .str x,u=>∃t,u=Value.str x t
 | .byt b,u=>∃t,u=Value.bytes b t
 | .flt b,u=>∃t,u=Value.float b t
 | .ref a,u=>u=Value.ref a
 | .ty n,u=>u=Value.type n
noncomputable abbrev Vals:List V→List Value→Prop:=Paired RelV
theorem Vals.length {xs:List V} {us:List Value} (r:Vals xs us):xs.length=us.length:=Paired.length r
theorem Vals.get:∀ {xs:List V} {us:List Value} {i:Nat} {x:V},Vals xs us→xs[i]?=some x→∃u,us[i]?=some u∧RelV x u
 | _,_,_,_,.nil,e=>by simp at e
 | _,_,0,_,.cons r _,e=>by simp at e;subst e;exact⟨_,rfl,r⟩
 | _,_,i+1,x,.cons _ t,e=>by
  obtain⟨u,h1,h2⟩:=Vals.get (i:=i) (x:=x) t (by simpa using e)
  exact⟨u,by simpa using h1,h2⟩
theorem Vals.append:∀ {xs ys:List V} {us ws:List Value},Vals xs us→Vals ys ws→Vals (xs++ys) (us++ws)
 | _,_,_,_,.nil,s=>s
 | _,_,_,_,.cons r t,s=>.cons r (Vals.append t s)
theorem Vals.take:∀ {xs:List V} {us:List Value} (n:Nat),Vals xs us→Vals (xs.take n) (us.take n)
 | _,_,0,_=>.nil
 | _,_,_+1,.nil=>.nil
 | _,_,n+1,.cons r t=>.cons r (Vals.take n t)
theorem Vals.drop:∀ {xs:List V} {us:List Value} (n:Nat),Vals xs us→Vals (xs.drop n) (us.drop n)
 | _,_,0,r=>r
 | _,_,_+1,.nil=>.nil
 | _,_,n+1,.cons _ t=>Vals.drop n t
noncomputable def RelO:Option V→Option Value→Prop
 | some v,some u=>RelV v u
 | none,none=>True
 | _,_=>False
noncomputable def KV {κ:Type}:List (κ×V)→List (κ×Value)→Prop:=Paired λ(p:κ×V) (q:κ×Value)=>p.1=q.1∧RelV p.2 q.2
noncomputable def kV:Key→V
 | .inl i=>.int i
 | .inr x=>.str x
inductive HO where
 | lst (xs:List V)
 | tup (xs:List V)
 | dK (kvs:List (Key×V)) | dT (kvs:List (List Key×V))
 | set (S:Int→Bool) (n:Nat)
 | ins (C dx:Addr) (fs:List (Str×V))
 | own (x:Addr)
 | xd (fs:List (Str×V))
 | met (f x:Addr)
 | rng (lo hi:Int)
 | frz (o:Obj) (u:HO)
 | tbl (ps:Array Value)
 | ext (φ:Heap→Prop)
noncomputable abbrev Hp:=Addr→Option HO
noncomputable def upd (H:Hp) (a:Addr) (o:HO):Hp:=λb=>if b=a then some o else H b
theorem upd_same {H:Hp} {a:Addr} {o:HO}:upd H a o a=some o:=by unfold upd;rw[if_pos rfl]
theorem upd_ne {H:Hp} {a b:Addr} {o:HO} (h:b≠a):upd H a o b=H b:=by unfold upd;rw[if_neg h]
theorem ne_of {H:Hp} {a b:Addr} {o u:HO} (h:H a=some o) (h':H b=some u) (d:o≠u):a≠b:=by
 intro e;subst e;rw[h] at h';exact d (Option.some.inj h')
theorem ne_of_none {H:Hp} {a b:Addr} {o:HO} (h:H a=some o) (h':H b=none):a≠b:=by
 intro e;subst e;rw[h] at h';cases h'
section
variable (P:Program) (w:World)
noncomputable def ObjOk (H:Hp) (h:Heap) (a:Addr):HO→Prop
 | .lst xs=>xs.length≤sizeLine∧∃(its:List Value) (n:Nat),Vals xs its∧h.get? a=some { cls:=.type "list", data:=.seq its.toArray n }
 | .tup xs=>xs.length≤sizeLine∧∃its:List Value,Vals xs its∧IsTup h a its.toArray
 | .dK kvs=>kvs.length≤sizeLine∧(a==sysModules)=false∧∃vs,KV kvs vs∧h.DictOf (mixKind P w) a vs
 | .dT kvs=>kvs.length≤sizeLine∧(a==sysModules)=false∧∃xs:List (List Key×Addr×Value),
  Paired (λ(p:List Key×V) (q:List Key×Addr×Value)=>p.1=q.1∧H q.2.1=some (.tup (p.1.map kV))∧RelV p.2 q.2.2) kvs xs ∧
  ∃o es ep,h.get? a=some o∧o.ExactDict∧o.data=.dict es ep∧es.toList=xs.map (entryOfKey (tupleKind (mixKind P w)))∧(xs.map (·.1)).Nodup
 | .set S n=>h.SetOf (intKind P w) a S n
 | .ins C dx fs=>H dx=some (.own a)∧fs.length≤1000∧dx≠a∧h.get? a=some (PySem.W.instObj C dx) ∧
  ∃mA,h.Ns1 dx mA∧(∀f,RelO (fs.lookup f) (mA f))∧PySem.Within mA (fs.map (·.1))
 | .own _=>∃o,h.get? a=some o
 | .xd fs=>∃mA,h.Ns1 a mA∧∀f,RelO (fs.lookup f) (mA f)
 | .rng lo hi=>∃t u v,h.get? a=some { cls:=.type "range", data:=.fields #[.int lo t,.int hi u,.int 1 v] }
 | .frz o u=>h.get? a=some o∧ObjOk H h a u
 | .tbl ps=>h.get? a=some { cls:=.none,data:=.fields ps }
 | .met f x=>h.get? a=some (PySem.W.methodObj (.ref f) (.ref x))
 | .ext φ=>φ h∧(∃o,h.get? a=some o)∧∀h1 h2:Heap,φ h1→(∀o,h1.get? a=some o→h2.get? a=some o)→φ h2
noncomputable def HOk (H:Hp) (h:Heap):Prop:=∀a o,H a=some o→ObjOk P w H h a o
end
section
variable {P:Program} {w:World} {H H':Hp} {h h':Heap} {a:Addr} {o:HO}
theorem ObjOk.lt (x:ObjOk P w H h a o):a < h.objs.size:=by
 cases o with
 | lst xs=>obtain⟨_,_,_,_,e⟩:=x;exact Heap.lt_size e
 | tup xs=>obtain⟨_,_,_,p⟩:=x;exact p.lt
 | dK kvs=>obtain⟨_,_,_,_,o,_,_,e,_⟩:=x;exact Heap.lt_size e
 | dT kvs=>obtain⟨_,_,_,_,o,_,_,e,_⟩:=x;exact Heap.lt_size e
 | set S n=>obtain⟨o,_,_,_,e,_⟩:=x;exact Heap.lt_size e
 | ins C dx fs=>obtain⟨_,_,_,e,_⟩:=x;exact Heap.lt_size e
 | own y=>obtain⟨_,e⟩:=x;exact Heap.lt_size e
 | xd fs=>obtain⟨_,⟨_,_,_,e,_⟩,_⟩:=x;exact Heap.lt_size e
 | rng lo hi=>obtain⟨_,_,_,e⟩:=x;exact Heap.lt_size e
 | frz ob u=>obtain⟨e,_⟩:=x;exact Heap.lt_size e
 | tbl ps=>exact Heap.lt_size (show h.get? a=some _ from x)
 | met f y=>exact Heap.lt_size (show h.get? a=some _ from x)
 | ext φ=>obtain⟨_,⟨_,e⟩,_⟩:=x;exact Heap.lt_size e
theorem Paired.mapP {α β:Type} {F G:α→β→Prop}:∀ {l₁:List α} {l₂:List β},Paired F l₁ l₂→(∀a b,F a b→G a b)→Paired G l₁ l₂
 | _,_,.nil,_=>.nil
 | _,_,.cons r t,f=>.cons (f _ _ r) (Paired.mapP t f)
theorem ObjOk.stay (x:ObjOk P w H h a o) (k:∀b u,(b=a∨H b=some (.own a))→h.get? b=some u→h'.get? b=some u)
 (ho:∀b,H b=some (.own a)→H' b=some (.own a)) (ht:∀b xs,H b=some (.tup xs)→H' b=some (.tup xs)):ObjOk P w H' h' a o:=by
 induction o with
 | lst xs=>obtain⟨z,its,n,r,e⟩:=x;exact⟨z,its,n,r,k _ _ (.inl rfl) e⟩
 | tup xs=>obtain⟨z,its,r,ob,e,c⟩:=x;exact⟨z,its,r,ob,k _ _ (.inl rfl) e,c⟩
 | dK kvs=>obtain⟨z,y,vs,r,ob,es,ep,e,c⟩:=x;exact⟨z,y,vs,r,ob,es,ep,k _ _ (.inl rfl) e,c⟩
 | dT kvs =>
  obtain⟨z,y,xs,r,ob,es,ep,e,c⟩:=x
  exact⟨z,y,xs,Paired.mapP r λp q z=>⟨z.1,ht _ _ z.2.1,z.2.2⟩,ob,es,ep,k _ _ (.inl rfl) e,c⟩
 | set S n=>obtain⟨ob,es,ep,t,e,c⟩:=x;exact⟨ob,es,ep,t,k _ _ (.inl rfl) e,c⟩
 | ins C dx fs =>
  obtain⟨d,z,ne,e,mA,⟨od,es,ep,e2,c⟩,r⟩:=x
  exact⟨ho _ d,z,ne,k _ _ (.inl rfl) e,mA,⟨od,es,ep,k _ _ (.inr d) e2,c⟩,r⟩
 | own y=>obtain⟨ob,e⟩:=x;exact⟨ob,k _ _ (.inl rfl) e⟩
 | xd fs=>obtain⟨mA,⟨od,es,ep,e,c⟩,r⟩:=x;exact⟨mA,⟨od,es,ep,k _ _ (.inl rfl) e,c⟩,r⟩
 | rng lo hi=>obtain⟨t,u,v,e⟩:=x;exact⟨t,u,v,k _ _ (.inl rfl) e⟩
 | frz ob u ih=>obtain⟨e,q⟩:=x;exact⟨k _ _ (.inl rfl) e,ih q⟩
 | tbl ps =>
  have e:h.get? a=some { cls:=.none,data:=.fields ps }:=x
  show h'.get? a=some { cls:=.none,data:=.fields ps }
  exact k a _ (.inl rfl) e
 | met f y =>
  have e:h.get? a=some (PySem.W.methodObj (.ref f) (.ref y)):=x
  show h'.get? a=some (PySem.W.methodObj (.ref f) (.ref y))
  exact k a _ (.inl rfl) e
 | ext φ=>obtain⟨p,⟨o,e⟩,st⟩:=x;exact⟨st _ _ p λo q=>k _ _ (.inl rfl) q,⟨o,k _ _ (.inl rfl) e⟩,st⟩
theorem HOk.lt (x:HOk P w H h) (e:H a=some o):a < h.objs.size:=(x a o e).lt
theorem HOk.fresh (x:HOk P w H h) (e:h.objs.size≤a):H a=none:=by
 cases q:H a with
 | none=>rfl
 | some u=>exact absurd (Nat.lt_of_lt_of_le (x.lt q) e) (Nat.lt_irrefl _)
theorem HOk.kept (x:HOk P w H h) (k:∀b u,h.get? b=some u→h'.get? b=some u):HOk P w H h':=λa o e =>
 (x a o e).stay (λb u _ q=>k b u q) (λ_ q=>q) λ_ _ q=>q
theorem HOk.laid (x:HOk P w H h) (k:∀b u,h.get? b=some u→h'.get? b=some u) (hp:h.objs.size≤a) (new:ObjOk P w (upd H a o) h' a o):HOk P w (upd H a o) h':=λb u e=>by
 have hn:=x.fresh hp
 by_cases hb:b=a
 ·subst hb;rw[upd_same] at e;cases e;exact new
 ·rw[upd_ne hb] at e
  exact (x b u e).stay (λc v _ q=>k c v q) (λc q=>by rw[upd_ne (ne_of_none q hn)];exact q) λc xs q=>by rw[upd_ne (ne_of_none q hn)];exact q
end
noncomputable def Rd (H:Hp) (a:Addr) (u:HO):Prop:=H a=some u∨∃o,H a=some (.frz o u)
theorem Rd.ok {P:Program} {w:World} {H:Hp} {h:Heap} {a:Addr} {u:HO} (r:Rd H a u) (x:HOk P w H h):ObjOk P w H h a u:=by
 rcases r with r | ⟨o,r⟩
 ·exact x a u r
 ·obtain⟨_,q⟩:=x a _ r
  exact q
noncomputable def Mut:Option HO→Prop
 | some (.lst _)=>True
 | some (.dK _)=>True
 | some (.dT _)=>True
 | some (.set _ _)=>True
 | some (.ins _ _ _)=>True
 | some (.ext _)=>True
 | _=>False
section
variable {P:Program} {w:World} {H:Hp} {h h':Heap} {x e:Addr} {o':HO}
theorem HOk.write (ok:HOk P w H h) (mu:Mut (H x)) (he:e=x∨H e=some (.own x)) (k:∀b u,b≠e→h.get? b=some u→h'.get? b=some u) (heo:∃u,h'.get? e=some u)
 (new:ObjOk P w (upd H x o') h' x o'):HOk P w (upd H x o') h':=λb u q=>by
 have nown:∀c y,H c=some (.own y)→c≠x:=λc y r z=>by subst z;rw[r] at mu;exact mu
 have ntup:∀c xs,H c=some (.tup xs)→c≠x:=λc xs r z=>by subst z;rw[r] at mu;exact mu
 by_cases hb:b=x
 ·subst hb;rw[upd_same] at q;cases q;exact new
 ·rw[upd_ne hb] at q
  by_cases hbe:b=e
  ·have q':H b=some (.own x):=by
    rcases he with z | z
    ·exact absurd (hbe.trans z) hb
    ·rw[hbe];exact z
   rw[q] at q';cases q'
   obtain⟨v,hv⟩:=heo
   exact⟨v,by rw[hbe];exact hv⟩
  ·refine (ok b u q).stay (λc v hc r=>k c v ?_ r) (λc r=>by rw[upd_ne (nown c b r)];exact r) λc xs r=>by rw[upd_ne (ntup c xs r)];exact r
   rcases hc with rfl | hc
   ·exact hbe
   ·rintro rfl
    rcases he with z | z
    ·exact nown c b hc z
    ·rw[hc] at z;cases z;exact hb rfl
end
set_option genInjectivity false in
structure Un (fs ex:List Addr) (H H':Hp) (h h':Heap):Prop where
 keep:∀b o,h.get? b=some o→H b=none→b∉fs→b∉ex→h'.get? b=some o
 slot:∀b o,h.get? b=some o→H b=none→b∈fs→b∉ex→∃sl,h'.get? b=some { o with slots:=sl }
 free:∀b o,h.get? b=some o→H b=none→b∉ex→H' b=none
 there:∀b o,h.get? b=some o→b∉ex→∃o',h'.get? b=some o'
 tups:∀b xs,H b=some (.tup xs)→H' b=some (.tup xs)
 frzs:∀b o u,H b=some (.frz o u)→H' b=some (.frz o u)
 tbls:∀b ps,H b=some (.tbl ps)→∃more,H' b=some (.tbl (ps++more))
section
variable {fs fs' ex ex':List Addr} {H H1 H2:Hp} {h h1 h2 h':Heap} {a x e:Addr} {o:HO}
theorem Un.any (u:Un fs ex H H1 h h1) {b:Addr} {ob:Obj} (q:h.get? b=some ob) (n:H b=none) (hx:b∉ex):∃sl,h1.get? b=some { ob with slots:=sl }:=by
 by_cases hb:b∈fs
 ·exact u.slot b ob q n hb hx
 ·exact⟨ob.slots,u.keep b ob q n hb hx⟩
theorem Un.kept (k:∀b u,h.get? b=some u→h'.get? b=some u):Un fs ex H H h h' :=
 ⟨λb ob q _ _ _=>k b ob q,λb ob q _ _ _=>⟨ob.slots,k b ob q⟩,λ_ _ _ n _=>n,λb ob q _=>⟨ob,k b ob q⟩,λ_ _ q=>q,λ_ _ _ q=>q,λ_ ps q=>⟨#[],by rw[q];simp⟩⟩
theorem Un.refl:Un fs ex H H h h:=Un.kept λ_ _ q=>q
theorem Un.laid (k:∀b u,h.get? b=some u→h'.get? b=some u) (hp:h.objs.size≤a) (hn:H a=none):Un fs ex H (upd H a o) h h' where
 keep:=λb u q _ _ _=>k b u q
 slot:=λb u q _ _ _=>⟨u.slots,k b u q⟩
 free:=λb u q n _=>by rw[upd_ne (Nat.ne_of_lt (Nat.lt_of_lt_of_le (Heap.lt_size q) hp))];exact n
 there:=λb u q _=>⟨u,k b u q⟩
 tups:=λb xs q=>by rw[upd_ne (ne_of_none q hn)];exact q
 frzs:=λb u xs q=>by rw[upd_ne (ne_of_none q hn)];exact q
 tbls:=λb ps q=>⟨#[],by rw[upd_ne (ne_of_none q hn),q];simp⟩
theorem Un.write (mu:Mut (H x)) (he:e=x∨H e=some (.own x)) (k:∀b u,b≠e→h.get? b=some u→h'.get? b=some u) (heo:∃u,h'.get? e=some u):Un fs ex H (upd H x o) h h':=by
 have hx:∀b,H b=none→b≠x:=λb n z=>by subst z;rw[n] at mu;exact mu
 have hb:∀b,H b=none→b≠e:=λb n z=>by
  subst z
  rcases he with r | r
  ·exact hx b n r
  ·rw[n] at r;cases r
 have hm:∀b u,H b=some u→¬Mut (some u)→b≠x:=λb u q nm z=>by subst z;rw[q] at mu;exact nm mu
 refine⟨λb u q n _ _=>k b u (hb b n) q,λb u q n _ _=>⟨u.slots,k b u (hb b n) q⟩,λb u q n _=>by rw[upd_ne (hx b n)];exact n,λb u q _=>?_,
  λb xs q=>by rw[upd_ne (hm b _ q λz=>z)];exact q,λb u xs q=>by rw[upd_ne (hm b _ q λz=>z)];exact q,λb ps q=>⟨#[],by rw[upd_ne (hm b _ q λz=>z),q];simp⟩⟩
 by_cases hbe:b=e
 ·subst hbe;exact heo
 ·exact⟨u,k b u hbe q⟩
end
noncomputable def trk (h:Heap) (H:Hp):List Addr:=(List.range h.objs.size).filter λa=>(H a).isSome
noncomputable def hidT (h:Heap) (H:Hp):Heap:=PySem.W.hideAll h (trk h H)
theorem hidT_size (h:Heap) (H:Hp):(hidT h H).objs.size=h.objs.size:=PySem.W.hideAll_size _ _
theorem hidT_get {h:Heap} {H:Hp} {b:Addr} {o:Obj} (e:h.get? b=some o) (n:H b=none):(hidT h H).get? b=some o :=
 PySem.W.hideAll_get _ e λhm=>by
  have q:(H b).isSome=true:=(List.mem_filter.mp hm).2
  rw[n] at q;simp at q
theorem of_hidT {h:Heap} {H:Hp} {b:Addr} {o:Obj} (e:(hidT h H).get? b=some o):h.get? b=some o∧H b=none:=by
 have e':h.get? b=some o:=PySem.W.of_hideAll (trk h H) e
 refine⟨e',?_⟩
 cases q:H b with
 | none=>rfl
 | some x =>
  have hm:b∈trk h H:=List.mem_filter.mpr ⟨List.mem_range.mpr (Heap.lt_size e'),by simp[q]⟩
  have z:(hidT h H).get? b=none:=PySem.W.hideAll_none (trk h H) hm
  rw[z] at e;cases e
set_option genInjectivity false in
structure Mod (K:PySem.W.Frag) (mg:Str→Option Value) (base:Heap):Prop where
 kin:K.In base
 glob:base.Ns mainGlobals mg
 blt:∃mb,base.Ns builtinsNs mb∧∀x:Str,x ≠ "__name__" → mb x=bootBuiltins x
 nolimit:base.NoLimit
set_option genInjectivity false in
structure Cx where
 prog:Program
 w:World
 K:PySem.W.Frag
 mg:Str→Option Value
 base:Heap
 A:Around
 N:List Str
 s₀:Shared
 H₀:Hp
 env:Env
 outer:List Env
 stack:List Env
 ex:List Addr
 fn:Str→Bool
 calm:Bool
 pn:List (Addr×Obj)
 xe:Value→Shared→Prop
noncomputable def frs (l:List Env):List Addr:=l.filterMap (·.frame)
noncomputable abbrev Cx.fs (X:Cx):List Addr:=frs X.outer
noncomputable def Vis (sc:Scope) (x:Str):Prop:=sc.names.lookup x=some .local∨sc.names.lookup x=some .cell∨sc.names.lookup x=some .free
noncomputable def Loc (sc:Scope) (x:Str):Prop:=sc.names.lookup x=some .local∨sc.names.lookup x=some .cell
noncomputable def Look (env:Env) (h:Heap) (m:Str→Option Value) (x:Str) (u:Value):Prop :=
 (env.kindOf x=some .local∧m x=some u)∨((env.kindOf x=some .cell∨env.kindOf x=some .free)∧∃c,env.cells.lookup x=some c∧h.IsCell c (some u))
set_option genInjectivity false in
structure Cx.Ok (X:Cx):Prop where
 mod:Mod X.K X.mg X.base
 kind:X.env.scope.kind=.function
 glob:X.env.globals=mainGlobals
 blt:X.env.builtins=builtinsNs
 above:X.s₀.heap.objs.size≤X.env.locals
 inj:∀x y c,X.env.cells.lookup x=some c→X.env.cells.lookup y=some c→x=y
 has:∀x,(X.env.kindOf x=some .cell∨X.env.kindOf x=some .free)→∃c,X.env.cells.lookup x=some c
 cab:∀x c,X.fn x=true→X.env.cells.lookup x=some c→X.s₀.heap.objs.size≤c
 hd:X.calm=true→X.A.handled=none
 frames:X.A.frames=some X.stack
 stk:X.stack=X.outer∨(X.stack=X.env::X.outer∧X.env.frame=some X.env.locals)
 exf:∀b∈X.ex,b≠X.env.locals∧∀x c,X.env.cells.lookup x=some c→c≠b
 bs:∀b o,X.base.get? b=some o→X.s₀.heap.get? b=some o∧X.H₀ b=none
 bsz:X.base.objs.size≤X.s₀.heap.objs.size
 noex:∀b o,X.base.get? b=some o→b∉X.ex
 exfs:∀b∈X.ex,b∉X.fs
 funs:X.s₀.heap.FunFrames X.base X.outer
 frf:∀b∈X.fs,X.H₀ b=none
set_option genInjectivity false in
structure Inv (X:Cx) (pins:List (Addr×Obj)) (σ:List (Option V)) (H:Hp) (s:Shared):Prop where
 ok:X.Ok
 os:s.os=X.s₀.os
 bare:AllBare s.gens
 base:Un X.fs X.ex X.H₀ H X.s₀.heap s.heap
 loc:∃m,s.heap.Ns X.env.locals m∧∀(i:Nat) (x:Str) (v:V),X.N[i]?=some x→σ[i]?=some (some v)→Vis X.env.scope x→∃u,RelV v u∧Look X.env s.heap m x u
 cell:∀x c,X.env.cells.lookup x=some c→∃v,s.heap.IsCell c v
 free:H X.env.locals=none
 freeC:∀x c,X.env.cells.lookup x=some c→H c=none
 pin:∀p∈X.pn++pins,s.heap.get? p.1=some p.2∧H p.1=none∧p.1≠X.env.locals∧p.1∉X.fs∧∀v,p.2.data≠.cell v
 hok:HOk X.prog X.w H s.heap
 len:σ.length=X.N.length
section
variable {X:Cx} {pins:List (Addr×Obj)} {σ:List (Option V)} {H H':Hp} {s:Shared} {h':Heap}
theorem Cx.Ok.nofr (ok:X.Ok) {b:Addr} {o:Obj} (e:X.base.get? b=some o):b∉X.fs:=λhb=>by
 have:=(ok.funs.mem hb).1
 rw[e] at this;cases this
theorem Inv.bs (I:Inv X pins σ H s):∀b o,X.base.get? b=some o→s.heap.get? b=some o∧H b=none:=λb o e =>
 ⟨I.base.keep b o (I.ok.bs b o e).1 (I.ok.bs b o e).2 (I.ok.nofr e) (I.ok.noex b o e),I.base.free b o (I.ok.bs b o e).1 (I.ok.bs b o e).2 (I.ok.noex b o e)⟩
theorem Inv.bk (I:Inv X pins σ H s):∀b o,X.base.get? b=some o→s.heap.get? b=some o:=λb o e=>(I.bs b o e).1
theorem Inv.mod (I:Inv X pins σ H s):Mod X.K X.mg X.base:=I.ok.mod
theorem Inv.kIn (I:Inv X pins σ H s):X.K.In s.heap:=I.ok.mod.kin.keeps I.bk
theorem Inv.lt (I:Inv X pins σ H s):X.env.locals < s.heap.objs.size:=let ⟨_,hn,_⟩:=I.loc;hn.lt
theorem Inv.sz (I:Inv X pins σ H s):X.s₀.heap.objs.size≤s.heap.objs.size:=Nat.le_trans I.ok.above (Nat.le_of_lt I.lt)
theorem Inv.nofs (I:Inv X pins σ H s) {a:Addr} (h:s.heap.objs.size≤a):a∉X.fs:=λhb=>by
 obtain⟨_,o,ho,_⟩:=I.ok.funs.mem hb
 exact absurd (Nat.lt_of_lt_of_le (Heap.lt_size ho) (Nat.le_trans I.sz h)) (Nat.lt_irrefl _)
theorem Inv.cne (I:Inv X pins σ H s):∀x c,X.env.cells.lookup x=some c→c≠X.env.locals:=λx c e z=>by
 obtain⟨v,o,ho,hd⟩:=I.cell x c e
 obtain⟨m,⟨o',es,ep,ho',hd',_⟩,_⟩:=I.loc
 rw[z,ho'] at ho;cases ho;rw[hd'] at hd;cases hd
theorem Inv.funs (I:Inv X pins σ H s):s.heap.FunFrames X.base X.outer:=by
 have all:∀(l:List Env),(∀b∈frs l,b∈X.fs)→X.s₀.heap.FunFrames X.base l→s.heap.FunFrames X.base l:=by
  intro l
  induction l with
  | nil=>intro _ _;trivial
  | cons env r ih =>
   intro hs hl
   obtain⟨hk,⟨L,o,hf,hn,ho,hd⟩,hr⟩:=hl
   have hL:L∈X.fs:=hs L (by unfold frs;rw[List.filterMap_cons,hf];exact List.mem_cons_self)
   obtain⟨sl,e⟩:=I.base.slot L o ho (I.ok.frf L hL) hL λz=>I.ok.exfs L z hL
   exact⟨hk,⟨L,_,hf,hn,e,hd⟩,ih (λb hb=>hs b (by unfold frs;rw[List.filterMap_cons,hf];exact List.mem_cons_of_mem _ hb)) hr⟩
 exact all X.outer (λ_ hb=>hb) I.ok.funs
theorem Inv.stack (I:Inv X pins σ H s):s.heap.FunFrames X.base X.stack:=by
 rcases I.ok.stk with e | ⟨e,hf⟩
 ·rw[e];exact I.funs
 ·rw[e]
  obtain⟨m,hn,_⟩:=I.loc
  refine .cons (by rw[I.ok.kind];decide) hf hn ?_ I.funs
  exact Heap.get?_none_of_le (Nat.le_trans I.ok.bsz I.ok.above)
theorem Inv.stkSub (I:Inv X pins σ H s):∀b∈frs X.stack,b∈X.env.locals::X.fs:=λb hb=>by
 rcases I.ok.stk with e | ⟨e,hf⟩
 ·rw[e] at hb;exact List.mem_cons_of_mem _ hb
 ·rw[e] at hb
  unfold frs at hb
  rw[List.filterMap_cons,hf] at hb
  exact hb
theorem Inv.stkFree (I:Inv X pins σ H s):∀b∈frs X.stack,H b=none:=λb hb=>by
 rcases List.mem_cons.mp (I.stkSub b hb) with e | hb
 ·rw[e];exact I.free
 ·obtain⟨_,o,ho,_⟩:=I.ok.funs.mem hb
  exact I.base.free b o ho (I.ok.frf b hb) λz=>I.ok.exfs b z hb
theorem Inv.step {g':Array GenState} {t':Nat} {d':Drawn} {ch:List Addr} (I:Inv X pins σ H s)
 (hch:∀b∈ch,(b∈X.ex∨X.s₀.heap.objs.size≤b)∧b≠X.env.locals∧(∀x c,X.env.cells.lookup x=some c→c≠b)∧∀p∈X.pn++pins,p.1≠b)
 (keep:∀b o,b≠X.env.locals→b∉X.fs→b∉ch→s.heap.get? b=some o→H b=none→h'.get? b=some o)
 (slot:∀b o,b≠X.env.locals→b∈X.fs→b∉ch→s.heap.get? b=some o→H b=none→∃sl,h'.get? b=some { o with slots:=sl }) (free:∀b o,b∉ch→s.heap.get? b=some o→H b=none→H' b=none)
 (there:∀b o,b∉ch→s.heap.get? b=some o→∃o',h'.get? b=some o')
 (tups:∀b xs,H b=some (.tup xs)→H' b=some (.tup xs)) (frzs:∀b o u,H b=some (.frz o u)→H' b=some (.frz o u)) (tbls:∀b ps,H b=some (.tbl ps)→∃more,H' b=some (.tbl (ps++more)))
 (ns:∀m,s.heap.Ns X.env.locals m→h'.Ns X.env.locals m) (hok:HOk X.prog X.w H' h') (hg:AllBare g') :
 Inv X pins σ H' { s with heap:=h',gens:=g',drawn:=d',toks:=t' }:=by
 have neL:∀b o,X.s₀.heap.get? b=some o→b≠X.env.locals:=λb o e=>Nat.ne_of_lt (Nat.lt_of_lt_of_le (Heap.lt_size e) I.ok.above)
 have neC:∀b o,X.s₀.heap.get? b=some o→b∉X.ex→b∉ch:=λb o e hx hb=>by
  rcases (hch b hb).1 with z | z
  ·exact hx z
  ·exact absurd (Nat.lt_of_lt_of_le (Heap.lt_size e) z) (Nat.lt_irrefl _)
 have cellK:∀x c,X.env.cells.lookup x=some c→∀v,s.heap.IsCell c v→h'.IsCell c v:=λx c e v hz__=>by
  obtain⟨o,ho,hd⟩:=hz__
  have nch:c∉ch:=λz=>(hch c z).2.2.1 x c e rfl
  by_cases hc:c∈X.fs
  ·obtain⟨sl,q⟩:=slot c o (I.cne x c e) hc nch ho (I.freeC x c e)
   exact⟨_,q,hd⟩
  ·exact⟨o,keep c o (I.cne x c e) hc nch ho (I.freeC x c e),hd⟩
 refine⟨I.ok,I.os,hg,⟨λb o e n hb hx=>?_,λb o e n hb hx=>?_,λb o e n hx=>?_,λb o e hx=>?_,λb xs e=>tups b xs (I.base.tups b xs e),λb o xs e=>frzs b o xs (I.base.frzs b o xs e),λb ps e=>?_⟩,?_,λx c e=>?_,?_,λx c e=>?_,λp hp=>?_,hok,I.len⟩
 ·exact keep b o (neL b o e) hb (neC b o e hx) (I.base.keep b o e n hb hx) (I.base.free b o e n hx)
 ·obtain⟨sl,e1⟩:=I.base.slot b o e n hb hx
  obtain⟨sl',e2⟩:=slot b _ (neL b o e) hb (neC b o e hx) e1 (I.base.free b o e n hx)
  exact⟨sl',e2⟩
 ·obtain⟨o',e1⟩:=I.base.there b o e hx
  exact free b o' (neC b o e hx) e1 (I.base.free b o e n hx)
 ·obtain⟨o',e1⟩:=I.base.there b o e hx
  exact there b o' (neC b o e hx) e1
 ·obtain⟨m1,e1⟩:=I.base.tbls b ps e
  obtain⟨m2,e2⟩:=tbls b _ e1
  exact⟨m1++m2,by rw[e2,Array.append_assoc]⟩
 ·obtain⟨m,hn,hl⟩:=I.loc
  refine⟨m,ns m hn,λi x v e1 e2 e3=>?_⟩
  obtain⟨u,r,l⟩:=hl i x v e1 e2 e3
  refine⟨u,r,?_⟩
  rcases l with l | ⟨k,c,e,z⟩
  ·exact .inl l
  ·exact .inr ⟨k,c,e,cellK x c e _ z⟩
 ·obtain⟨v,z⟩:=I.cell x c e
  exact⟨v,cellK x c e v z⟩
 ·obtain⟨m,⟨o,_,_,ho,_⟩,_⟩:=I.loc
  exact free _ o (λz=>(hch _ z).2.1 rfl) ho I.free
 ·obtain⟨v,o,ho,hd⟩:=I.cell x c e
  exact free c o (λz=>(hch c z).2.2.1 x c e rfl) ho (I.freeC x c e)
 ·obtain⟨e,n,ne,nf,d⟩:=I.pin p hp
  have nch:p.1∉ch:=λz=>(hch p.1 z).2.2.2 p hp rfl
  exact⟨keep p.1 p.2 ne nf nch e n,free p.1 p.2 nch e n,ne,nf,d⟩
theorem Inv.un {t':Nat} (I:Inv X pins σ H s) (u:Un X.fs [] H H' s.heap h') (hok:HOk X.prog X.w H' h'):Inv X pins σ H' { s with heap:=h',toks:=t' }:=by
 obtain⟨m,⟨o,es,ep,ho,r⟩,_⟩:=id I.loc
 obtain⟨sl,hL⟩:=u.any ho I.free (by simp)
 exact I.step (g':=s.gens) (d':=s.drawn) (ch:=[]) (λ_ z=>nomatch z) (λb o _ hb _ e n=>u.keep b o e n hb (by simp)) (λb o _ hb _ e n=>u.slot b o e n hb (by simp)) (λb o _ e n=>u.free b o e n (by simp)) (λb o _ e=>u.there b o e (by simp)) u.tups u.frzs u.tbls (λm' hm=>by
  obtain⟨o',es',ep',ho',r'⟩:=hm
  rw[ho] at ho';cases ho'
  exact⟨_,es',ep',hL,r'⟩) hok I.bare
theorem Inv.call {g':Array GenState} {t':Nat} {d':Drawn} {ch:List Addr} (I:Inv X pins σ H s) (u:Un (frs X.stack) ch H H' s.heap h') (hok:HOk X.prog X.w H' h') (hg:AllBare g')
 (hch:∀b∈ch,(b∈X.ex∨X.s₀.heap.objs.size≤b)∧b≠X.env.locals∧(∀x c,X.env.cells.lookup x=some c→c≠b)∧∀p∈X.pn++pins,p.1≠b) :
 Inv X pins σ H' { s with heap:=h',gens:=g',drawn:=d',toks:=t' }:=by
 obtain⟨m,⟨o,es,ep,ho,r⟩,_⟩:=id I.loc
 obtain⟨sl,hL⟩:=u.any ho I.free λz=>(hch _ z).2.1 rfl
 exact I.step (ch:=ch) hch (λb o hL hb hc e n=>u.keep b o e n (λz=>(List.mem_cons.mp (I.stkSub b z)).elim hL hb) hc) (λb o _ _ hc e n=>u.any e n hc) (λb o hc e n=>u.free b o e n hc) (λb o hc e=>u.there b o e hc) u.tups u.frzs u.tbls (λm' hm=>by
  obtain⟨o',es',ep',ho',r'⟩:=hm
  rw[ho] at ho';cases ho'
  exact⟨_,es',ep',hL,r'⟩) hok hg
theorem Inv.turned {t':Nat} {it:Addr} (I:Inv X pins σ H s) (k:∀b o,b≠it→s.heap.get? b=some o→h'.get? b=some o) (hn:H it=none) (hL:it≠X.env.locals)
 (h1:it∈X.ex∨X.s₀.heap.objs.size≤it) (h2:∀x c,X.env.cells.lookup x=some c→c≠it) (h3:∀p∈X.pn++pins,p.1≠it):Inv X pins σ H { s with heap:=h',toks:=t' }:=by
 have nit:∀b u,H b=some u→b≠it:=λb u e z=>by rw[z,hn] at e;cases e
 refine I.step (g':=s.gens) (d':=s.drawn) (ch:=[it]) (λb hb=>?_) (λb o _ _ hc e _=>k b o (λz=>hc (by simp[z])) e) (λb o _ _ hc e _=>⟨o.slots,k b o (λz=>hc (by simp[z])) e⟩) (λ_ _ _ _ n=>n)
  (λb o hc e=>⟨o,k b o (λz=>hc (by simp[z])) e⟩) (λ_ _ e=>e) (λ_ _ _ e=>e) (λb ps e=>⟨#[],by rw[e];simp⟩) (λm hm=>?_) (λb u e=>?_) I.bare
 ·have e:b=it:=by simpa using hb
  subst e
  exact⟨h1,hL,h2,h3⟩
 ·obtain⟨o,es,ep,ho,r⟩:=hm
  exact⟨o,es,ep,k _ o (Ne.symm hL) ho,r⟩
 ·refine (I.hok b u e).stay (λc v hc q=>k c v ?_ q) (λ_ q=>q) λ_ _ q=>q
  rcases hc with z | z
  ·rw[z];exact nit b u e
  ·exact nit c _ z
theorem Inv.tok (I:Inv X pins σ H s) (t:Nat):Inv X pins σ H { s with toks:=t }:=I.un (h':=s.heap) (t':=t) Un.refl I.hok
theorem Inv.kept {t':Nat} (I:Inv X pins σ H s) (k:∀b u,s.heap.get? b=some u→h'.get? b=some u):Inv X pins σ H { s with heap:=h',toks:=t' }:=I.un (Un.kept k) (I.hok.kept k)
theorem Inv.laid {a:Addr} {o:HO} {t':Nat} (I:Inv X pins σ H s) (k:∀b u,s.heap.get? b=some u→h'.get? b=some u) (hp:s.heap.objs.size≤a) (new:ObjOk X.prog X.w (upd H a o) h' a o) :
 Inv X pins σ (upd H a o) { s with heap:=h',toks:=t' }:=I.un (Un.laid k hp (I.hok.fresh hp)) (I.hok.laid k hp new)
theorem Inv.write {x e:Addr} {o:HO} {t':Nat} (I:Inv X pins σ H s) (mu:Mut (H x)) (he:e=x∨H e=some (.own x)) (k:∀b u,b≠e→s.heap.get? b=some u→h'.get? b=some u) (heo:∃u,h'.get? e=some u)
 (new:ObjOk X.prog X.w (upd H x o) h' x o):Inv X pins σ (upd H x o) { s with heap:=h',toks:=t' }:=I.un (Un.write mu he k heo) (I.hok.write mu he k heo new)
theorem Inv.pins_of {pins':List (Addr×Obj)} (I:Inv X pins σ H s) (h:∀p∈pins',s.heap.get? p.1=some p.2∧H p.1=none∧p.1≠X.env.locals∧p.1∉X.fs∧∀v,p.2.data≠.cell v):Inv X pins' σ H s :=
 ⟨I.ok,I.os,I.bare,I.base,I.loc,I.cell,I.free,I.freeC,λp hp=>(List.mem_append.mp hp).elim (λz=>I.pin p (List.mem_append_left _ z)) (h p),I.hok,I.len⟩
theorem nodup_ix {N:List Str} (hN:N.Nodup) {i j:Nat} {x:Str} (a:N[i]?=some x) (b:N[j]?=some x):i=j:=by
 obtain⟨h1,e1⟩:=List.getElem?_eq_some_iff.mp a
 obtain⟨h2,e2⟩:=List.getElem?_eq_some_iff.mp b
 exact (List.getElem_inj hN).mp (e1.trans e2.symm)
theorem store_ok2 {M:Model} {A:Around} {E:Value→Shared→Prop} {i:Nat} {x:Str} {v:V} {u:Value} {Q:Unit→Shared→Prop} (I:Inv X pins σ H s) (hN:X.N.Nodup) (hi:X.N[i]?=some x) (hx:Loc X.env.scope x) (r:RelV v u)
 (h:∀s',Inv X pins (σ.set i (some v)) H s'→(∃a,Heap.SameBut a s.heap s'.heap∧(a=X.env.locals∨X.env.cells.lookup x=some a))→Q () s') (hf:X.fn x=true∨X.env.scope.names.lookup x=some .local:=by first | exact .inl rfl | exact .inr rfl | assumption):wpAny M A (storeName X.env x u) Q E s:=by
 obtain⟨m,hn,hl⟩:=id I.loc
 have hcls:(X.env.scope.kind==.class||(X.env.scope.kind==.module&&X.env.locals != X.env.globals))=false:=by rw[I.ok.kind];rfl
 have hiσ:i < σ.length:=by rw[I.len];exact (List.getElem?_eq_some_iff.mp hi).1
 have cne:=I.cne
 have tracked:∀ {a:Addr} {h':Heap},(∃o,s.heap.get? a=some o∧H a=none)→Heap.SameBut a s.heap h'→HOk X.prog X.w H h':=λ{a h'} ha hs b ob e=>by
  obtain⟨_,_,hfree⟩:=ha
  refine (I.hok b ob e).stay (λc w' hc q=>(hs.2 c ?_).trans q) (λ_ q=>q) λ_ _ q=>q
  rintro rfl
  rcases hc with rfl | hc
  ·rw[hfree] at e;cases e
  ·rw[hfree] at hc;cases hc
 rcases hx with hk | hk
 ·refine wpAny_storeName_local hk hn (λh' hn' hs=>?_) hcls
  obtain⟨oL,_,_,hoL,_⟩:=id hn
  refine h _ ⟨I.ok,I.os,I.bare,⟨λb o e n hb hx=>?_,λb o e n hb hx=>?_,I.base.free,λb o e hx=>?_,I.base.tups,I.base.frzs,I.base.tbls⟩,⟨_,hn',λj y v' e1 e2 e3=>?_⟩,λy c e=>?_,I.free,I.freeC,λp hp=>?_,tracked ⟨oL,hoL,I.free⟩ hs,by simpa using I.len⟩ ⟨_,hs,.inl rfl⟩
  ·exact (hs.2 b (Nat.ne_of_lt (Nat.lt_of_lt_of_le (Heap.lt_size e) I.ok.above))).trans (I.base.keep b o e n hb hx)
  ·obtain⟨sl,e1⟩:=I.base.slot b o e n hb hx
   exact⟨sl,(hs.2 b (Nat.ne_of_lt (Nat.lt_of_lt_of_le (Heap.lt_size e) I.ok.above))).trans e1⟩
  ·obtain⟨o',e1⟩:=I.base.there b o e hx
   exact⟨o',(hs.2 b (Nat.ne_of_lt (Nat.lt_of_lt_of_le (Heap.lt_size e) I.ok.above))).trans e1⟩
  ·by_cases hj:j=i
   ·subst hj
    rw[hi] at e1;cases e1
    rw[List.getElem?_set_self hiσ] at e2
    cases e2
    exact⟨u,r,.inl ⟨hk,by simp⟩⟩
   ·rw[List.getElem?_set_ne (Ne.symm hj)] at e2
    obtain⟨u',r',q⟩:=hl j y v' e1 e2 e3
    refine⟨u',r',?_⟩
    rcases q with ⟨k,e⟩ | ⟨k,c,e,z⟩
    ·refine .inl ⟨k,?_⟩
     have:y≠x:=λe=>hj (nodup_ix hN e1 (e▸hi))
     simp[this,e]
    ·exact .inr ⟨k,c,e,z.sameBut hs (cne y c e)⟩
  ·obtain⟨w',z⟩:=I.cell y c e
   exact⟨w',z.sameBut hs (cne y c e)⟩
  ·obtain⟨e,n,ne,nf,d⟩:=I.pin p hp
   exact⟨(hs.2 p.1 ne).trans e,n,ne,nf,d⟩
 ·have hfn:X.fn x=true:=by
   rcases hf with z | z
   ·exact z
   ·rw[z] at hk;cases hk
  obtain⟨c,hc⟩:=I.ok.has x (.inl hk)
  obtain⟨w',z⟩:=I.cell x c hc
  refine wpAny_storeName_cell I.ok.kind hk hc z (λh' hc' hs=>?_)
  obtain⟨oc,hoc,hocd⟩:=id z
  refine h { s with heap:=h' } ⟨I.ok,I.os,I.bare,⟨λb o e n hb hx=>?_,λb o e n hb hx=>?_,I.base.free,λb o e hx=>?_,I.base.tups,I.base.frzs,I.base.tbls⟩,⟨m,hn.sameBut hs (Ne.symm (cne x c hc)),λj y v' e1 e2 e3=>?_⟩,λy c' e=>?_,I.free,I.freeC,λp hp=>?_,tracked ⟨oc,hoc,I.freeC x c hc⟩ hs,by simpa using I.len⟩ ⟨c,hs,.inr hc⟩
  ·exact (hs.2 b (Nat.ne_of_lt (Nat.lt_of_lt_of_le (Heap.lt_size e) (I.ok.cab x c hfn hc)))).trans (I.base.keep b o e n hb hx)
  ·obtain⟨sl,e1⟩:=I.base.slot b o e n hb hx
   exact⟨sl,(hs.2 b (Nat.ne_of_lt (Nat.lt_of_lt_of_le (Heap.lt_size e) (I.ok.cab x c hfn hc)))).trans e1⟩
  ·obtain⟨o',e1⟩:=I.base.there b o e hx
   exact⟨o',(hs.2 b (Nat.ne_of_lt (Nat.lt_of_lt_of_le (Heap.lt_size e) (I.ok.cab x c hfn hc)))).trans e1⟩
  ·by_cases hj:j=i
   ·subst hj
    rw[hi] at e1;cases e1
    rw[List.getElem?_set_self hiσ] at e2
    cases e2
    exact⟨u,r,.inr ⟨.inl hk,c,hc,hc'⟩⟩
   ·rw[List.getElem?_set_ne (Ne.symm hj)] at e2
    obtain⟨u',r',q⟩:=hl j y v' e1 e2 e3
    refine⟨u',r',?_⟩
    rcases q with q | ⟨k,c',e,z'⟩
    ·exact .inl q
    ·refine .inr ⟨k,c',e,z'.sameBut hs ?_⟩
     rintro rfl
     exact hj (nodup_ix hN e1 (I.ok.inj _ _ _ e hc▸hi))
  ·by_cases hcc:c'=c
   ·subst hcc;exact⟨_,hc'⟩
   ·obtain⟨w2,z2⟩:=I.cell y c' e
    exact⟨w2,z2.sameBut hs hcc⟩
  ·obtain⟨e,n,ne,nf,d⟩:=I.pin p hp
   refine⟨(hs.2 p.1 ?_).trans e,n,ne,nf,d⟩
   intro q
   rw[q,hoc] at e
   have q':oc=p.2:=Option.some.inj e
   exact d w' (by rw[←q'];exact hocd)
theorem store_ok {M:Model} {A:Around} {E:Value→Shared→Prop} {i:Nat} {x:Str} {v:V} {u:Value} {Q:Unit→Shared→Prop} (I:Inv X pins σ H s) (hN:X.N.Nodup) (hi:X.N[i]?=some x) (hx:Loc X.env.scope x) (r:RelV v u)
 (h:∀s',Inv X pins (σ.set i (some v)) H s'→Q () s') (hf:X.fn x=true∨X.env.scope.names.lookup x=some .local:=by first | exact .inl rfl | exact .inr rfl | assumption):wpAny M A (storeName X.env x u) Q E s :=
 store_ok2 I hN hi hx r (λs' I' _=>h s' I') hf
theorem Inv.call' {s':Shared} {ch:List Addr} (I:Inv X pins σ H s) (ho:s'.os=s.os) (u:Un (frs X.stack) ch H H' s.heap s'.heap) (hok:HOk X.prog X.w H' s'.heap) (hg:AllBare s'.gens)
 (hch:∀b∈ch,(b∈X.ex∨X.s₀.heap.objs.size≤b)∧b≠X.env.locals∧(∀x c,X.env.cells.lookup x=some c→c≠b)∧∀p∈X.pn++pins,p.1≠b):Inv X pins σ H' s':=by
 obtain⟨h',g',d',t',o'⟩:=s'
 have e:o'=s.os:=ho
 subst e
 exact I.call (g':=g') (t':=t') (d':=d') u hok hg hch
end
noncomputable abbrev XK:=Value→Option Addr→Hp→Prop
noncomputable abbrev St:=List (Option V)
noncomputable abbrev VK:=V→Hp→Prop
noncomputable abbrev TE:=St→Hp→VK→Prop
noncomputable abbrev TT:=St→Hp→(Bool→Hp→Prop)→Prop
noncomputable abbrev TA:=St→Hp→(List V→Hp→Prop)→Prop
set_option genInjectivity false in
structure Ends where
 nx:St→Hp→Prop
 rt:VK
 bk:St→Hp→Prop:=λ_ _=>False
 ct:St→Hp→Prop:=λ_ _=>False
noncomputable abbrev TS:=Ends→St→Hp→Prop
noncomputable def EP (X:Cx) (pins:List (Addr×Obj)) (σ:St) (Q:VK) (u:Value) (s':Shared):Prop:=∃v H',Inv X pins σ H' s'∧RelV v u∧Q v H'
noncomputable def TP (X:Cx) (pins:List (Addr×Obj)) (σ:St) (Q:Bool→Hp→Prop) (b:Bool) (s':Shared):Prop:=∃H',Inv X pins σ H' s'∧Q b H'
noncomputable def AP (X:Cx) (pins:List (Addr×Obj)) (σ:St) (Q:List V→Hp→Prop) (us:List Value) (s':Shared):Prop:=∃vs H',Inv X pins σ H' s'∧Vals vs us∧Q vs H'
noncomputable def SP (X:Cx) (pins:List (Addr×Obj)) (D:Ends) (f:Flow) (s':Shared):Prop :=
 match f with
 | .next=>∃σ' H',Inv X pins σ' H' s'∧D.nx σ' H'
 | .brk=>∃σ' H',Inv X pins σ' H' s'∧D.bk σ' H'
 | .cont=>∃σ' H',Inv X pins σ' H' s'∧D.ct σ' H'
 | .ret u=>∃v σ' H',Inv X pins σ' H' s'∧RelV v u∧D.rt v H'
noncomputable def PE (X:Cx) (e:Expr) (t:TE):Prop :=
 ∀(pins:List (Addr×Obj)) (s:Shared) (σ:St) (H:Hp) (Q:VK),Inv X pins σ H s→t σ H Q→wpAny (model X.prog X.w) X.A (eval e X.env) (EP X pins σ Q) X.xe s
noncomputable def PT (X:Cx) (e:Expr) (t:TT):Prop :=
 ∀(pins:List (Addr×Obj)) (s:Shared) (σ:St) (H:Hp) (Q:Bool→Hp→Prop),Inv X pins σ H s→t σ H Q→wpAny (model X.prog X.w) X.A (isTrue e X.env (eval e X.env)) (TP X pins σ Q) X.xe s
noncomputable def PW (X:Cx) (e:Expr) (t:TT):Prop :=
 ∀(whole:Sem Value) (pins:List (Addr×Obj)) (s:Shared) (σ:St) (H:Hp) (Q:Bool→Hp→Prop),Inv X pins σ H s→t σ H Q→wpAny (model X.prog X.w) X.A (isTrue e X.env whole) (TP X pins σ Q) X.xe s
theorem PW.pt {X:Cx} {e:Expr} {t:TT} (h:PW X e t):PT X e t:=h _
noncomputable def PA (X:Cx) (es:List Expr) (t:TA):Prop :=
 ∀(pos:Pos) (pins:List (Addr×Obj)) (s:Shared) (σ:St) (H:Hp) (Q:List V→Hp→Prop),Inv X pins σ H s→t σ H Q→wpAny (model X.prog X.w) X.A (spliced (backTo pos (starEach es X.env))) (AP X pins σ Q) X.xe s
noncomputable def PS (X:Cx) (st:Stmt) (t:TS):Prop :=
 ∀(pins:List (Addr×Obj)) (s:Shared) (σ:St) (H:Hp) (D:Ends),Inv X pins σ H s→t D σ H→wpAny (model X.prog X.w) X.A (exec st X.env) (SP X pins D) X.xe s
noncomputable def PSs (X:Cx) (st:List Stmt) (t:TS):Prop :=
 ∀(pins:List (Addr×Obj)) (s:Shared) (σ:St) (H:Hp) (D:Ends),Inv X pins σ H s→t D σ H→wpAny (model X.prog X.w) X.A (execs st X.env) (SP X pins D) X.xe s
theorem thn {α:Type} {t:Sem α} {Q Q':α→Shared→Prop} {M:Model} {A:Around} {E:Value→Shared→Prop} {s:Shared} (h:wpAny M A t Q E s) (hQ:∀a s,Q a s→Q' a s):wpAny M A t Q' E s:=wpAny_mono h hQ λ_ _ x=>x
section
variable {X:Cx}
theorem bin {a b:Expr} {ta tb:TE} (ha:PE X a ta) (hb:PE X b tb) {pins:List (Addr×Obj)} {s:Shared} {σ:St} {H:Hp} {R:V→V→Hp→Prop} (I:Inv X pins σ H s) (h:ta σ H λx H1=>tb σ H1 λy H2=>R x y H2)
 {α:Type} {Q:α→Shared→Prop} {f:Value→Value→Sem α}
 (hf:∀v u s2 x y H2,Inv X pins σ H2 s2→RelV x v→RelV y u→R x y H2→wpAny (model X.prog X.w) X.A (f v u) Q X.xe s2) :
 wpAny (model X.prog X.w) X.A (eval a X.env) (λv s₁=>wpAny (model X.prog X.w) X.A (eval b X.env) (λu s₂=>wpAny (model X.prog X.w) X.A (f v u) Q X.xe s₂) X.xe s₁) X.xe s:=by
 refine thn (ha pins s σ H _ I h) λv s1 hz__=>?_
 obtain⟨x,H1,I1,r1,q1⟩:=hz__
 refine thn (hb pins s1 σ H1 _ I1 q1) λu s2 hz__=>?_
 obtain⟨y,H2,I2,r2,q2⟩:=hz__
 exact hf v u s2 x y H2 I2 r1 r2 q2
noncomputable def tVar (i:Nat):TE:=λσ H Q=>∃v,σ[i]?=some (some v)∧Q v H
noncomputable def tC (v:V):TE:=λ_ H Q=>Q v H
theorem pe_var {i:Nat} {x:Str} {pos:Pos} (hN:X.N[i]?=some x) (hv:Vis X.env.scope x) (hd:(x==("__debug__" : Str))=false:=by decide) (hcd:(x==("__classdict__" : Str))=false:=by decide):PE X (.Name x pos) (tVar i):=by
 intro pins s σ H Q I h
 obtain⟨v,e,h⟩:=h
 obtain⟨m,hn,hl⟩:=I.loc
 obtain⟨u,r,l⟩:=hl i x v hN e hv
 have fin:EP X pins σ Q u s:=⟨v,H,I,r,h⟩
 rcases l with ⟨hk,hm⟩ | ⟨hk,c,hc,hcell⟩
 ·exact wpAny_Name (wpAny_loadName_local I.ok.kind hk hn hm fin) hd
 ·rcases hk with hk | hk
  ·exact wpAny_Name (wpAny_loadName_cell I.ok.kind hk hc hcell fin) hd
  ·exact wpAny_Name (wpAny_loadName_free I.ok.kind hk hc hcell fin hcd) hd
theorem pe_int {i j pos}:PE X (.Constant (.int i) j pos) (tC (.int i)):=λ_ _ _ H _ I h=>wpAny_Constant_int ⟨.int i,H,I.tok _,⟨_,rfl⟩,h⟩
theorem pe_bl {b j pos}:PE X (.Constant (.bool b) j pos) (tC (.bl b)):=λ_ _ _ H _ I h=>Constant_bool ⟨.bl b,H,I,rfl,h⟩
theorem pe_non {j pos}:PE X (.Constant .none j pos) (tC .non):=λ_ _ _ H _ I h=>Constant_none ⟨.non,H,I,rfl,h⟩
theorem pe_str {x j pos}:PE X (.Constant (.str x) j pos) (tC (.str x)):=λ_ _ _ H _ I h=>Calls.Constant_str ⟨.str x,H,I.tok _,⟨_,rfl⟩,h⟩
noncomputable def Gl (X:Cx) (x:Str):Prop:=X.env.kindOf x=some .globalImplicit
theorem ld_glob {E:Value→Shared→Prop} {pins:List (Addr×Obj)} {s:Shared} {σ:St} {H:Hp} {x:Str} {u:Value} {pos:Pos} {Q:Value→Shared→Prop} (I:Inv X pins σ H s) (hg:Gl X x) (hm:X.mg x=some u) (h:Q u s)
 (hd:(x==("__debug__" : Str))=false:=by decide):wpAny (model X.prog X.w) X.A (eval (.Name x pos) X.env) Q E s :=
 Calls.Name_function_global I.ok.kind hg (Calls.loadGlobal_global (by rw[I.ok.glob];exact I.mod.glob.keeps I.bk) hm h) hd
theorem ld_blt {E:Value→Shared→Prop} {pins:List (Addr×Obj)} {s:Shared} {σ:St} {H:Hp} {x:Str} {u:Value} {pos:Pos} {Q:Value→Shared→Prop} (I:Inv X pins σ H s) (hg:Gl X x) (hm:X.mg x=none) (hv:bootBuiltins x=some u) (h:Q u s)
 (hn:x ≠ "__name__" := by decide) (hd:(x==("__debug__" : Str))=false:=by decide):wpAny (model X.prog X.w) X.A (eval (.Name x pos) X.env) Q E s:=by
 obtain⟨mb,h1,h2⟩:=I.mod.blt
 exact Calls.Name_function_global I.ok.kind hg (Calls.loadGlobal_builtin (by rw[I.ok.glob];exact I.mod.glob.keeps I.bk) hm (by rw[I.ok.blt];exact h1.keeps I.bk) ((h2 x hn).trans hv) h) hd
theorem pe_glob {x:Str} {v:V} {u:Value} {pos:Pos} (hg:Gl X x) (hm:X.mg x=some u) (r:RelV v u) (hd:(x==("__debug__" : Str))=false:=by decide):PE X (.Name x pos) (tC v) :=
 λ_ _ _ H _ I h=>ld_glob I hg hm ⟨v,H,I,r,h⟩ hd
theorem pe_bltn {x:Str} {v:V} {u:Value} {pos:Pos} (hg:Gl X x) (hm:X.mg x=none) (hv:bootBuiltins x=some u) (r:RelV v u) (hn:x ≠ "__name__" := by decide) (hd:(x==("__debug__" : Str))=false:=by decide):PE X (.Name x pos) (tC v) :=
 λ_ _ _ H _ I h=>ld_blt I hg hm hv ⟨v,H,I,r,h⟩ hn hd
variable {a b:Expr} {ta tb:TE} {pos:Pos}
noncomputable def PC (X:Cx) (op:CmpOp) (a b:Expr) (t:TE):Prop :=
 ∀(pins:List (Addr×Obj)) (s:Shared) (σ:St) (H:Hp) (Q:VK),Inv X pins σ H s→t σ H Q →
  wpAny (model X.prog X.w) X.A (eval a X.env) (λv s₁=>wpAny (model X.prog X.w) X.A (eval b X.env) (λu s₂=>wpAny (model X.prog X.w) X.A (compareOp op v u) (EP X pins σ Q) X.xe s₂) X.xe s₁) X.xe s
theorem nobehind (b:Expr) {op:CmpOp} (h:op≠.In) (h2:op≠.NotIn):behindInMarks op b=false:=by
 have e1:(op==CmpOp.In)=false:=by cases op<;>first | rfl | exact absurd rfl h
 have e2:(op==CmpOp.NotIn)=false:=by cases op<;>first | rfl | exact absurd rfl h2
 cases b<;>simp[behindInMarks,e1,e2]
noncomputable def tIsN (ta:TE):TE:=λσ H Q=>ta σ H λx H1=>Q (.bl (decide (x=.non))) H1
theorem RelV.none_iff {x:V} {v:Value} (r:RelV x v):(v==Value.none)=decide (x=.non):=by
 cases x with
 | non=>cases r;rfl
 | bl _=>cases r;rfl
 | int _=>obtain⟨t,rfl⟩:=r;rfl
 | str _=>obtain⟨t,rfl⟩:=r;rfl
 | byt _=>obtain⟨t,rfl⟩:=r;rfl
 | flt _=>obtain⟨t,rfl⟩:=r;rfl
 | ref _=>cases r;rfl
 | ty _=>cases r;rfl
theorem pc_isN {j pos'} (ha:PE X a ta):PC X .Is a (.Constant .none j pos') (tIsN ta):=by
 intro pins s σ H Q I h
 refine thn (ha pins s σ H _ I h) λv s1 hz__=>?_
 obtain⟨x,H1,I1,r1,q1⟩:=hz__
 exact Constant_none (is_none_gen ⟨.bl _,H1,I1,by rw[r1.none_iff];rfl,q1⟩)
noncomputable def tB (t:TE):TT:=λσ H Q=>t σ H λx H1=>∃c,x=.bl c∧Q c H1
theorem pt_cmp {op:CmpOp} {t:TE} (h:PC X op a b t) (h1:behindInMarks op b=false:=by first | exact nobehind _ (by decide) (by decide) | rfl):PT X (.Compare a [op] [b] pos) (tB t):=by
 intro pins s σ H Q I hw
 refine wpAny_isTrue_Compare1 (thn (h pins s σ H _ I hw) λv s1 h1=>thn h1 λu s2 h2=>thn h2 λc s3 ⟨x,H1,I1,r1,q1⟩=>?_) h1
 obtain⟨d,rfl,q⟩:=q1
 cases r1
 exact wpAny_truthy_bool ⟨H1,I1,q⟩
theorem pt_val {e:Expr} {t:TE} (h:PE X e t) (he:∀whole,isTrue e X.env whole=(do let v ←whole;standAt e.pos;holding [v] (truthy v)):=by intro _;rfl):PT X e (tB t):=by
 intro pins s σ H Q I hw
 refine isTrue_plain (thn (h pins s σ H _ I hw) λv s1 ⟨x,H1,I1,r1,q1⟩=>?_) (he _)
 obtain⟨d,rfl,q⟩:=q1
 cases r1
 exact wpAny_truthy_bool ⟨H1,I1,q⟩
variable {tA tB':TT} {rest:List Expr}
noncomputable def tAnd (t u:TT):TT:=λσ H Q=>t σ H λc H1=>if c=true then u σ H1 Q else Q false H1
noncomputable def tOr (t u:TT):TT:=λσ H Q=>t σ H λc H1=>if c=true then Q true H1 else u σ H1 Q
noncomputable def tNot (t:TT):TT:=λσ H Q=>t σ H λc H1=>Q (!c) H1
theorem pw_and1 (ha:PT X a tA):PW X (.BoolOp .And [a] pos) tA:=by
 intro wh pins s σ H Q I h
 refine isTrue_and (thn (ha pins s σ H Q I h) λc s1 e=>?_)
 cases c with
 | true=>exact isTrue_and_nil e
 | false=>exact e
theorem pw_or1 (ha:PT X a tA):PW X (.BoolOp .Or [a] pos) tA:=by
 intro wh pins s σ H Q I h
 refine isTrue_or (thn (ha pins s σ H Q I h) λc s1 e=>?_)
 cases c with
 | false=>exact isTrue_or_nil e
 | true=>exact e
theorem pw_and (ha:PT X a tA) (hb:PW X (.BoolOp .And (b::rest) pos) tB'):PW X (.BoolOp .And (a::b::rest) pos) (tAnd tA tB'):=by
 intro wh pins s σ H Q I h
 refine isTrue_and (thn (ha pins s σ H _ I h) λc s1 hz__=>?_)
 obtain⟨H1,I1,q1⟩:=hz__
 cases c with
 | true=>exact hb wh pins s1 σ H1 Q I1 q1
 | false=>exact⟨H1,I1,q1⟩
theorem pw_or (ha:PT X a tA) (hb:PW X (.BoolOp .Or (b::rest) pos) tB'):PW X (.BoolOp .Or (a::b::rest) pos) (tOr tA tB'):=by
 intro wh pins s σ H Q I h
 refine isTrue_or (thn (ha pins s σ H _ I h) λc s1 hz__=>?_)
 obtain⟨H1,I1,q1⟩:=hz__
 cases c with
 | true=>exact⟨H1,I1,q1⟩
 | false=>exact hb wh pins s1 σ H1 Q I1 q1
theorem pt_not (ha:PT X a tA):PT X (.UnaryOp .Not a pos) (tNot tA):=by
 intro pins s σ H Q I h
 exact isTrue_not (ha pins s σ H (λc H1=>Q (!c) H1) I h)
noncomputable def tOrV (ta tb:TE):TE:=λσ H Q=>ta σ H λx H1=>∃c,x=.bl c∧if c=true then Q (.bl true) H1 else tb σ H1 Q
theorem pe_one {op} {t:TE} (h:PE X a t):PE X (.BoolOp op [a] pos) t:=λpins s σ H Q I hw=>BoolOp_one (h pins s σ H Q I hw)
theorem pe_or (ha:PE X a ta) (hb:PE X (.BoolOp .Or (b::rest) pos) tb):PE X (.BoolOp .Or (a::b::rest) pos) (tOrV ta tb):=by
 intro pins s σ H Q I h
 refine BoolOp_or (thn (ha pins s σ H _ I h) λv s1 hz__=>?_)
 obtain⟨x,H1,I1,r1,q1⟩:=hz__
 obtain⟨c,rfl,q1⟩:=q1
 cases r1
 refine wpAny_truthy_bool ?_
 cases c with
 | false=>exact hb pins s1 σ H1 Q I1 q1
 | true=>exact⟨.bl true,H1,I1,rfl,q1⟩
noncomputable def tIf (t:TT) (ta tb:TE):TE:=λσ H Q=>t σ H λc H1=>if c=true then ta σ H1 Q else tb σ H1 Q
theorem pe_ifExp {c:Expr} (hc:PT X c tA) (ha:PE X a ta) (hb:PE X b tb):PE X (.IfExp c a b pos) (tIf tA ta tb):=by
 intro pins s σ H Q I h
 refine wpAny_IfExp (thn (hc pins s σ H _ I h) λd s1 hz__=>?_)
 obtain⟨H1,I1,q1⟩:=hz__
 cases d with
 | true=>exact ha pins s1 σ H1 Q I1 q1
 | false=>exact hb pins s1 σ H1 Q I1 q1
end
noncomputable def SqL (K:PySem.W.Frag) (H:Hp) (a:Addr) (xs:List V):Prop :=
 Rd H a (.lst xs) ∨
  ∃(o:Obj) (its:Array Value) (n:Nat),K.lookup a=some o∧o.cls=.type "list" ∧ o.dict=none∧o.data=.seq its n∧its.size≤sizeLine∧Vals xs its.toList
noncomputable def SqT (K:PySem.W.Frag) (H:Hp) (a:Addr) (xs:List V):Prop :=
 Rd H a (.tup xs) ∨
  ∃(o:Obj) (its:Array Value) (n:Nat),K.lookup a=some o∧o.cls=.type "tuple" ∧ o.data=.seq its n∧its.size≤sizeLine∧Vals xs its.toList
noncomputable def absV:Value→Option V
 | .none=>some .non
 | .bool b=>some (.bl b)
 | .int i _=>some (.int i)
 | .str x _=>some (.str x)
 | .bytes b _=>some (.byt b)
 | .float b _=>some (.flt b)
 | .ref a=>some (.ref a)
 | .type n=>some (.ty n)
 | _=>none
theorem RelV.abs {x:V} {u:Value} (r:RelV x u):absV u=some x:=by
 cases x with
 | non=>cases r;rfl
 | bl _=>cases r;rfl
 | int _=>obtain⟨t,rfl⟩:=r;rfl
 | str _=>obtain⟨t,rfl⟩:=r;rfl
 | byt _=>obtain⟨t,rfl⟩:=r;rfl
 | flt _=>obtain⟨t,rfl⟩:=r;rfl
 | ref _=>cases r;rfl
 | ty _=>cases r;rfl
theorem RelV.inj {x y:V} {u:Value} (r:RelV x u) (q:RelV y u):x=y:=Option.some.inj (r.abs.symm.trans q.abs)
theorem Vals.inj:∀ {xs ys:List V} {us:List Value},Vals xs us→Vals ys us→xs=ys
 | _,_,_,.nil,.nil=>rfl
 | _,_,_,.cons r t,.cons r' t'=>by rw[r.inj r',Vals.inj t t']
section
variable {X:Cx} {pins:List (Addr×Obj)} {σ:St} {H:Hp} {s:Shared} {a:Addr} {xs ys:List V}
theorem SqL.of {K:PySem.W.Frag} (h:H a=some (.lst xs)):SqL K H a xs:=.inl (.inl h)
theorem SqT.of {K:PySem.W.Frag} (h:H a=some (.tup xs)):SqT K H a xs:=.inl (.inl h)
theorem Inv.list (I:Inv X pins σ H s) (h:SqL X.K H a xs):∃its:List Value,Vals xs its∧PlainL s.heap a its.toArray∧xs.length≤sizeLine:=by
 rcases h with h | ⟨o,its,n,hk,hc,hd,hs,hz,r⟩
 ·obtain⟨z,its,n,r,e⟩:=h.ok I.hok
  exact⟨its,r,⟨_,n,e,rfl,rfl,rfl⟩,z⟩
 ·refine⟨its.toList,r,⟨o,n,I.kIn a o hk,hc,hd,by simpa using hs⟩,?_⟩
  have e:=r.length
  simp only[Array.length_toList] at e
  lia
theorem Inv.tuple (I:Inv X pins σ H s) (h:SqT X.K H a xs):∃its:List Value,Vals xs its∧IsTup s.heap a its.toArray∧xs.length≤sizeLine:=by
 rcases h with h | ⟨o,its,n,hk,hc,hs,hz,r⟩
 ·obtain⟨z,its,r,p⟩:=h.ok I.hok
  exact⟨its,r,p,z⟩
 ·refine⟨its.toList,r,⟨o,I.kIn a o hk,hc,n,by simpa using hs⟩,?_⟩
  have e:=r.length
  simp only[Array.length_toList] at e
  lia
theorem Inv.list_inj (I:Inv X pins σ H s) (h:SqL X.K H a xs) (h':SqL X.K H a ys):xs=ys:=by
 obtain⟨its,r,⟨o,n,e,_,_,d⟩,_⟩:=I.list h
 obtain⟨its',r',⟨o',n',e',_,_,d'⟩,_⟩:=I.list h'
 rw[e] at e';cases e'
 rw[d] at d'
 injection d' with d1 _
 have:its=its':=by simpa using congrArg Array.toList d1
 subst this
 exact r.inj r'
theorem Inv.tuple_inj (I:Inv X pins σ H s) (h:SqT X.K H a xs) (h':SqT X.K H a ys):xs=ys:=by
 obtain⟨its,r,⟨o,e,_,n,d⟩,_⟩:=I.tuple h
 obtain⟨its',r',⟨o',e',_,n',d'⟩,_⟩:=I.tuple h'
 rw[e] at e';cases e'
 rw[d] at d'
 injection d' with d1 _
 have:its=its':=by simpa using congrArg Array.toList d1
 subst this
 exact r.inj r'
end
noncomputable abbrev Cx.wish (X:Cx) (E:Value→Shared→Prop):Cx:={ X with xe:=E }
noncomputable abbrev Cx.nox (X:Cx):Cx:=X.wish λ_ _=>False
theorem Cx.Ok.wish {X:Cx} (ok:X.Ok) (E:Value→Shared→Prop):(X.wish E).Ok :=
 ⟨ok.mod,ok.kind,ok.glob,ok.blt,ok.above,ok.inj,ok.has,ok.cab,ok.hd,ok.frames,ok.stk,ok.exf,ok.bs,ok.bsz,ok.noex,ok.exfs,ok.funs,ok.frf⟩
theorem Cx.Ok.unwish {X:Cx} {E:Value→Shared→Prop} (ok:(X.wish E).Ok):X.Ok :=
 ⟨ok.mod,ok.kind,ok.glob,ok.blt,ok.above,ok.inj,ok.has,ok.cab,ok.hd,ok.frames,ok.stk,ok.exf,ok.bs,ok.bsz,ok.noex,ok.exfs,ok.funs,ok.frf⟩
section
variable {X:Cx} {pins:List (Addr×Obj)} {σ:St} {H:Hp} {s:Shared} {E:Value→Shared→Prop}
theorem Inv.wish (I:Inv X pins σ H s) (E:Value→Shared→Prop):Inv (X.wish E) pins σ H s:=⟨I.ok.wish E,I.os,I.bare,I.base,I.loc,I.cell,I.free,I.freeC,I.pin,I.hok,I.len⟩
theorem Inv.unwish (I:Inv (X.wish E) pins σ H s):Inv X pins σ H s:=⟨I.ok.unwish,I.os,I.bare,I.base,I.loc,I.cell,I.free,I.freeC,I.pin,I.hok,I.len⟩
theorem SP.unwish {D:Ends} {f:Flow} {s':Shared} (h:SP (X.wish E) pins D f s'):SP X pins D f s':=by
 cases f with
 | next=>obtain⟨σ',H',I,q⟩:=h;exact⟨σ',H',I.unwish,q⟩
 | brk=>obtain⟨σ',H',I,q⟩:=h;exact⟨σ',H',I.unwish,q⟩
 | cont=>obtain⟨σ',H',I,q⟩:=h;exact⟨σ',H',I.unwish,q⟩
 | ret u=>obtain⟨v,σ',H',I,r,q⟩:=h;exact⟨v,σ',H',I.unwish,r,q⟩
theorem PT.nox {e:Expr} {t:TT} (h:PT X.nox e t):PT X e t:=λpins s σ H Q I hw =>
 wpAny_mono (h pins s σ H Q (I.wish _) hw) (λ_ _ ⟨H',I',q⟩=>⟨H',I'.unwish,q⟩) λ_ _ z=>False.elim z
theorem PSs.nox {st:List Stmt} {t:TS} (h:PSs X.nox st t):PSs X st t:=λpins s σ H D I hw =>
 wpAny_mono (h pins s σ H D (I.wish _) hw) (λ_ _ q=>q.unwish) λ_ _ z=>False.elim z
end
section
variable {X:Cx} {st:Stmt} {rest:List Stmt} {t u:TS} {e:Expr} {te:TE} {pos:Pos}
noncomputable def tNext:TS:=λD σ H=>D.nx σ H
noncomputable def tSeq (t u:TS):TS:=λD σ H=>t { D with nx:=u D } σ H
theorem pss_nil:PSs X [] tNext:=λ_ _ σ H _ I h=>wpAny_execs_nil ⟨σ,H,I,h⟩
theorem pss_cons (h1:PS X st t) (h2:PSs X rest u):PSs X (st::rest) (tSeq t u):=by
 intro pins s σ H D I h
 refine wpAny_execs_cons (thn (h1 pins s σ H { D with nx:=u D } I h) λf s1 q=>?_)
 cases f with
 | next =>
  obtain⟨σ',H',I',q⟩:=q
  exact h2 pins s1 σ' H' D I' q
 | ret v=>exact q
 | brk=>exact q
 | cont=>exact q
theorem Inv.quiet {pins:List (Addr×Obj)} {σ:St} {H:Hp} {s:Shared} (I:Inv X pins σ H s):interactive X.env=false:=by simp[interactive,I.ok.kind]
noncomputable def tDrop (te:TE):TS:=λD σ H=>te σ H λ_ H1=>D.nx σ H1
theorem ps_expr (he:PE X e te) (hs:swapsWith e none pos.line X.env=pure false:=by rfl):PS X (.Expr e pos) (tDrop te):=by
 intro pins s σ H D I h
 exact wpAny_Expr_any (thn (he pins s σ H _ I h) λv s1 ⟨x,H1,I1,r1,q1⟩=>⟨σ,H1,I1,q1⟩) I.quiet hs
noncomputable def tRet (te:TE):TS:=λD σ H=>te σ H D.rt
theorem ps_ret (he:PE X e te):PS X (.Return (some e) pos) (tRet te):=by
 intro pins s σ H D I h
 exact wpAny_Return_some (thn (he pins s σ H _ I h) λv s1 ⟨x,H1,I1,r1,q1⟩=>⟨x,σ,H1,I1,r1,q1⟩)
noncomputable def tIfS (c:TT) (t u:TS):TS:=λD σ H=>c σ H λb H1=>if b=true then t D σ H1 else u D σ H1
theorem ps_if {c:Expr} {a b:List Stmt} {tc:TT} (hc:PT X c tc) (ha:PSs X a t) (hb:PSs X b u):PS X (.If c a b pos) (tIfS tc t u):=by
 intro pins s σ H D I h
 refine wpAny_If (thn (hc pins s σ H _ I h) λd s1 hz__=>?_)
 obtain⟨H1,I1,q1⟩:=hz__
 cases d with
 | true=>exact ha pins s1 σ H1 D I1 q1
 | false=>exact hb pins s1 σ H1 D I1 q1
end
noncomputable abbrev TG:=V→St→Hp→(St→Hp→Prop)→Prop
noncomputable abbrev TGs:=List V→St→Hp→(St→Hp→Prop)→Prop
noncomputable def PG (X:Cx) (target:Expr) (t:TG):Prop :=
 ∀(pins:List (Addr×Obj)) (s:Shared) (σ:St) (H:Hp) (v:V) (u:Value) (Q:St→Hp→Prop),Inv X pins σ H s→RelV v u→t v σ H Q →
  wpAny (model X.prog X.w) X.A (assign target X.env u) (λ_ s'=>∃σ' H',Inv X pins σ' H' s'∧Q σ' H') X.xe s
noncomputable def PGs (X:Cx) (ts:List Expr) (t:TGs):Prop :=
 ∀(pins:List (Addr×Obj)) (s:Shared) (σ:St) (H:Hp) (vs:List V) (us:List Value) (Q:St→Hp→Prop),Inv X pins σ H s→Vals vs us→t vs σ H Q →
  wpAny (model X.prog X.w) X.A (assignInOrder ((assignEach ts X.env).map (·.2)) us) (λ_ s'=>∃σ' H',Inv X pins σ' H' s'∧Q σ' H') X.xe s
section
variable {X:Cx} {pos:Pos}
noncomputable def gName (i:Nat):TG:=λv σ H Q=>Q (σ.set i (some v)) H
theorem pg_name {i:Nat} {x:Str} (hN:X.N.Nodup) (hi:X.N[i]?=some x) (hx:Loc X.env.scope x) (hf:X.fn x=true∨X.env.scope.names.lookup x=some .local:=by first | exact .inl rfl | exact .inr rfl | assumption):PG X (.Name x pos) (gName i):=by
 intro pins s σ H v u Q I r h
 exact wpAny_assign_Name (store_ok I hN hi hx r (λs' I'=>⟨_,H,I',h⟩) hf)
noncomputable def gNil:TGs:=λvs σ H Q=>vs=[]∧Q σ H
noncomputable def gCons (t:TG) (u:TGs):TGs:=λvs σ H Q=>∃v r,vs=v::r∧t v σ H λσ' H'=>u r σ' H' Q
theorem pgs_nil:PGs X [] gNil:=by
 intro pins s σ H vs us Q I r h
 obtain⟨e,h⟩:=h
 subst e
 cases r
 exact assignInOrder_nil ⟨σ,H,I,h⟩
theorem pgs_cons {e:Expr} {es:List Expr} {t:TG} {u:TGs} (h1:PG X e t) (h2:PGs X es u)
 (hs:(assignEach (e::es) X.env).map (·.2)=assign e X.env::(assignEach es X.env).map (·.2):=by rfl):PGs X (e::es) (gCons t u):=by
 intro pins s σ H vs us Q I r h
 obtain⟨v,vr,e1,h⟩:=h
 subst e1
 cases r with
 | cons r rr =>
  rw[hs]
  refine assignInOrder_cons (thn (h1 pins s σ H _ _ _ I r h) λ_ s1 hz__=>?_)
  obtain⟨σ1,H1,I1,q1⟩:=hz__
  exact h2 pins s1 σ1 H1 _ _ Q I1 rr q1
noncomputable def gTup (K:PySem.W.Frag) (n:Nat) (t:TGs):TG:=λv σ H Q=>∃a xs,v=.ref a∧SqT K H a xs∧xs.length=n∧t xs σ H Q
theorem pg_tup {es:List Expr} {k:Nat} {t:TGs} {n:Nat} (hc:X.calm=true) (h:PGs X es t)
 (hn:(assignEach es X.env).length=n:=by rfl) (hst:(assignEach es X.env).findIdx? (·.1)=none:=by rfl):PG X (.Tuple es k pos) (gTup X.K n t):=by
 intro pins s σ H v u Q I r hw
 obtain⟨a,xs,e1,hq,hl,hw⟩:=hw
 subst e1
 cases r
 obtain⟨its,rv,ht,hz⟩:=I.tuple hq
 refine assign_Tuple_tuple (I.ok.hd hc) ht (by simp[hn,←hl,rv.length]) hst λh' hx=>?_
 have I1:Inv X pins σ H { s with heap:=h' }:=I.kept (t':=s.toks) λb o e=>hx b o (Nat.ne_of_lt (Heap.lt_size e)) e
 exact h pins _ σ H xs _ Q I1 (by simpa using rv) hw
noncomputable def tAsg (te:TE) (g:TG):TS:=λD σ H=>te σ H λx H1=>g x σ H1 D.nx
theorem ps_asg {tg e:Expr} {te:TE} {g:TG} (he:PE X e te) (hg:PG X tg g) (hs:swapsWithSole [tg] e pos.line X.env=pure false:=by rfl) (hw:swappedStores [tg] e X.env=pure none:=by rfl)
 (h1:(assignEach [tg] X.env).map (·.2)=[assign tg X.env]:=by rfl):PS X (.Assign [tg] e pos) (tAsg te g):=by
 intro pins s σ H D I h
 refine wpAny_Assign_stores (thn (he pins s σ H _ I h) λv s1 ⟨x,H1,I1,r1,q1⟩=>?_) hs hw
 rw[h1]
 exact thn (hg pins s1 σ H1 x v _ I1 r1 q1) λ_ s2 q=>q
theorem ps_set {i:Nat} {x:Str} {e:Expr} {te:TE} {pos':Pos} (hN:X.N.Nodup) (hi:X.N[i]?=some x) (hx:Loc X.env.scope x) (he:PE X e te) (hs:swapsWith e (some (.Name x pos')) pos.line X.env=pure false:=by rfl) (hf:X.fn x=true∨X.env.scope.names.lookup x=some .local:=by first | exact .inl rfl | exact .inr rfl | assumption) :
 PS X (.Assign [.Name x pos'] e pos) (tAsg te (gName i)):=by
 intro pins s σ H D I h
 refine wpAny_Assign_Name (thn (he pins s σ H _ I h) λv s1 ⟨y,H1,I1,r1,q1⟩=>?_) hs
 exact store_ok I1 hN hi hx r1 (λs2 I2=>⟨_,H1,I2,q1⟩) hf
end
section
variable {X:Cx} {pos:Pos}
end
set_option genInjectivity false in
structure It where
 go:Nat→Hp→Prop
 yld:Nat→Hp→V→Hp→Prop
 stop:Nat→Hp→Prop
noncomputable def FpOk (X:Cx) (pins:List (Addr×Obj)) (H:Hp) (b:Addr):Prop :=
 H b=none∧b≠X.env.locals∧b∉X.fs∧(b∈X.ex∨X.s₀.heap.objs.size≤b)∧(∀x c,X.env.cells.lookup x=some c→c≠b)∧∀p∈X.pn++pins,p.1≠b
theorem Inv.fpOk {X:Cx} {pins:List (Addr×Obj)} {σ:St} {H H':Hp} {s:Shared} {b:Addr} (I:Inv X pins σ H s) (hb:s.heap.objs.size≤b) (hn:H' b=none):FpOk X pins H' b:=by
 refine⟨hn,Nat.ne_of_gt (Nat.lt_of_lt_of_le I.lt hb),I.nofs hb,.inr (Nat.le_trans I.sz hb),λx c e z=>?_,λp hp z=>?_⟩
 ·obtain⟨v,q⟩:=I.cell x c e
  exact absurd (Nat.lt_of_lt_of_le q.lt (by rw[z];exact hb)) (Nat.lt_irrefl _)
 ·exact absurd (Nat.lt_of_lt_of_le (Heap.lt_size (I.pin p hp).1) (by rw[z];exact hb)) (Nat.lt_irrefl _)
set_option genInjectivity false in
structure Turn (P:Program) (w:World) (K:PySem.W.Frag) (tg:Expr) (J:It) (fp:List Addr) (it:Addr) (tn:Nat→Heap→Prop):Prop where
 mem:it∈fp
 obj:∀i h,tn i h→∀b∈fp,∃o,h.get? b=some o∧∀v,o.data≠.cell v
 keep:∀i h h',tn i h→(∀b∈fp,∀o,h.get? b=some o→h'.get? b=some o)→tn i h'
 item:∀(X:Cx),X.prog=P→X.w=w→X.K=K→X.calm=true→∀(i:Nat) (pins:List (Addr×Obj)) (s:Shared) (σ:St) (H:Hp) (E:Value→Shared→Prop),Inv X pins σ H s→(∀b∈fp,FpOk X pins H b)→tn i s.heap→J.go i H →
  wpAny (model P w) X.A (pyNext (.ref it)) (λr s1=>∃u,r=some u ∧
   wpAny (model P w) X.A (letOwnedTupleGo tg (.ref it) u) (λ_ s2=>∃x H',Inv X pins σ H' s2∧RelV x u∧J.yld i H x H'∧tn (i+1) s2.heap∧∀b∈fp,H' b=none) E s1) E s
 done:∀(X:Cx),X.prog=P→X.w=w→X.K=K→X.calm=true→∀(i:Nat) (pins:List (Addr×Obj)) (s:Shared) (σ:St) (H:Hp) (E:Value→Shared→Prop),Inv X pins σ H s→(∀b∈fp,FpOk X pins H b)→tn i s.heap→J.stop i H →
  wpAny (model P w) X.A (pyNext (.ref it)) (λr s1=>r=none∧Inv X pins σ H s1) E s
 self:∀(A:Around) (i:Nat) (s:Shared) (Q:Value→Shared→Prop) (E:Value→Shared→Prop),tn i s.heap→Q (.ref it) s→wpAny (model P w) A (pyIter (.ref it)) Q E s
noncomputable abbrev TI:=St→Hp→(It→Hp→Prop)→Prop
noncomputable def PIE (X:Cx) (pins:List (Addr×Obj)) (σ:St) (tg:Expr) (R:It→Hp→Prop) (itv:Value) (s2:Shared):Prop :=
 ∃(it:Addr) (fp:List Addr) (tn:Nat→Heap→Prop) (J:It) (H':Hp),itv=.ref it∧Inv X pins σ H' s2∧Turn X.prog X.w X.K tg J fp it tn∧tn 0 s2.heap∧(∀b∈fp,FpOk X pins H' b)∧R J H'
noncomputable def PI (X:Cx) (tg iter:Expr) (wi:TI):Prop :=
 ∀(pins:List (Addr×Obj)) (s:Shared) (σ:St) (H:Hp) (R:It→Hp→Prop),Inv X pins σ H s→wi σ H R →
  wpAny (model X.prog X.w) X.A (eval iter X.env) (λv s1=>wpAny (model X.prog X.w) X.A (pyIter v) (PIE X pins σ tg R) X.xe s1) X.xe s
theorem go_of {M:Model} {A:Around} {E:Value→Shared→Prop} {s:Shared} {tg:Expr} {it:Addr} {u:Value} {o:Obj} {n:String} {vs:Array Value} {Q:Unit→Shared→Prop} (ho:s.heap.get? it=some o) (hc:o.cls=.type n) (hd:o.data=.fields vs)
 (hn:["enumerate", "zip", "dict_itemiterator", "dict_reverseitemiterator", "odict_iterator", "itertools.zip_longest", "itertools.pairwise"].contains n=false) (hQ:Q () s):wpAny M A (letOwnedTupleGo tg (.ref it) u) Q E s:=by
 unfold letOwnedTupleGo
 cases tg<;>first
  | exact wpAny_pure hQ
  | (cases u<;>first
   | exact wpAny_pure hQ
   | (refine wpAny_bind (wpAny_load ho ?_)
      rw[hc,hd]
      show wpAny M A (if (["enumerate", "zip", "dict_itemiterator", "dict_reverseitemiterator", "odict_iterator", "itertools.zip_longest", "itertools.pairwise"].contains n&&vs[0]?==some (rawInt _))=true then _ else _) Q E s
      rw[if_neg (by intro h;rw[hn,Bool.false_and] at h;cases h)]
      exact wpAny_pure hQ))
noncomputable def Itl (K:PySem.W.Frag) (a:Addr):It :=
 ⟨λi H=>∃xs x,SqL K H a xs∧xs[i]?=some x,λi H x H'=>H'=H∧∀xs,SqL K H a xs→xs[i]?=some x,λi H=>∃xs,SqL K H a xs∧xs.length≤i⟩
noncomputable def Itt (K:PySem.W.Frag) (a:Addr):It :=
 ⟨λi H=>∃xs x,SqT K H a xs∧xs[i]?=some x,λi H x H'=>H'=H∧∀xs,SqT K H a xs→xs[i]?=some x,λi H=>∃xs,SqT K H a xs∧xs.length≤i⟩
noncomputable def Itr (lo:Int) (n:Nat):It:=⟨λi _=>i < n,λi H x H'=>H'=H∧x=.int (lo+i),λi _=>n≤i⟩
theorem turn_list {P:Program} {w:World} {K:PySem.W.Frag} {tg:Expr} (a it:Addr):Turn P w K tg (Itl K a) [it] it (λi h=>h.IsListIter it a i) where
 mem:=by simp
 obj:=λi h st b hb=>by
  have e:b=it:=by simpa using hb
  subst e
  obtain⟨o,e,c,d⟩:=st
  exact⟨o,e,λv z=>by rw[d] at z;cases z⟩
 keep:=λi h h' st k=>st.at λo e=>k it (by simp) o e
 item:=by
  intro X hP hw hK hc i pins s σ H E I hf st hg
  subst hP hw hK
  obtain⟨xs,x,hq,hx⟩:=hg
  obtain⟨its,rv,p,hz⟩:=I.list hq
  obtain⟨u,hu,ru⟩:=rv.get hx
  obtain⟨f0,f1,f2,f3,f4,f5⟩:=hf it (by simp)
  refine wpAny_pyNext_list_item st p.isList (x:=u) (by simpa using hu) λh' st' sb=>?_
  have I1:Inv X pins σ H { s with heap:=h' }:=I.turned (t':=s.toks) (λb o hb e=>(sb.2 b hb).trans e) f0 f1 f3 f4 f5
  obtain⟨o,e,c,d⟩:=id st'
  exact⟨u,rfl,go_of (s:={ s with heap:=h' }) e c d (by decide) ⟨x,H,I1,ru,⟨rfl,λys hy=>by rw[I.list_inj hy hq];exact hx⟩,st',λb hb=>(hf b hb).1⟩⟩
 done:=by
  intro X hP hw hK hc i pins s σ H E I hf st hg
  subst hP hw hK
  obtain⟨xs,hq,hx⟩:=hg
  obtain⟨its,rv,p,hz⟩:=I.list hq
  obtain⟨f0,f1,f2,f3,f4,f5⟩:=hf it (by simp)
  have hl:=rv.length
  exact wpAny_pyNext_list_end (I.ok.hd hc) st p.isList (by simp;lia) λh' eb=>⟨rfl,I.turned (t':=s.toks) (λb o hb e=>eb b o hb e) f0 f1 f3 f4 f5⟩
 self:=λ_ _ _ _ _ st h=>wpAny_pyIter_listiter st h
theorem turn_tuple {P:Program} {w:World} {K:PySem.W.Frag} {tg:Expr} (a it:Addr):Turn P w K tg (Itt K a) [it] it (λi h=>h.IsTupleIter it a i) where
 mem:=by simp
 obj:=λi h st b hb=>by
  have e:b=it:=by simpa using hb
  subst e
  obtain⟨o,e,c,d⟩:=st
  exact⟨o,e,λv z=>by rw[d] at z;cases z⟩
 keep:=λi h h' st k=>st.at λo e=>k it (by simp) o e
 item:=by
  intro X hP hw hK hc i pins s σ H E I hf st hg
  subst hP hw hK
  obtain⟨xs,x,hq,hx⟩:=hg
  obtain⟨its,rv,p,hz⟩:=I.tuple hq
  obtain⟨u,hu,ru⟩:=rv.get hx
  obtain⟨f0,f1,f2,f3,f4,f5⟩:=hf it (by simp)
  refine wpAny_pyNext_tuple_item st (show s.heap.IsTuple a its.toArray from p) (x:=u) (by simpa using hu) λh' st' sb=>?_
  have I1:Inv X pins σ H { s with heap:=h' }:=I.turned (t':=s.toks) (λb o hb e=>(sb.2 b hb).trans e) f0 f1 f3 f4 f5
  obtain⟨o,e,c,d⟩:=id st'
  exact⟨u,rfl,go_of (s:={ s with heap:=h' }) e c d (by decide) ⟨x,H,I1,ru,⟨rfl,λys hy=>by rw[I.tuple_inj hy hq];exact hx⟩,st',λb hb=>(hf b hb).1⟩⟩
 done:=by
  intro X hP hw hK hc i pins s σ H E I hf st hg
  subst hP hw hK
  obtain⟨xs,hq,hx⟩:=hg
  obtain⟨its,rv,p,hz⟩:=I.tuple hq
  obtain⟨f0,f1,f2,f3,f4,f5⟩:=hf it (by simp)
  have hl:=rv.length
  exact wpAny_pyNext_tuple_end (I.ok.hd hc) st (show s.heap.IsTuple a its.toArray from p) (by simp;lia) λh' eb=>⟨rfl,I.turned (t':=s.toks) (λb o hb e=>eb b o hb e) f0 f1 f3 f4 f5⟩
 self:=λ_ _ _ _ _ st h=>wpAny_pyIter_tupleiter st h
theorem turn_range {P:Program} {w:World} {K:PySem.W.Frag} {tg:Expr} (it:Addr) (lo:Int) (n:Nat):Turn P w K tg (Itr lo n) [it] it (λi h=>IsRangeIter h it (lo+(i:Nat)*1) ((n:Int) - (i:Nat)) 1) where
 mem:=by simp
 obj:=λi h st b hb=>by
  have e:b=it:=by simpa using hb
  subst e
  exact⟨_,st,λv z=>by
   have z':Data.fields _=Data.cell v:=z
   cases z'⟩
 keep:=λi h h' st k=>k it (by simp) _ st
 item:=by
  intro X hP hw hK hc i pins s σ H E I hf st hg
  subst hP hw hK
  obtain⟨f0,f1,f2,f3,f4,f5⟩:=hf it (by simp)
  have W:=Walks.range (prog:=X.prog) (w:=X.w) (I.ok.hd hc) it lo 1 n
  refine W.item i s _ _ hg st λv h' tk hv st' kk=>?_
  obtain⟨t,rfl⟩:=hv
  have I1:Inv X pins σ H { s with heap:=h',toks:=tk }:=I.turned (λb o hb e=>kk b o (by simpa using hb) e) f0 f1 f3 f4 f5
  refine⟨_,rfl,go_of (s:={ s with heap:=h',toks:=tk }) (n := "range_iterator") st' rfl rfl (by decide) ⟨.int (lo+i),H,I1,⟨t,?_⟩,⟨rfl,rfl⟩,st',λb hb=>(hf b hb).1⟩⟩
  rw[Int.mul_one]
 done:=by
  intro X hP hw hK hc i pins s σ H E I hf st hg
  subst hP hw hK
  obtain⟨f0,f1,f2,f3,f4,f5⟩:=hf it (by simp)
  exact wpAny_pyNext_range_end (I.ok.hd hc) st (by have:n≤i:=hg;lia) λh' eb=>⟨rfl,I.turned (t':=s.toks) (λb o hb e=>eb b o hb e) f0 f1 f3 f4 f5⟩
 self:=λ_ _ _ _ _ st h=>wpAny_pyIter_rangeiter st h
section
variable {X:Cx} {tg:Expr}
theorem range_it {pins:List (Addr×Obj)} {σ:St} {H:Hp} {s:Shared} {R:It→Hp→Prop} {E:Value→Shared→Prop} {lo hi:Int} {t u v:Tok} {tk:Nat} (I:Inv X pins σ H s) (h1:-(2^62)≤lo) (h2:lo < 2^62) (h3:-(2^62)≤hi) (h4:hi < 2^62)
 (q:R (Itr lo (hi - lo).toNat) H):wpAny (model X.prog X.w) X.A (pyIter (.ref s.heap.objs.size)) (PIE X pins σ tg R) E { s with heap:=s.heap.push { cls:=.type "range", data:=.fields #[.int lo t,.int hi u,.int 1 v] },toks:=tk }:=by
 refine wpAny_pyIter_range (IsRange.new ..) (small_one h1 h2 h3 h4) ?_
 have I1:Inv X pins σ H { s with heap:=s.heap.push { cls:=.type "range", data:=.fields #[.int lo t,.int hi u,.int 1 v] },toks:=tk }:=I.kept λb o e=>Heap.get?_push_of_some _ e
 refine⟨(s.heap.push { cls:=.type "range", data:=.fields #[.int lo t,.int hi u,.int 1 v] }).objs.size,[(s.heap.push { cls:=.type "range", data:=.fields #[.int lo t,.int hi u,.int 1 v] }).objs.size],_,_,H,rfl,
  I1.kept (t':=tk) λb o e=>Heap.get?_push_of_some _ e,turn_range _ lo (hi - lo).toNat,?_,λb hb=>?_,q⟩
 ·have e1:lo+((0:Nat):Int)*1=lo:=by simp
  have e2:(((hi - lo).toNat:Nat):Int) - ((0:Nat):Int)=Builtin.Range.rangeSize lo hi 1:=by rw[rangeSize_one];split<;>lia
  show IsRangeIter _ _ (lo+((0:Nat):Int)*1) ((((hi - lo).toNat:Nat):Int) - ((0:Nat):Int)) 1
  rw[e1,e2]
  exact Heap.get?_push_size _ rfl
 ·have e:b=(s.heap.push { cls:=.type "range", data:=.fields #[.int lo t,.int hi u,.int 1 v] }).objs.size:=by simpa using hb
  subst e
  exact I1.fpOk (Nat.le_refl _) (I1.hok.fresh (Nat.le_refl _))
noncomputable def iRng1 (ta:TA):TI:=λσ H R=>ta σ H λvs H1=>∃j:Int,vs=[.int j] ∧ -(2^62)≤j∧j < 2^62∧R (Itr 0 j.toNat) H1
theorem pi_range1 {a:Expr} {ta:TA} {p pos:Pos} (hg:Gl X "range") (hm:X.mg "range" = none) (ha:PA X [a] ta) (hs:starEach [a] X.env=[(false,eval a X.env)]:=by rfl):PI X tg (.Call (.Name "range" p) [a] [] pos) (iRng1 ta):=by
 intro pins s σ H R I h
 refine Call_ (ld_blt I hg hm boot_range (PyProof.Rows.callWith_type1 (thn (ha pos pins s σ H _ I h) λus s1 ⟨vs,H1,I1,r1,q1⟩=>?_) hs rfl))
 obtain⟨j,e,q1,q2,q⟩:=q1
 subst e
 cases r1 with
 | cons r rr =>
  cases rr
  obtain⟨t,rfl⟩:=r
  exact call_range_1 (range_it I1 (by lia) (by lia) q1 q2 (by simpa using q))
noncomputable def tFor (wi:TI) (g:TG) (tb:TS):TS:=λD σ H=>wi σ H λJ H1=>∃W:Nat→Nat→St→Hp→Prop,(∃m,W 0 m σ H1)∧∀i m σ H,W i m σ H →
 (J.stop i H∧D.nx σ H)∨(J.go i H∧∃N:St→Hp→Prop,(∀σ' H',N σ' H'→∃m',m' < m∧W (i+1) m' σ' H')∧∀x H',J.yld i H x H'→g x σ H' λσ2 H2=>tb { D with nx:=N,ct:=N,bk:=D.nx } σ2 H2)
noncomputable def pinsAt (fp:List Addr) (h:Heap):List (Addr×Obj):=fp.filterMap λb=>(h.get? b).map λo=>(b,o)
theorem mem_pinsAt {fp:List Addr} {h:Heap} {b:Addr} {o:Obj} (hb:b∈fp) (e:h.get? b=some o):(b,o)∈pinsAt fp h:=List.mem_filterMap.mpr ⟨b,hb,by rw[e];rfl⟩
theorem of_pinsAt {fp:List Addr} {h:Heap} {p:Addr×Obj} (hp:p∈pinsAt fp h):p.1∈fp∧h.get? p.1=some p.2:=by
 obtain⟨b,hb,e⟩:=List.mem_filterMap.mp hp
 cases q:h.get? b with
 | none=>rw[q] at e;cases e
 | some o =>
  rw[q] at e
  have e':(b,o)=p:=Option.some.inj e
  subst e'
  exact⟨hb,q⟩
theorem Inv.pinned {pins:List (Addr×Obj)} {σ:St} {H:Hp} {s:Shared} {fp:List Addr} (I:Inv X pins σ H s) (hf:∀b∈fp,FpOk X pins H b) (ho:∀b∈fp,∃o,s.heap.get? b=some o∧∀v,o.data≠.cell v):Inv X (pins++pinsAt fp s.heap) σ H s :=
 I.pins_of λp hp=>(List.mem_append.mp hp).elim (λz=>I.pin p (List.mem_append_right _ z)) λz=>by
  obtain⟨hb,e⟩:=of_pinsAt z
  obtain⟨f0,f1,f2,_⟩:=hf p.1 hb
  obtain⟨o,e',d⟩:=ho p.1 hb
  rw[e] at e';cases e'
  exact⟨e,f0,f1,f2,d⟩
theorem Inv.unpinned {pins pl:List (Addr×Obj)} {σ:St} {H:Hp} {s:Shared} (I:Inv X (pins++pl) σ H s):Inv X pins σ H s:=I.pins_of λp hp=>I.pin p (List.mem_append_right _ (List.mem_append_left _ hp))
theorem ps_for {iter:Expr} {body:List Stmt} {wi:TI} {g:TG} {tb:TS} {pos:Pos} (hp:PassesOwn (model X.prog X.w) X.A X.env X.xe) (hc:X.calm=true) (hi:PI X tg iter wi) (hg:PG X tg g) (hb:PSs X body tb)
 (hs:∀x,foldedSetIterable iter X.env x=pure x:=by intro _;rfl):PS X (.For tg iter body [] pos) (tFor wi g tb):=by
 intro pins s σ H D I h
 refine wpAny_For (thn (hi pins s σ H _ I h) λv s1 h1=>thn h1 λitv s2 h2=>?_) hs
 obtain⟨it,fp,tn,J,H2,e,I2,T,st2,f2,W,⟨m0,w0⟩,turn⟩:=h2
 subst e
 have stat:∀ {H':Hp},(∀b∈fp,H' b=none)→∀b∈fp,FpOk X pins H' b:=λhn b hb=>⟨hn b hb,(f2 b hb).2⟩
 refine codeAny_forLoop_any (λn s'=>∃i σ' H',Inv X pins σ' H' s'∧tn i s'.heap∧(∀b∈fp,H' b=none)∧W i n σ' H') ?_ m0 ⟨0,σ,H2,I2,st2,λb hb=>(f2 b hb).1,w0⟩
 rintro n s3 ⟨i,σ3,H3,I3,st3,fr3,w3⟩
 rcases turn i n σ3 H3 w3 with ⟨stop,qn⟩ | ⟨go,N,hN,step⟩
 ·refine wpAny_passesOwn hp (thn (T.done X rfl rfl rfl hc i pins s3 σ3 H3 X.xe I3 (stat fr3) st3 stop) λr s4 hz__=>?_)
  obtain⟨hr,I4⟩:=hz__
  subst hr
  exact wpAny_execs_nil ⟨σ3,H3,I4,qn⟩
 ·refine wpAny_passesOwn hp (thn (T.item X rfl rfl rfl hc i pins s3 σ3 H3 X.xe I3 (stat fr3) st3 go) λr s4 hz__=>?_)
  obtain⟨u,hr,h4⟩:=hz__
  subst hr
  refine wpAny_passesOwn hp (thn h4 λ_ s5 hz__=>?_)
  obtain⟨x,H5,I5,r5,y5,st5,fr5⟩:=hz__
  have I5':=I5.pinned (stat fr5) (T.obj _ _ st5)
  refine wpAny_passesOwn hp (thn (hg _ s5 σ3 H5 x u _ I5' r5 (step x H5 y5)) λ_ s6 hz__=>?_)
  obtain⟨σ6,H6,I6,q6⟩:=hz__
  refine wpAny_passesOwn hp (thn (hb _ s6 σ6 H6 _ I6 q6) λf s7 q7=>?_)
  have again:∀ {σ7:St} {H7:Hp},Inv X (pins++pinsAt fp s5.heap) σ7 H7 s7→N σ7 H7→∃m,m < n∧∃i σ' H',Inv X pins σ' H' s7∧tn i s7.heap∧(∀b∈fp,H' b=none)∧W i m σ' H':=λ{σ7 H7} I7 n7=>by
   obtain⟨m',hm,w7⟩:=hN σ7 H7 n7
   refine⟨m',hm,i+1,σ7,H7,I7.unpinned,T.keep _ _ _ st5 λb hb o e=>(I7.pin (b,o) (List.mem_append_right _ (List.mem_append_right _ (mem_pinsAt hb e)))).1,λb hb=>?_,w7⟩
   obtain⟨o,e,d⟩:=T.obj _ _ st5 b hb
   exact (I7.pin (b,o) (List.mem_append_right _ (List.mem_append_right _ (mem_pinsAt hb e)))).2.1
  cases f with
  | next=>obtain⟨σ7,H7,I7,n7⟩:=q7;exact again I7 n7
  | cont=>obtain⟨σ7,H7,I7,n7⟩:=q7;exact again I7 n7
  | brk=>obtain⟨σ7,H7,I7,q7⟩:=q7;exact⟨σ7,H7,I7.unpinned,q7⟩
  | ret v=>obtain⟨x7,σ7,H7,I7,r7,q7⟩:=q7;exact⟨x7,σ7,H7,I7.unpinned,r7,q7⟩
end
noncomputable abbrev R2:=V→V→Hp→VK→Prop
noncomputable def OpR (X:Cx) (f:Value→Value→Sem Value) (r:R2):Prop :=
 ∀(pins:List (Addr×Obj)) (s:Shared) (σ:St) (H:Hp) (x y:V) (v u:Value) (Q:VK),Inv X pins σ H s→RelV x v→RelV y u→r x y H Q →
  wpAny (model X.prog X.w) X.A (f v u) (EP X pins σ Q) X.xe s
noncomputable def UnR (X:Cx) (f:Value→Sem Value) (r:V→Hp→VK→Prop):Prop :=
 ∀(pins:List (Addr×Obj)) (s:Shared) (σ:St) (H:Hp) (x:V) (v:Value) (Q:VK),Inv X pins σ H s→RelV x v→r x H Q →
  wpAny (model X.prog X.w) X.A (f v) (EP X pins σ Q) X.xe s
noncomputable def CallR (X:Cx) (f:Value) (r:List V→Hp→VK→Prop):Prop :=
 ∀(pins:List (Addr×Obj)) (s:Shared) (σ:St) (H:Hp) (xs:List V) (us:List Value) (Q:VK),Inv X pins σ H s→Vals xs us→r xs H Q →
  wpAny (model X.prog X.w) X.A (call f us) (EP X pins σ Q) X.xe s
noncomputable def TruR (X:Cx) (r:V→Hp→(Bool→Hp→Prop)→Prop):Prop :=
 ∀(pins:List (Addr×Obj)) (s:Shared) (σ:St) (H:Hp) (x:V) (v:Value) (Q:Bool→Hp→Prop),Inv X pins σ H s→RelV x v→r x H Q →
  wpAny (model X.prog X.w) X.A (truthy v) (TP X pins σ Q) X.xe s
noncomputable def tOp (r:R2) (ta tb:TE):TE:=λσ H Q=>ta σ H λx H1=>tb σ H1 λy H2=>r x y H2 Q
noncomputable def tUn (r:V→Hp→VK→Prop) (ta:TE):TE:=λσ H Q=>ta σ H λx H1=>r x H1 Q
noncomputable def rI (C:Int→Int→Prop) (g:Int→Int→V):R2:=λx y H Q=>∃i j,x=.int i∧y=.int j∧C i j∧Q (g i j) H
noncomputable def rI0 (g:Int→Int→V):R2:=λx y H Q=>∃i j,x=.int i∧y=.int j∧Q (g i j) H
noncomputable def rU (g:Int→V):V→Hp→VK→Prop:=λx H Q=>∃i,x=.int i∧Q (g i) H
section
variable {X:Cx} {a b c:Expr} {ta tb tc:TE} {pos:Pos}
theorem binT (ha:PE X a ta) (hb:PE X b tb) {pins:List (Addr×Obj)} {s:Shared} {σ:St} {H:Hp} {R:V→V→Hp→Prop} (I:Inv X pins σ H s)
 (h:ta σ H λx H1=>tb σ H1 λy H2=>R x y H2) {Q:Value→Shared→Prop} {f:Value→Value→Sem Value}
 (hf:∀v u s2 x y H2,Inv X pins σ H2 s2→RelV x v→RelV y u→R x y H2→wpAny (model X.prog X.w) X.A (f v u) Q X.xe s2) :
 wpAny (model X.prog X.w) X.A (eval a X.env) (λv s₁=>wpAny (model X.prog X.w) X.A (eval b X.env) (λu s₂=>wpAny (model X.prog X.w) X.A (f v u) Q X.xe s₂) X.xe s₁) X.xe s:=by
 refine thn (ha pins s σ H _ I h) λv s1 hz__=>?_
 obtain⟨x,H1,I1,r1,q1⟩:=hz__
 refine thn (hb pins s1 σ H1 _ I1 q1) λu s2 hz__=>?_
 obtain⟨y,H2,I2,r2,q2⟩:=hz__
 exact hf v u s2 x y H2 I2 r1 r2 q2
theorem pe_op {op:Operator} {r:R2} (ho:OpR X (binaryOp op) r) (ha:PE X a ta) (hb:PE X b tb):PE X (.BinOp a op b pos) (tOp r ta tb):=by
 intro pins s σ H Q I h
 exact wpAny_BinOp (binT ha hb I h λv u s2 x y H2 I2 rx ry q=>ho pins s2 σ H2 x y v u Q I2 rx ry q)
theorem pe_un {op:UnaryOp} {r:V→Hp→VK→Prop} (ho:UnR X (unaryOp op) r) (ha:PE X a ta):PE X (.UnaryOp op a pos) (tUn r ta):=by
 intro pins s σ H Q I h
 exact UnaryOp_ (thn (ha pins s σ H _ I h) λv s1 ⟨x,H1,I1,r1,q1⟩=>ho pins s1 σ H1 x v Q I1 r1 q1)
theorem opI {f:Value→Value→Sem Value} {C:Int→Int→Prop} {g:Int→Int→Int}
 (rule:∀(i j:Int) (t u:Tok) (s:Shared) (Q:Value→Shared→Prop) (E:Value→Shared→Prop),C i j→Q (.int (g i j) s.toks) { s with toks:=s.toks+1 }→wpAny (model X.prog X.w) X.A (f (.int i t) (.int j u)) Q E s) :
 OpR X f (rI C λi j=>.int (g i j)):=by
 intro pins s σ H x y v u Q I rx ry h
 obtain⟨i,j,rfl,rfl,hc,q⟩:=h
 obtain⟨t,rfl⟩:=rx
 obtain⟨t',rfl⟩:=ry
 exact rule i j t t' s _ _ hc ⟨.int (g i j),H,I.tok _,⟨_,rfl⟩,q⟩
theorem opI0 {f:Value→Value→Sem Value} {g:Int→Int→Int}
 (rule:∀(i j:Int) (t u:Tok) (s:Shared) (Q:Value→Shared→Prop) (E:Value→Shared→Prop),Q (.int (g i j) s.toks) { s with toks:=s.toks+1 }→wpAny (model X.prog X.w) X.A (f (.int i t) (.int j u)) Q E s) :
 OpR X f (rI0 λi j=>.int (g i j)):=by
 intro pins s σ H x y v u Q I rx ry h
 obtain⟨i,j,rfl,rfl,q⟩:=h
 obtain⟨t,rfl⟩:=rx
 obtain⟨t',rfl⟩:=ry
 exact rule i j t t' s _ _ ⟨.int (g i j),H,I.tok _,⟨_,rfl⟩,q⟩
theorem opB0 {f:Value→Value→Sem Value} {g:Int→Int→Bool}
 (rule:∀(i j:Int) (t u:Tok) (s:Shared) (Q:Value→Shared→Prop) (E:Value→Shared→Prop),Q (.bool (g i j)) s→wpAny (model X.prog X.w) X.A (f (.int i t) (.int j u)) Q E s) :
 OpR X f (rI0 λi j=>.bl (g i j)):=by
 intro pins s σ H x y v u Q I rx ry h
 obtain⟨i,j,rfl,rfl,q⟩:=h
 obtain⟨t,rfl⟩:=rx
 obtain⟨t',rfl⟩:=ry
 exact rule i j t t' s _ _ ⟨.bl (g i j),H,I,rfl,q⟩
noncomputable def CDiv (i j:Int):Prop:=0 < j∧j < 1073741824
noncomputable def CPow (i j:Int):Prop:=0≤j∧j≤1000000∧i.natAbs < 2^64
noncomputable def CMul (i j:Int):Prop:=(-(2^64) < i∧i < 2^64)∨(-(2^64) < j∧j < 2^64)
theorem CMul.ok {i j:Int} (h:CMul i j):IntMulOk i j:=by
 rcases h with ⟨h1,h2⟩ | ⟨h1,h2⟩
 ·exact .of_left (intBits_le_64 h1 h2)
 ·exact .of_right (intBits_le_64 h1 h2)
theorem op_add:OpR X (binaryOp .Add) (rI0 λi j=>.int (i+j)):=opI0 λ_ _ _ _ _ _ _ q=>add_int q
theorem op_sub:OpR X (binaryOp .Sub) (rI0 λi j=>.int (i - j)):=opI0 λ_ _ _ _ _ _ _ q=>sub_int q
theorem op_mul:OpR X (binaryOp .Mult) (rI CMul λi j=>.int (i*j)):=opI λ_ _ _ _ _ _ _ hc q=>mul_int q hc.ok
theorem op_fdiv:OpR X (binaryOp .FloorDiv) (rI CDiv λi j=>.int (i / j)):=opI λi j _ _ _ _ _ hc q=>by
 have h1:(0:Int) < j:=hc.1
 have h2:j < 1073741824:=hc.2
 exact floordiv_int (by lia) (by rw[Int.fdiv_eq_ediv_of_nonneg i (by lia)];exact q) (.inl (PyProof.noPylong_small (by lia)))
theorem op_mod:OpR X (binaryOp .Mod) (rI (λ_ j=>0 < j) λi j=>.int (i % j)):=opI λi j _ _ _ _ _ hc q=>by
 have h1:(0:Int) < j:=hc
 exact mod_int' (by lia) (by rw[Int.fmod_eq_emod_of_nonneg i (by lia)];exact q)
theorem op_pow:OpR X (binaryOp .Pow) (rI CPow λi j=>.int (i^j.toNat)):=opI λ_ _ _ _ _ _ _ hc q=>pow_int_small hc.1 hc.2.1 hc.2.2 q
theorem unI {f:Value→Sem Value} {g:Int→Int}
 (rule:∀(i:Int) (t:Tok) (s:Shared) (Q:Value→Shared→Prop) (E:Value→Shared→Prop),Q (.int (g i) s.toks) { s with toks:=s.toks+1 }→wpAny (model X.prog X.w) X.A (f (.int i t)) Q E s) :
 UnR X f (rU λi=>.int (g i)):=by
 intro pins s σ H x v Q I rx h
 obtain⟨i,rfl,q⟩:=h
 obtain⟨t,rfl⟩:=rx
 exact rule i t s _ _ ⟨.int (g i),H,I.tok _,⟨_,rfl⟩,q⟩
theorem un_neg:UnR X (unaryOp .USub) (rU λi=>.int (-i)):=unI λ_ _ _ _ _ q=>neg_int q
end
section
variable {X:Cx} {a b c:Expr} {ta tb tc:TE} {pos:Pos}
theorem fin_bl {pins:List (Addr×Obj)} {σ:St} {H:Hp} {s:Shared} {Q:VK} {k k':Bool} (I:Inv X pins σ H s) (q:Q (.bl k) H) (e:k=k'):EP X pins σ Q (.bool k') s:=by
 subst e
 exact⟨.bl k,H,I,rfl,q⟩
theorem op_lt:OpR X (compareOp .Lt) (rI0 λi j=>.bl (decide (i < j))):=opB0 λ_ _ _ _ _ _ _ q=>lt_int q
theorem op_le:OpR X (compareOp .LtE) (rI0 λi j=>.bl (decide (i≤j))):=opB0 λ_ _ _ _ _ _ _ q=>le_int q
theorem op_in_str:OpR X (compareOp .In) (λx y H Q=>∃i j,x=.str i∧y=.str j∧Q (.bl (!(Builtin.Str.occurrences j i 0 j.length 1).isEmpty)) H):=by
 intro pins s σ H x y v u Q I rx ry h
 obtain⟨i,j,rfl,rfl,q⟩:=h
 obtain⟨t,rfl⟩:=rx
 obtain⟨t',rfl⟩:=ry
 exact in_str (fin_bl I q rfl)
theorem op_isN:OpR X (compareOp .Is) (λx y H Q=>y=.non∧Q (.bl (decide (x=.non))) H):=by
 intro pins s σ H x y v u Q I rx ry h
 obtain⟨rfl,q⟩:=h
 cases ry
 refine is_none_gen (fin_bl I q ?_)
 cases x<;>first
  | (cases rx;rfl)
  | (obtain⟨t,rfl⟩:=rx;rfl)
theorem op_notin_str:OpR X (compareOp .NotIn) (λx y H Q=>∃i j,x=.str i∧y=.str j∧Q (.bl (!(!(Builtin.Str.occurrences j i 0 j.length 1).isEmpty))) H):=by
 intro pins s σ H x y v u Q I rx ry h
 obtain⟨i,j,rfl,rfl,q⟩:=h
 obtain⟨t,rfl⟩:=rx
 obtain⟨t',rfl⟩:=ry
 exact notIn_str (fin_bl I q rfl)
theorem pe_cmpR {op:CmpOp} {r:R2} (ho:OpR X (compareOp op) r) (ha:PE X a ta) (hb:PE X b tb) (hm:behindInMarks op b=false):PE X (.Compare a [op] [b] pos) (tOp r ta tb):=by
 intro pins s σ H Q I h
 exact wpAny_Compare1 (binT ha hb I h λv u s2 x y H2 I2 rx ry q=>ho pins s2 σ H2 x y v u Q I2 rx ry q) hm
noncomputable def tTest (t:TE):TT:=λσ H Q=>t σ H λx H'=>∃k,x=.bl k∧Q k H'
theorem pt_cmpR {op:CmpOp} {r:R2} (ho:OpR X (compareOp op) r) (ha:PE X a ta) (hb:PE X b tb) (hm:behindInMarks op b=false):PT X (.Compare a [op] [b] pos) (tTest (tOp r ta tb)):=by
 intro pins s σ H Q I h
 refine wpAny_isTrue_Compare1 (thn (ha pins s σ H _ I h) λv s1 ⟨x,H1,I1,r1,q1⟩=>thn (hb pins s1 σ H1 _ I1 q1) λu s2 ⟨y,H2,I2,r2,q2⟩ =>
  thn (ho pins s2 σ H2 x y v u _ I2 r1 r2 q2) λc s3 ⟨z,H3,I3,r3,k,e,q3⟩=>?_) hm
 subst e
 cases r3
 exact wpAny_truthy_bool ⟨H3,I3,q3⟩
noncomputable def tChain (r r':R2) (ta tb tc:TE):TE:=λσ H Q=>ta σ H λx H1=>tb σ H1 λy H2=>r x y H2 λz H3=>∃k,z=.bl k ∧
 (if k=true then tc σ H3 λw' H4=>r' y w' H4 Q else Q (.bl false) H3)
theorem pe_chain {op op':CmpOp} {r r':R2} (ho:OpR X (compareOp op) r) (ho':OpR X (compareOp op') r') (ha:PE X a ta) (hb:PE X b tb) (hc:PE X c tc)
 (hm:lastMarks [op,op'] [b,c]=false:=by with_unfolding_all rfl):PE X (.Compare a [op,op'] [b,c] pos) (tChain r r' ta tb tc):=by
 intro pins s σ H Q I h
 refine Compare_chain (thn (ha pins s σ H _ I h) λv s1 ⟨x,H1,I1,r1,q1⟩=>chain_link (thn (hb pins s1 σ H1 _ I1 q1) λu s2 ⟨y,H2,I2,r2,q2⟩ =>
  thn (ho pins s2 σ H2 x y v u _ I2 r1 r2 q2) λd s3 ⟨z,H3,I3,r3,k,e,q3⟩=>?_)) hm
 subst e
 cases r3
 refine wpAny_truthy_bool ?_
 cases k with
 | false=>exact ite_ff ⟨.bl false,H3,I3,rfl,q3⟩
 | true=>exact ite_tt (chain_last (thn (hc pins s3 σ H3 _ I3 q3) λw' s4 ⟨z',H4,I4,r4,q4⟩=>ho' pins s4 σ H4 y z' u w' Q I4 r2 r4 q4))
theorem pt_chain {op op':CmpOp} {r r':R2} (ho:OpR X (compareOp op) r) (ho':OpR X (compareOp op') r') (ha:PE X a ta) (hb:PE X b tb) (hc:PE X c tc)
 (hm:lastMarks [op,op'] [b,c]=false:=by with_unfolding_all rfl):PT X (.Compare a [op,op'] [b,c] pos) (tTest (tChain r r' ta tb tc)):=by
 intro pins s σ H Q I h
 refine isTrue_chain (thn (ha pins s σ H _ I h) λv s1 ⟨x,H1,I1,r1,q1⟩=>test_link (thn (hb pins s1 σ H1 _ I1 q1) λu s2 ⟨y,H2,I2,r2,q2⟩ =>
  thn (ho pins s2 σ H2 x y v u _ I2 r1 r2 q2) λd s3 ⟨z,H3,I3,r3,k,e,q3⟩=>?_)) hm
 subst e
 cases r3
 refine wpAny_truthy_bool ?_
 cases k with
 | false =>
  obtain⟨k',e',q'⟩:=q3
  cases e'
  exact ite_ff ⟨H3,I3,q'⟩
 | true =>
  refine ite_tt (test_last (thn (hc pins s3 σ H3 _ I3 q3) λw' s4 ⟨z',H4,I4,r4,q4⟩=>thn (ho' pins s4 σ H4 y z' u w' _ I4 r2 r4 q4) λd' s5 hz__=>?_))
  obtain⟨z2,H5,I5,r5,k2,e2,q5⟩:=hz__
  subst e2
  cases r5
  exact wpAny_truthy_bool ⟨H5,I5,q5⟩
noncomputable def TruV (K:PySem.W.Frag) (x:V) (H:Hp) (k:Bool):Prop :=
 match x with
 | .non=>k=false
 | .bl b=>k=b
 | .int i=>k=(i != 0)
 | .str y=>y.length≤sizeLine∧k=((y.length:Int) != 0)
 | .byt y=>y.size≤sizeLine∧k=((y.size:Int) != 0)
 | .ref p=>(∃xs,SqL K H p xs∧k=!xs.isEmpty)∨(∃xs,SqT K H p xs∧k=!xs.isEmpty)∨∃kvs,H p=some (.dK kvs)∧k=!kvs.isEmpty
 | _=>False
theorem isEmpty_kv {κ:Type} {kvs:List (κ×V)} {vs:List (κ×Value)} (r:KV kvs vs):(!vs.isEmpty)=!kvs.isEmpty:=by
 cases r<;>rfl
theorem isEmpty_of {xs:List V} {its:List Value} (r:Vals xs its):(!its.toArray.isEmpty)=!xs.isEmpty:=by
 cases r<;>simp
theorem line63:(sizeLine:Nat) < 2^63:=by rw[sizeLine_eq];decide
theorem tru_ok:TruR X (λx H Q=>∃k,TruV X.K x H k∧Q k H):=by
 intro pins s σ H x v Q I rx h
 obtain⟨k,e,q⟩:=h
 have hl:=line63
 have hs:sizeLine=16777216:=sizeLine_eq
 cases x with
 | non =>
  cases rx
  have e':k=false:=e
  subst e'
  exact truthy_none ⟨H,I,q⟩
 | bl b =>
  cases rx
  have e':k=b:=e
  subst e'
  exact wpAny_truthy_bool ⟨H,I,q⟩
 | int i =>
  obtain⟨t,rfl⟩:=rx
  have e':k=(i != 0):=e
  subst e'
  exact PySem.P.truthy_int ⟨H,I,q⟩
 | str y =>
  obtain⟨t,rfl⟩:=rx
  obtain⟨hy,e'⟩:y.length≤sizeLine∧k=((y.length:Int) != 0):=e
  subst e'
  exact PySem.P.truthy_str (by lia) ⟨H,I.tok _,q⟩
 | byt y =>
  obtain⟨t,rfl⟩:=rx
  obtain⟨hy,e'⟩:y.size≤sizeLine∧k=((y.size:Int) != 0):=e
  subst e'
  exact PySem.W.truthy_bytes (by lia) ⟨H,I.tok _,q⟩
 | ref p =>
  cases rx
  have e':(∃xs,SqL X.K H p xs∧k=!xs.isEmpty)∨(∃xs,SqT X.K H p xs∧k=!xs.isEmpty)∨∃kvs,H p=some (.dK kvs)∧k=!kvs.isEmpty:=e
  rcases e' with ⟨xs,hx,e'⟩ | ⟨xs,hx,e'⟩ | ⟨kvs,hx,e'⟩
  ·subst e'
   obtain⟨its,r,pl,hz⟩:=I.list hx
   have hlen:=r.length
   exact wpAny_truthy_list pl.isList (by simp only[List.size_toArray];lia) ⟨H,I.tok _,by rw[isEmpty_of r];exact q⟩
  ·subst e'
   obtain⟨its,r,pl,hz⟩:=I.tuple hx
   have hlen:=r.length
   exact truthy_tuple pl (by simp only[List.size_toArray];lia) ⟨H,I.tok _,by rw[isEmpty_of r];exact q⟩
  ·subst e'
   obtain⟨hz,hS,vs,r,m⟩:kvs.length≤sizeLine∧(p==sysModules)=false∧∃vs,KV kvs vs∧s.heap.DictOf (mixKind X.prog X.w) p vs:=I.hok p _ hx
   have hlen:kvs.length=vs.length:=Paired.length r
   exact wpAny_truthy_dict hS m (by lia) ⟨H,I.tok _,by rw[isEmpty_kv r];exact q⟩
 | _=>exact (show False from e).elim
theorem pt_truth (ha:PE X a ta) (he:∀whole,isTrue a X.env whole=(do let v ←whole;standAt a.pos;holding [v] (truthy v))) :
 PT X a (λσ H Q=>ta σ H λx H'=>∃k,TruV X.K x H' k∧Q k H'):=by
 intro pins s σ H Q I h
 exact isTrue_plain (thn (ha pins s σ H _ I h) λv s1 ⟨x,H1,I1,r1,q1⟩=>tru_ok pins s1 σ H1 x v Q I1 r1 q1) (he _)
theorem op_add_str:OpR X (binaryOp .Add) (λx y H Q=>∃i j,x=.str i∧y=.str j∧i.length+j.length≤sizeLine∧Q (.str (i++j)) H):=by
 intro pins s σ H x y v u Q I rx ry h
 obtain⟨i,j,rfl,rfl,hz,q⟩:=h
 obtain⟨t,rfl⟩:=rx
 obtain⟨t',rfl⟩:=ry
 exact add_str (λt' tk=>⟨.str (i++j),H,I.tok _,⟨_,rfl⟩,q⟩) hz
theorem vals1 {x:V} {us:List Value} (r:Vals [x] us):∃u,us=[u]∧RelV x u:=by
 cases r with
 | cons r1 r2=>cases r2;exact⟨_,rfl,r1⟩
theorem vals2 {x y:V} {us:List Value} (r:Vals [x,y] us):∃u w',us=[u,w']∧RelV x u∧RelV y w':=by
 cases r with
 | cons r1 r2 =>
  cases r2 with
  | cons r3 r4=>cases r4;exact⟨_,_,rfl,r1,r3⟩
theorem call_int1:CallR X (.type "int") (λxs H Q=>(∃i,xs=[.int i]∧Q (.int i) H)∨∃k,xs=[.bl k]∧Q (.int (if k then 1 else 0)) H):=by
 intro pins s σ H xs us Q I r h
 rcases h with ⟨i,rfl,q⟩ | ⟨k,rfl,q⟩
 ·obtain⟨u,rfl,t,rfl⟩:=vals1 r
  exact call_int_int ⟨.int i,H,I,⟨_,rfl⟩,q⟩
 ·obtain⟨u,rfl,r1⟩:=vals1 r
  cases r1
  exact call_int_bool ⟨.int (if k then 1 else 0),H,I.tok _,⟨_,rfl⟩,q⟩
theorem call_str_int:CallR X (.type "str") (λxs H Q=>∃i,xs=[.int i]∧i.natAbs.log2 < 1920∧Q (.str (toString i)) H):=by
 intro pins s σ H xs us Q I r h
 obtain⟨i,rfl,hz,q⟩:=h
 obtain⟨u,rfl,t,rfl⟩:=vals1 r
 exact PySem.P.str_of_int hz ⟨.str _,H,I.tok _,⟨_,rfl⟩,q⟩
end
section
variable {X:Cx} {pins:List (Addr×Obj)} {σ:St} {H:Hp} {s:Shared} {a C dx:Addr} {fs:List (Str×V)} {f:Str} {v:V} {A:Around} {E:Value→Shared→Prop}
theorem attr_of {prog:Program} {w:World} {env:Env} {e:Expr} {f:Str} {pos:Pos} {s:Shared} {Q:Value→Shared→Prop} (hb:attributeBase e f env (eval e env)=eval e env)
 (h:wpAny (model prog w) A (eval e env) (λo s₁=>wpAny (model prog w) A (getAttr o f true) Q E s₁) E s):wpAny (model prog w) A (eval (.Attribute e f pos) env) Q E s :=
 Attribute_any_ h (by rw[arm_eval_Attribute,hb])
end
set_option genInjectivity false in
structure Room (k:Nat) (A:Around):Prop where
 hd:A.handled=none
 dp:A.depth+3*k+5 < recursionLimit
 un:A.units+16*k+200 < cLine
theorem Room.mono {j k:Nat} {A:Around} (r:Room k A) (h:j≤k):Room j A:=⟨r.hd,by have:=r.dp;lia,by have:=r.un;lia⟩
theorem Room.deeper {k:Nat} {A:Around} (r:Room (k+1) A) (env:Env):Room k (A.deeper env) :=
 ⟨r.hd,by have:=r.dp;show A.depth+1+3*k+5 < _;lia,by have:=r.un;show A.units+3+16*k+200 < _;lia⟩
theorem make_depth {A:Around} {C:Addr} {us:List Value} {kw:List (Str×Value)}:(A.under (.builtin "type.__call__" ⟨.ref C::us,kw⟩)).depth=A.depth+1:=by
 first | rfl | simp[Around.under,Code.weight,Code.isCreation,Code.isGuard,Code.isCaller,Code.frames,Code.isFrame,guardIds]
theorem make_units {A:Around} {C:Addr} {us:List Value} {kw:List (Str×Value)}:(A.under (.builtin "type.__call__" ⟨.ref C::us,kw⟩)).units=A.units+1:=by
 first | rfl | simp[Around.under,Code.cUnits,Code.frames,Code.isFrame]
theorem Room.make {k:Nat} {A:Around} (r:Room (k+1) A) (C:Addr) (us:List Value) (kw:List (Str×Value)):Room k (A.under (.builtin "type.__call__" ⟨.ref C::us,kw⟩)) :=
 ⟨r.hd,by have:=r.dp;rw[make_depth];lia,by have:=r.un;rw[make_units];lia⟩
theorem Room.depth {k:Nat} {A:Around} (r:Room k A):A.depth < recursionLimit:=by have:=r.dp;lia
theorem Room.units {k:Nat} {A:Around} (r:Room k A):A.units+64 < cLine:=by have:=r.un;lia
noncomputable def tNil:TA:=λ_ H Q=>Q [] H
noncomputable def tCons (ta:TE) (tr:TA):TA:=λσ H Q=>ta σ H λx H1=>tr σ H1 λxs H2=>Q (x::xs) H2
section
variable {X:Cx} {e:Expr} {es:List Expr} {te:TE} {t:TA} {pos:Pos}
theorem pa_nil:PA X [] tNil:=λ_ _ _ _ H Q I h=>Calls.spliced_nil ⟨[],H,I,.nil,h⟩
theorem pa_cons (ha:PE X e te) (hr:PA X es t) (hs:starEach (e::es) X.env=(false,eval e X.env)::starEach es X.env:=by rfl):PA X (e::es) (tCons te t):=by
 intro pos pins s σ H Q I h
 rw[hs]
 show wpAny _ _ (spliced ((false,eval e X.env)::backTo pos (starEach es X.env))) _ _ s
 refine Calls.spliced_cons (thn (ha pins s σ H _ I h) λu s1 hz__=>?_)
 obtain⟨x,H1,I1,r1,q1⟩:=hz__
 exact thn (hr pos pins s1 σ H1 _ I1 q1) λus s2 ⟨xs,H2,I2,r2,q2⟩=>⟨x::xs,H2,I2,.cons r1 r2,q2⟩
noncomputable def tTup (t:TA):TE:=λσ H Q=>t σ H λxs H1=>xs.length≤sizeLine∧∀p,H1 p=none→Q (.ref p) (upd H1 p (.tup xs))
noncomputable def tLst (t:TA):TE:=λσ H Q=>t σ H λxs H1=>xs.length≤sizeLine∧∀p,H1 p=none→Q (.ref p) (upd H1 p (.lst xs))
theorem pe_tup {x1} (h:PA X es t):PE X (.Tuple es x1 pos) (tTup t):=by
 intro pins s σ H Q I hq
 refine wpAny_Tuple_spliced (thn (h pos pins s σ H _ I hq) λus s1 ⟨xs,H1,I1,r,z,q⟩=>⟨by rw[←r.length];exact z,?_⟩)
 have hf:H1 s1.heap.objs.size=none:=I1.hok.fresh (Nat.le_refl _)
 refine⟨.ref s1.heap.objs.size,upd H1 s1.heap.objs.size (.tup xs),I1.laid (t':=s1.toks) (λb u e=>Heap.get?_push_of_some _ e) (Nat.le_refl _) ?_,rfl,q _ hf⟩
 exact⟨z,us,r,⟨_,Heap.get?_push_size _ rfl,rfl,_,rfl⟩⟩
theorem pe_lst (h:PA X es t):PE X (.List es pos) (tLst t):=by
 intro pins s σ H Q I hq
 refine wpAny_List_spliced (thn (h pos pins s σ H _ I hq) λus s1 ⟨xs,H1,I1,r,z,q⟩=>⟨by rw[←r.length];exact z,?_⟩)
 have hf:H1 s1.heap.objs.size=none:=I1.hok.fresh (Nat.le_refl _)
 refine⟨.ref s1.heap.objs.size,upd H1 s1.heap.objs.size (.lst xs),I1.laid (t':=s1.toks) (λb u e=>Heap.get?_push_of_some _ e) (Nat.le_refl _) ?_,rfl,q _ hf⟩
 exact⟨z,us,0,r,Heap.get?_push_size _ rfl⟩
end
noncomputable abbrev Sp:=List V→Hp→VK→XK→Prop
noncomputable abbrev CXT:=List Env→Hp→Shared→XK→Value→Shared→Prop
set_option genInjectivity false in
structure Env0 (P:Program) (w:World) (K:PySem.W.Frag) (mg:Str→Option Value) (base:Heap) (A:Around) (outer:List Env) (s:Shared) (H:Hp):Prop where
 frames:A.frames=some outer
 mod:Mod K mg base
 bs:∀b o,base.get? b=some o→s.heap.get? b=some o∧H b=none
 bsz:base.objs.size≤s.heap.objs.size
 funs:s.heap.FunFrames base outer
 frf:∀b∈frs outer,H b=none
 hok:HOk P w H s.heap
 bare:AllBare s.gens
noncomputable def CE (outer:List Env) (P:Program) (w:World) (H:Hp) (s:Shared) (Q:VK) (u:Value) (s':Shared):Prop :=
 ∃v H',s'.os=s.os∧AllBare s'.gens∧Un (frs outer) [] H H' s.heap s'.heap∧HOk P w H' s'.heap∧RelV v u∧Q v H'
noncomputable def CR (CX:CXT) (outer:List Env) (P:Program) (w:World) (H:Hp) (s:Shared) (Q:VK) (E:XK) (r:Result) (s':Shared):Prop :=
 match r with
 | .ok (.ret u)=>CE outer P w H s Q u s'
 | .ok _=>False
 | .error e=>CX outer H s E e s'
set_option genInjectivity false in
structure FnOk (P:Program) (w:World) (K:PySem.W.Frag) (mg:Str→Option Value) (base:Heap) (CX:CXT) (k:Nat) (f:Addr) (fd:FuncData) (ps:List Str) (sp:Sp):Prop where
 len:∀vs H Q E,sp vs H Q E→vs.length=ps.length
 run:∀(A:Around) (outer:List Env) (s:Shared) (H:Hp) (args:Args) (us:List Value) (vs:List V) (Q:VK) (E:XK),Room k A→Env0 P w K mg base A outer s H→BindsTo s fd args (ps.zip us)→Vals vs us→sp vs H Q E →
  codeAny (model P w) A (.call (.ref f) args) (CR CX outer P w H s Q E) s
theorem Env0.make {P:Program} {w:World} {K:PySem.W.Frag} {mg:Str→Option Value} {base:Heap} {A:Around} {outer:List Env} {s:Shared} {H:Hp} (e:Env0 P w K mg base A outer s H) (C:Addr) (us:List Value) (kw:List (Str×Value)) :
 Env0 P w K mg base (A.under (.builtin "type.__call__" ⟨.ref C::us,kw⟩)) outer s H:=⟨by first | exact e.frames | (simpa[Around.under,Code.envs,Code.isFrame,pushEnvs] using e.frames),e.mod,e.bs,e.bsz,e.funs,e.frf,e.hok,e.bare⟩
section
variable {X:Cx} {pins:List (Addr×Obj)} {σ:St} {H:Hp} {s s':Shared}
theorem Inv.env0 (I:Inv X pins σ H s):Env0 X.prog X.w X.K X.mg X.base X.A X.stack s H :=
 ⟨I.ok.frames,I.ok.mod,I.bs,Nat.le_trans I.ok.bsz I.sz,I.stack,I.stkFree,I.hok,I.bare⟩
theorem Inv.after {Q:VK} {u:Value} (I:Inv X pins σ H s) (h:CE X.stack X.prog X.w H s Q u s'):EP X pins σ Q u s':=by
 obtain⟨v,H',os,bare,un,hok,r,q⟩:=h
 obtain⟨hh,g,d,t,os'⟩:=s'
 obtain rfl:os'=s.os:=os
 exact⟨v,H',I.call (h':=hh) (g':=g) (d':=d) (t':=t) (ch:=[]) un hok bare (λb z=>absurd z (by simp)),r,q⟩
end
noncomputable def tCall (sp:Sp) (dvs:List V) (E:XK) (t:TA):TE:=λσ H Q=>t σ H λvs H1=>sp (vs++dvs) H1 Q E
noncomputable def Binds (K:PySem.W.Frag) (fd:FuncData) (ps:List Str) (ds:List Value):Prop :=
 ∀(s:Shared) (us:List Value),K.In s.heap→(us++ds).length=ps.length→BindsTo s fd ⟨us,[]⟩ (ps.zip (us++ds))
theorem Binds.all {K:PySem.W.Frag} {fd:FuncData} {ps:List Str} (h:∀us:List Value,us.length=ps.length→bindArgs fd ⟨us,[]⟩=pure (ps.zip us)):Binds K fd ps []:=λs us _ hl=>by
 rw[List.append_nil] at hl ⊢
 exact .of_eq (h us hl)
noncomputable def Passes (CX:CXT) (X:Cx) (E:XK):Prop:=∀(pins:List (Addr×Obj)) (σ:St) (H:Hp) (s:Shared) (e:Value) (s':Shared),Inv X pins σ H s→CX X.stack H s E e s'→X.xe e s'
section
variable {X:Cx} {CX:CXT} {k:Nat} {f C:Addr} {fd:FuncData} {ps:List Str} {sp:Sp} {dvs:List V} {ds:List Value} {E:XK} {x m:Str} {p pos apos:Pos} {e o:Expr} {es:List Expr} {ta:TE} {t:TA}
theorem run_fn {pins:List (Addr×Obj)} {σ:St} {H:Hp} {s:Shared} {Q:VK} {us:List Value} {vs:List V} (F:FnOk X.prog X.w X.K X.mg X.base CX k f fd ps sp) (hr:Room k X.A) (hb:Binds X.K fd ps ds) (hd:Vals dvs ds) (hx:Passes CX X E)
 (I:Inv X pins σ H s) (r:Vals vs us) (h:sp (vs++dvs) H Q E):wpAny (model X.prog X.w) X.A (call (.ref f) us) (EP X pins σ Q) X.xe s:=by
 have r2:Vals (vs++dvs) (us++ds):=r.append hd
 have hl:(us++ds).length=ps.length:=by rw[←r2.length];exact F.len _ _ _ _ h
 refine wpAny_call (codeAny_mono (F.run X.A X.stack s H ⟨us,[]⟩ (us++ds) (vs++dvs) Q E hr I.env0 (hb s us I.kIn hl) r2 h) λr s' hq=>?_)
 cases r with
 | error e=>exact hx pins σ H s e s' I hq
 | ok fl =>
  cases fl with
  | ret u=>exact I.after hq
  | next=>exact False.elim hq
  | brk=>exact False.elim hq
  | cont=>exact False.elim hq
theorem pe_call (F:FnOk X.prog X.w X.K X.mg X.base CX k f fd ps sp) (hr:Room k X.A) (hg:Gl X x) (hm:X.mg x=some (.ref f)) (hk:PySem.W.keepIn X.K (.ref f)=true) (hb:Binds X.K fd ps ds) (hd:Vals dvs ds) (hx:Passes CX X E)
 (ha:PA X (e::es) t) (hdb:(x==("__debug__" : Str))=false:=by decide) (he:starEach (e::es) X.env=(false,eval e X.env)::starEach es X.env:=by rfl) (hpl:(backTo pos (starEach es X.env)).any (·.1)=false:=by rfl) :
 PE X (.Call (.Name x p) (e::es) [] pos) (tCall sp dvs E t):=by
 intro pins s σ H Q I h
 refine wpAny_Call_Name_kw (ld_glob I hg hm ?_ hdb)
 refine PySem.W.callWith_K (h₀:=X.base) I.ok.mod.kin hk (thn (ha pos pins s σ H _ I h) λus s1 ⟨vs,H1,I1,r,q⟩=>⟨I1.kIn,?_⟩) he hpl
 exact run_fn F hr hb hd hx I1 r q
theorem pe_call0 (F:FnOk X.prog X.w X.K X.mg X.base CX k f fd ps sp) (hr:Room k X.A) (hg:Gl X x) (hm:X.mg x=some (.ref f)) (hk:PySem.W.keepIn X.K (.ref f)=true) (hb:Binds X.K fd ps ds) (hd:Vals dvs ds) (hx:Passes CX X E)
 (hdb:(x==("__debug__" : Str))=false:=by decide):PE X (.Call (.Name x p) [] [] pos) (tCall sp dvs E tNil):=by
 intro pins s σ H Q I h
 refine wpAny_Call_Name_kw (ld_glob I hg hm ?_ hdb)
 exact PySem.W.callWith_K0 I.kIn hk (run_fn (us:=[]) F hr hb hd hx I .nil h)
end
section
variable {X:Cx} {CX:CXT} {k:Nat} {f C:Addr} {fd:FuncData} {ps ks:List Str} {sp:Sp} {E:XK} {x m:Str} {p pos apos kpos:Pos} {e o:Expr} {es:List Expr} {kws:List Keyword} {te ta:TE} {t tk:TA} {nm:Option Str}
variable {g:List Value→List Value→List Value} {gV:List V→List V→List V}
end
set_option genInjectivity false in
structure FnScope (N P:List Str) (sc:Scope):Prop where
 kind:sc.kind=.function
 co:sc.isCoroutine=false
 gen:sc.isGenerator=false
 nd:N.Nodup
 pre:N.take P.length=P
 par:∀x∈P,sc.names.lookup x=some .local∨sc.names.lookup x=some .cell
 nofree:∀y∈sc.names,y.2≠.free
theorem bindL_out {kindOf:Str→Option NameKind} {x:Str}:∀ {binds:List (Str×Value)} {m:Str→Option Value},(∀v,(x,v)∉binds)→bindL kindOf binds m x=m x
 | [],_,_=>rfl
 | (n,v)::r,m,h=>by
  unfold bindL
  rw[bindL_out λw hw=>h w (List.mem_cons_of_mem _ hw)]
  split
  ·have:x≠n:=by rintro rfl;exact h v List.mem_cons_self
   simp[this]
  ·rfl
theorem bindC_out {kindOf:Str→Option NameKind} {x:Str}:∀ {binds:List (Str×Value)} {m:Str→Option Value},(∀v,(x,v)∉binds)→bindC kindOf binds m x=m x
 | [],_,_=>rfl
 | (n,v)::r,m,h=>by
  unfold bindC
  rw[bindC_out λw hw=>h w (List.mem_cons_of_mem _ hw)]
  split
  ·rfl
  ·have:x≠n:=by rintro rfl;exact h v List.mem_cons_self
   simp[this]
theorem bindL_get {kindOf:Str→Option NameKind} {x:Str} {v:Value}:∀ {P:List Str} {vs:List Value} {i:Nat} {m:Str→Option Value},P.Nodup→P[i]?=some x→vs[i]?=some v→kindOf x=some .local →
 bindL kindOf (P.zip vs) m x=some v
 | [],_,_,_,_,h,_,_=>by simp at h
 | _::_,[],_,_,_,_,h,_=>by simp at h
 | p::P,w::vs,0,m,nd,h1,h2,hk=>by
  simp at h1 h2;subst h1;subst h2
  show bindL kindOf ((p,w)::P.zip vs) m p=_
  unfold bindL
  rw[bindL_out λv hv=>(List.nodup_cons.mp nd).1 (List.of_mem_zip hv).1,if_pos hk]
  simp
 | p::P,w::vs,i+1,m,nd,h1,h2,hk=>by
  show bindL kindOf ((p,w)::P.zip vs) m x=_
  unfold bindL
  exact bindL_get (i:=i) (List.nodup_cons.mp nd).2 (by simpa using h1) (by simpa using h2) hk
theorem bindC_get {kindOf:Str→Option NameKind} {x:Str} {v:Value}:∀ {P:List Str} {vs:List Value} {i:Nat} {m:Str→Option Value},P.Nodup→P[i]?=some x→vs[i]?=some v→kindOf x≠some .local →
 bindC kindOf (P.zip vs) m x=some v
 | [],_,_,_,_,h,_,_=>by simp at h
 | _::_,[],_,_,_,_,h,_=>by simp at h
 | p::P,w::vs,0,m,nd,h1,h2,hk=>by
  simp at h1 h2;subst h1;subst h2
  show bindC kindOf ((p,w)::P.zip vs) m p=_
  unfold bindC
  rw[bindC_out λv hv=>(List.nodup_cons.mp nd).1 (List.of_mem_zip hv).1,if_neg hk]
  simp
 | p::P,w::vs,i+1,m,nd,h1,h2,hk=>by
  show bindC kindOf ((p,w)::P.zip vs) m x=_
  unfold bindC
  exact bindC_get (i:=i) (List.nodup_cons.mp nd).2 (by simpa using h1) (by simpa using h2) hk
noncomputable def start (N:List Str) (vs:List V):St:=vs.map some++List.replicate (N.length - vs.length) none
noncomputable def cxOf (CX:CXT) (P:Program) (w:World) (K:PySem.W.Frag) (mg:Str→Option Value) (base:Heap) (N:List Str) (qual:Str) (scope:Scope) (f:Addr) (cd:Value) (A:Around) (outer:List Env) (s:Shared) (H:Hp) (E:XK):Cx where
 prog:=P
 w:=w
 K:=K
 mg:=mg
 base:=base
 A:=A.deeper (envOfC qual scope s.heap.objs.size f cd)
 N:=N
 s₀:=s
 H₀:=H
 env:=envOfC qual scope s.heap.objs.size f cd
 outer:=outer
 stack:=envOfC qual scope s.heap.objs.size f cd::outer
 ex:=[]
 calm:=true
 fn:=λ_=>true
 pn:=[]
 xe:=λe s'=>wpAny (model P w) (A.deeper (envOfC qual scope s.heap.objs.size f cd)) (leaving (envOfC qual scope s.heap.objs.size f cd) e) (λ_ s''=>CX outer H s E e s'') (λe' s''=>CX outer H s E e' s'') s'
theorem cell_has {sc:Scope} {n:Nat} {x:Str} (h:sc.names.lookup x=some .cell):∃c,(cellsFrom n sc.names []).lookup x=some c:=by
 have q:=PySem.W.cellsFrom_some sc.names n [] (.inl h)
 exact Option.isSome_iff_exists.mp q
theorem inv_start {CX:CXT} {P:Program} {w:World} {K:PySem.W.Frag} {mg:Str→Option Value} {base:Heap} {N ps:List Str} {qual:Str} {scope:Scope} {f:Addr} {cd:Value} {A:Around} {outer:List Env} {s s1:Shared} {H:Hp} {E:XK} {us:List Value} {vs:List V}
 (S:FnScope N ps scope) (hd:A.handled=none) (e0:Env0 P w K mg base A outer s H) (hl:vs.length=ps.length) (r:Vals vs us)
 (x:InCallC s s.heap.objs.size (bindL (envOfC qual scope s.heap.objs.size f cd).kindOf (ps.zip us) λ_=>none) (cellsFrom (s.heap.objs.size+1) scope.names []) (bindC (envOfC qual scope s.heap.objs.size f cd).kindOf (ps.zip us) λ_=>none) s1) :
 Inv (cxOf CX P w K mg base N qual scope f cd A outer s H E) [] (start N vs) H s1:=by
 have hpl:ps.length≤N.length:=by have:=congrArg List.length S.pre;rw[List.length_take] at this;lia
 obtain⟨h1,tk,rfl,hk⟩:=x.done
 have noA:∀b:Addr,b∉(cxOf CX P w K mg base N qual scope f cd A outer s H E).ex:=λb z=>absurd (show b∈([]:List Addr) from z) (by simp)
 refine⟨⟨e0.mod,S.kind,rfl,rfl,Nat.le_refl _,λy z c h1 h2=>?_,λy hy=>?_,λy c _ h=>?_,λ_=>hd,Around.frames_deeper e0.frames,.inr ⟨rfl,rfl⟩,λb z=>absurd z (noA b),e0.bs,e0.bsz,λb _ _=>noA b,λb z=>absurd z (noA b),e0.funs,e0.frf⟩,
  rfl,e0.bare,Un.kept hk,⟨_,x.toInCall.ns,λi y v h1 h2 h3=>?_⟩,λy c h=>⟨_,x.cell y c h⟩,e0.hok.fresh (Nat.le_refl _),λy c h=>?_,λp hp=>absurd (show p∈([]:List (Addr×Obj)) from hp) (by simp),e0.hok.kept hk,?_⟩
 ·exact name_of_addr x.apart (PySem.mem_of_lookup h1) (PySem.mem_of_lookup h2)
 ·have hy:scope.names.lookup y=some .cell∨scope.names.lookup y=some .free:=hy
  rcases hy with hy | hy
  ·exact cell_has hy
  ·exact absurd rfl (S.nofree _ (PySem.mem_of_lookup hy))
 ·exact Nat.le_of_lt (x.above y c (PySem.mem_of_lookup h))
 ·have hi:i < vs.length:=by
   unfold start at h2
   by_cases hi:i < vs.length
   ·exact hi
   ·rw[List.getElem?_append_right (by simpa using hi)] at h2
    rw[List.getElem?_replicate] at h2
    split at h2<;>cases h2
  have ha:vs[i]?=some v:=by
   unfold start at h2
   rw[List.getElem?_append_left (by simpa using hi),List.getElem?_map] at h2
   cases e:vs[i]? with
   | none=>rw[e] at h2;cases h2
   | some a=>rw[e] at h2;cases h2;rfl
  obtain⟨u,hu,rv⟩:=r.get ha
  have hp:ps[i]?=some y:=by
   rw[←S.pre,List.getElem?_take_of_lt (by lia)];exact h1
  have ndP:ps.Nodup:=by rw[←S.pre];exact S.nd.sublist (List.take_sublist _ _)
  refine⟨u,rv,?_⟩
  rcases S.par y (List.mem_of_getElem? hp) with k | k
  ·exact .inl ⟨k,bindL_get ndP hp hu k⟩
  ·obtain⟨c,e⟩:=cell_has (n:=s.heap.objs.size+1) k
   refine .inr ⟨.inl k,c,e,?_⟩
   have q:=x.cell y c e
   rw[bindC_get ndP hp hu (by show scope.names.lookup y≠_;rw[k];decide)] at q
   exact q
 ·exact e0.hok.fresh (Nat.le_of_lt (x.above y c (PySem.mem_of_lookup h)))
 ·unfold start
  show _=N.length
  rw[List.length_append,List.length_map,List.length_replicate]
  lia
theorem fn_of {CX:CXT} {P:Program} {w:World} {K:PySem.W.Frag} {mg:Str→Option Value} {base:Heap} {k:Nat} {f:Addr} {name qual:Str} {params:Arguments} {body:List Stmt} {scope:Scope} {dV kV doc pm cdv ct oc:Value} {an od:Option Addr}
 {osl:Array (Option Value)} {N ps:List Str} {sp:Sp} (lk:K.lookup f=some ⟨oc,od,.func (PySem.W.fnOf name qual params body scope dV kV doc pm an cdv ct),osl⟩) (hcd:PySem.W.codeIn K cdv qual=true) (S:FnScope N ps scope)
 (len:∀vs H Q E,sp vs H Q E→vs.length=ps.length)
 (hbody:∀(A:Around) (outer:List Env) (s:Shared) (H:Hp) (vs:List V) (Q:VK) (E:XK),Room k (A.deeper (envOfC qual scope s.heap.objs.size f cdv))→sp vs H Q E →
  ∃t,PSs (cxOf CX P w K mg base N qual scope f cdv A outer s H E) body t∧t { nx:=λ_ H'=>Q .non H',rt:=Q } (start N vs) H) :
 FnOk P w K mg base CX (k+1) f (PySem.W.fnOf name qual params body scope dV kV doc pm an cdv ct) ps sp:=by
 refine⟨len,λA outer s H args us vs Q E hr e0 hb r hsp=>?_⟩
 have hl:=len _ _ _ _ hsp
 have KX:K.In s.heap:=e0.mod.kin.keeps λb o e=>(e0.bs b o e).1
 have lim:s.heap.NoLimit:=e0.mod.nolimit.keeps λb o e=>(e0.bs b o e).1
 have hkind:∀y∈ps.zip us,scope.names.lookup y.1=some .local∨(scope.names.lookup y.1=some .cell∧((cellsFrom (s.heap.objs.size+1) scope.names []).lookup y.1).isSome=true):=λ⟨n,v⟩ hy=>by
  rcases S.par n (List.of_mem_zip hy).1 with q | q
  ·exact .inl q
  ·exact .inr ⟨q,PySem.W.cellsFrom_some _ _ _ (.inl q)⟩
 refine codeAny_call_function hr.depth (KX _ _ lk) rfl S.co S.gen rfl (PySem.W.codeRec_of KX hcd) (hb _ _ _ _ ?_)
 refine wpAny_newFunctionEnv_cells S.kind hkind λenv he s1 x=>?_
 subst he
 refine⟨lim.keeps x.toInCall.keep,codeAny_func ?_⟩
 obtain⟨t,ht,hq⟩:=hbody A outer s H vs Q E (hr.deeper _) hsp
 have I:Inv (cxOf CX P w K mg base N qual scope f cdv A outer s H E) [] (start N vs) H s1:=inv_start S hr.hd e0 hl r x
 refine wpAny_mono (ht [] s1 (start N vs) H _ I hq) (λfl s' hs=>?_) λe s' hs=>hs
 have fin:∀ {σ':St} {H':Hp} {v:V} {u:Value},Inv (cxOf CX P w K mg base N qual scope f cdv A outer s H E) [] σ' H' s'→RelV v u→Q v H'→CE outer P w H s Q u s' :=
  λ{σ' H' v u} J rv q=>⟨v,H',J.os,J.bare,J.base,J.hok,rv,q⟩
 cases fl with
 | ret u =>
  obtain⟨v,σ',H',J,rv,q⟩:=hs
  exact fin J rv q
 | next =>
  obtain⟨σ',H',J,q⟩:=hs
  exact fin (v:=V.non) (u:=Value.none) J rfl q
 | brk =>
  obtain⟨_,_,_,q⟩:=hs
  exact False.elim q
 | cont =>
  obtain⟨_,_,_,q⟩:=hs
  exact False.elim q
section
variable {X:Cx} {x:Str} {p pos:Pos} {e:Expr} {es:List Expr} {t:TA} {id T:String} {r:List V→Hp→VK→Prop}
noncomputable def tCB (r:List V→Hp→VK→Prop) (t:TA):TE:=λσ H Q=>t σ H λvs H1=>r vs H1 Q
theorem pe_callB (hc:CallR X (.builtin id) r) (hg:Gl X x) (hm:X.mg x=none) (hv:bootBuiltins x=some (.builtin id)) (ha:PA X (e::es) t) (hn:x ≠ "__name__" := by decide) (hdb:(x==("__debug__" : Str))=false:=by decide)
 (he:starEach (e::es) X.env=(false,eval e X.env)::starEach es X.env:=by rfl) (hpl:(backTo pos (starEach es X.env)).any (·.1)=false:=by rfl):PE X (.Call (.Name x p) (e::es) [] pos) (tCB r t):=by
 intro pins s σ H Q I h
 refine wpAny_Call_Name_kw (ld_blt I hg hm hv ?_ hn hdb)
 exact PyProof.Rows.callWith_builtin1 (thn (ha pos pins s σ H _ I h) λus s1 ⟨vs,H1,I1,r1,q1⟩=>hc pins s1 σ H1 vs us Q I1 r1 q1) he hpl
theorem pe_callTy (hc:CallR X (.type T) r) (hg:Gl X x) (hm:X.mg x=none) (hv:bootBuiltins x=some (.type T)) (ha:PA X (e::es) t) (hn:x ≠ "__name__" := by decide) (hdb:(x==("__debug__" : Str))=false:=by decide)
 (he:starEach (e::es) X.env=(false,eval e X.env)::starEach es X.env:=by rfl) (hpl:(backTo pos (starEach es X.env)).any (·.1)=false:=by rfl):PE X (.Call (.Name x p) (e::es) [] pos) (tCB r t):=by
 intro pins s σ H Q I h
 refine wpAny_Call_Name_kw (ld_blt I hg hm hv ?_ hn hdb)
 exact PyProof.Rows.callWith_type1 (thn (ha pos pins s σ H _ I h) λus s1 ⟨vs,H1,I1,r1,q1⟩=>hc pins s1 σ H1 vs us Q I1 r1 q1) he hpl
end
end L2
namespace HT
open PySem PyProof.Rows
section
open PySem.SeqAt
open PySem.AutoSeq1 (wpAny_loadPart')
open PySem.MeetsSeq PySem.MeetsSeq2 PySem.MeetsSeq3
end
section
variable {prog:Program} {w:World} {A:Around} {E:Value→Shared→Prop} {s:Shared}
theorem cat_tup {t b:Addr} {vs ws:List Value} {Q:Value→Shared→Prop} (ht:IsTup s.heap t vs.toArray) (hb:IsTup s.heap b ws.toArray) (hv:vs≠[])
 (h1:ws=[]→Q (.ref t) s) (h2:ws≠[]→Q (.ref s.heap.objs.size) { s with heap:=s.heap.push { cls:=.type "tuple", data:=.seq (vs++ws).toArray } })
 (hsz:vs.length+ws.length≤sizeLine):wpAny (model prog w) A (binaryOp .Add (.ref t) (.ref b)) Q E s:=by
 obtain⟨⟨cls,dd,data,sl⟩,ho,hc,n,hd⟩:=id ht
 obtain⟨⟨cls2,dd2,data2,sl2⟩,ho2,hc2,n2,hd2⟩:=id hb
 simp only at hc hd hc2 hd2
 subst hc hd hc2 hd2
 have e:vs.toArray++ws.toArray=(vs++ws).toArray:=by simp
 by_cases hw:ws=[]
 ·exact concat_meets ⟨_,ho,rfl⟩ ⟨_,ho2,rfl⟩ noFill_tuple_add seq_tuple_add PySem.F.slot_tuple_add PySem.F.entry_tuple_add (PySem.F.args_tuple_add_2 _ _)
   (tuple_addW1 t b vs.toArray ws.toArray n n2 dd dd2 sl sl2 (by simpa using hv) (by simp[hw])) ⟨ho,ho2,h1 hw⟩
 ·refine concat_meets ⟨_,ho,rfl⟩ ⟨_,ho2,rfl⟩ noFill_tuple_add seq_tuple_add PySem.F.slot_tuple_add PySem.F.entry_tuple_add (PySem.F.args_tuple_add_2 _ _)
   (tuple_addW2 t b vs.toArray ws.toArray n n2 dd dd2 sl sl2 (by simpa using hv) (by simpa using hw) (by rw[List.size_toArray,List.size_toArray];exact hsz)) ⟨ho,ho2,?_⟩
  rw[e]
  exact h2 hw
noncomputable def sIx (n d:Nat):Option Int→Nat
 | none=>d
 | some v=>if v < 0 then (v+(n:Int)).toNat else min v.toNat n
theorem sIx_le (n d:Nat) (hd:d≤n) (o:Option Int):sIx n d o≤n:=by
 cases o with
 | none=>exact hd
 | some v =>
  show (if v < 0 then (v+(n:Int)).toNat else min v.toNat n)≤n
  by_cases hv:v < 0
  ·rw[if_pos hv];lia
  ·rw[if_neg hv];exact Nat.min_le_right _ _
theorem clip_eq (v:Int) (n d:Nat):(if v < 0 then max (v+(n:Int)) 0 else min v (n:Int))=((sIx n d (some v):Nat):Int):=by
 show (if v < 0 then max (v+(n:Int)) 0 else min v (n:Int))=(((if v < 0 then (v+(n:Int)).toNat else min v.toNat n):Nat):Int)
 by_cases hv:v < 0
 ·simp only[if_pos hv];lia
 ·simp only[if_neg hv];lia
theorem adjust_gen (lo hi:Option Int) (n:Nat):Builtin.Slice.sliceAdjust lo hi 1 (n:Int)=(((sIx n 0 lo:Nat):Int),((sIx n n hi:Nat):Int)):=by
 have h1:¬((1:Int) < 0):=by lia
 unfold Builtin.Slice.sliceAdjust
 simp only[h1,if_false]
 refine Prod.ext ?_ ?_
 ·cases lo with
  | none=>rfl
  | some v=>exact clip_eq v n 0
 ·cases hi with
  | none=>rfl
  | some v=>exact clip_eq v n n
theorem places_gen (i j:Nat):Builtin.Slice.slicePlaces (i:Int) (j:Int) 1=j - i:=by
 unfold Builtin.Slice.slicePlaces
 have h1:(1:Int) > 0:=by lia
 simp only[h1,if_true,Int.ediv_one]
 split<;>lia
theorem slicePart_ {v:Value} {o:Option Int} {Q:Option Int→Shared→Prop} (p:IsPart v o) (h:Q o s):wpAny (model prog w) A (Builtin.Slice.slicePartIndex v) Q E s:=by
 cases p with
 | none=>exact slicePart_none h
 | int i t=>exact slicePart_int h
theorem sliceApplied_gen {sl:Addr} {vl vu:Value} {lo hi:Option Int} {n:Nat} {Q:Int×Int×Nat→Shared→Prop} (hs:s.heap.IsSliceOf sl vl vu .none) (pl:IsPart vl lo) (pu:IsPart vu hi)
 (h:Q (((sIx n 0 lo:Nat):Int),1,sIx n n hi - sIx n 0 lo) s):wpAny (model prog w) A (Builtin.Slice.sliceApplied (.ref sl) (pure (n:Int))) Q E s:=by
 obtain⟨os,hos,hcs,hds⟩:=id hs
 unfold Builtin.Slice.sliceApplied Builtin.Slice.sliceFields
 refine wpAny_bind (wpAny_bind (wpAny_field hos hds (x:=vl) rfl (wpAny_bind (wpAny_field hos hds (x:=vu) rfl (wpAny_bind (wpAny_field hos hds (x:=.none) rfl (wpAny_pure ?_)))))))
 refine wpAny_bind (slicePart_none ?_)
 show wpAny _ _ (if ((1:Int)==0)=true then _ else _) _ _ s
 rw[if_neg (by decide)]
 refine wpAny_bind (slicePart_ pl (wpAny_bind (slicePart_ pu (wpAny_bind (wpAny_pure ?_)))))
 show wpAny _ _ (match Builtin.Slice.sliceAdjust lo hi 1 (n:Int) with | (lo,hi)=>pure (lo,(1:Int),Builtin.Slice.slicePlaces lo hi 1)) _ _ s
 rw[adjust_gen lo hi n]
 show wpAny _ _ (pure (((sIx n 0 lo:Nat):Int),(1:Int),Builtin.Slice.slicePlaces ((sIx n 0 lo:Nat):Int) ((sIx n n hi:Nat):Int) 1)) _ _ s
 rw[places_gen]
 exact wpAny_pure h
theorem pick_gen (xs:Array Value) (i k:Nat):((List.range k).filterMap λ(m:Nat)=>xs[((i:Int)+(m:Int)*1).toNat]?).toArray=((xs.toList.drop i).take k).toArray:=by
 have e:(λ(m:Nat)=>xs[((i:Int)+(m:Int)*1).toNat]?)=λm=>xs[i+m]?:=by
  funext m
  have:((i:Int)+(m:Int)*1).toNat=i+m:=by lia
  rw[this]
 rw[e]
 have:=pick_run xs i k
 rw[List.filterMap_map] at this
 have e2:((λx=>xs[x]?)∘λx=>i+x)=λm=>xs[i+m]?:=rfl
 rw[e2] at this
 rw[this]
theorem getItem_tuple_cut {t sl:Addr} {items:Array Value} {vl vu:Value} {lo hi:Option Int} {Q:Value→Shared→Prop} (ht:IsTup s.heap t items) (hs:s.heap.IsSliceOf sl vl vu .none) (pl:IsPart vl lo) (pu:IsPart vu hi)
 (hw:¬(sIx items.size 0 lo=0∧sIx items.size items.size hi=items.size))
 (h:Q (.ref s.heap.objs.size) { s with heap:=s.heap.push { cls:=.type "tuple", data:=.seq ((items.toList.drop (sIx items.size 0 lo)).take (sIx items.size items.size hi - sIx items.size 0 lo)).toArray } })
 (hsz:items.size≤sizeLine):wpAny (model prog w) A (getItem (.ref t) (.ref sl)) Q E s:=by
 have htake:sizeOk (.seq ((items.toList.drop (sIx items.size 0 lo)).take (sIx items.size items.size hi - sIx items.size 0 lo)).toArray):=by
  show ((items.toList.drop (sIx items.size 0 lo)).take (sIx items.size items.size hi - sIx items.size 0 lo)).toArray.size≤sizeLine
  rw[List.size_toArray,List.length_take,List.length_drop,Array.length_toList]
  lia
 have hj:sIx items.size items.size hi≤items.size:=sIx_le _ _ (Nat.le_refl _) hi
 obtain⟨os,hos,hcs,hds⟩:=id hs
 have hTs:s.TypeIs (.ref sl) "slice" := ⟨os,hos,hcs⟩
 unfold getItem
 try with_reducible refine wpAny_holding ?_
 first | refine wpAny_bind (wpAny_pure ?_) | skip
 refine wpAny_bind (wpAny_sequenceKey ht.typeIs (by decide) ?_)
 refine wpAny_bind (wpAny_callSpecial?_slot (name:=Str.ofString "__getitem__") ht.typeIs PyProof.Rows.slot_tuple_getitem
  (wpAny_call_entry PyProof.Rows.slot_tuple_getitem ht.typeIs entry_tuple_getitem ?_ (args_tuple_getitem _ _)))
 show wpAny _ _ (Builtin.Tuple.tupleItemsOf (.ref t)>>=_) _ _ s
 refine wpAny_bind (tupleItemsOf_ ht ?_)
 refine wpAny_bind (wpAny_typeOf hTs ?_)
 rw[if_pos (by decide)]
 refine wpAny_bind (sliceApplied_gen hs pl pu ?_)
 have hno:¬((((sIx items.size 0 lo:Nat):Int)==0&&(1:Int)==1&&(sIx items.size items.size hi - sIx items.size 0 lo)==items.size)=true):=by
  intro q
  rw[Bool.and_eq_true,Bool.and_eq_true] at q
  have q1:((sIx items.size 0 lo:Nat):Int)=0:=eq_of_beq q.1.1
  have q2:sIx items.size items.size hi - sIx items.size 0 lo=items.size:=eq_of_beq q.2
  exact hw ⟨by lia,by lia⟩
 show wpAny _ _ (if (((sIx items.size 0 lo:Nat):Int)==0&&(1:Int)==1&&(sIx items.size items.size hi - sIx items.size 0 lo)==items.size)=true then _ else _) _ _ s
 rw[if_neg hno,pick_gen]
 first
  | exact wpAny_bind (m:=Builtin.Tuple.tupleExact _) (wpAny_newObj_type (wpAny_pure ⟨_,rfl,wpAny_pure h⟩) htake)
  | exact wpAny_bind (m:=Builtin.Tuple.tupleExact _) (wpAny_newObj_type (wpAny_bind (wpAny_pure (wpAny_pure ⟨_,rfl,wpAny_pure h⟩))) htake)
  | exact wpAny_bind (wpAny_bind (m:=Builtin.Tuple.tupleExact _) (wpAny_newObj_type (wpAny_pure (wpAny_pure ⟨_,rfl,wpAny_pure h⟩)) htake))
  | exact wpAny_bind (wpAny_bind (m:=Builtin.Tuple.tupleExact _) (wpAny_newObj_type (wpAny_pure ⟨_,rfl,wpAny_pure h⟩) htake))
end
end HT
namespace L2
open PySem PySem.Spec PyProof.Rows
noncomputable abbrev TO:=St→Hp→(Option Int→Hp→Prop)→Prop
noncomputable def PO (X:Cx) (e:Option Expr) (t:TO):Prop :=
 ∀(pins:List (Addr×Obj)) (s:Shared) (σ:St) (H:Hp) (Q:Option Int→Hp→Prop),Inv X pins σ H s→t σ H Q →
  wpAny (model X.prog X.w) X.A (evalPart e X.env) (λu s'=>∃o H',Inv X pins σ H' s'∧IsPart u o∧Q o H') X.xe s
noncomputable def tNoPart:TO:=λ_ H Q=>Q none H
section
variable {X:Cx} {e:Expr} {te:TE} {lo hi:Option Expr} {tl th:TO} {pos p2:Pos}
theorem po_none:PO X none tNoPart:=by
 intro pins s σ H Q I h
 rw[evalPart_none]
 exact wpAny_pure ⟨none,H,I,.none,h⟩
noncomputable def SlR (X:Cx) (r:V→Option Int→Option Int→Hp→VK→Prop):Prop :=
 ∀(pins:List (Addr×Obj)) (s:Shared) (σ:St) (H:Hp) (x:V) (v vl vu:Value) (lo hi:Option Int) (sl:Addr) (Q:VK),Inv X pins σ H s→RelV x v→s.heap.IsSliceOf sl vl vu .none→IsPart vl lo→IsPart vu hi→r x lo hi H Q →
  ∃T id,typeLookup (.type T) "__getitem__" = pure (some (.builtin id))∧s.TypeIs v T∧wpAny (model X.prog X.w) X.A (getItem v (.ref sl)) (EP X pins σ Q) X.xe s
noncomputable def tSl (r:V→Option Int→Option Int→Hp→VK→Prop) (te:TE) (tl th:TO):TE:=λσ H Q=>te σ H λx H1=>tl σ H1 λl H2=>th σ H2 λu H3=>r x l u H3 Q
theorem pe_slice {r:V→Option Int→Option Int→Hp→VK→Prop} (hr:SlR X r) (he:PE X e te) (hl:PO X lo tl) (hu:PO X hi th):PE X (.Subscript e (.Slice lo hi none p2) pos) (tSl r te tl th):=by
 intro pins s σ H Q I h
 refine Subscript_ (thn (he pins s σ H _ I h) λv s1 hz__=>?_)
 obtain⟨x,H1,I1,r1,q1⟩:=hz__
 refine wpAny_Slice (thn (hl pins s1 σ H1 _ I1 q1) λvl s2 ⟨l,H2,I2,pl,q2⟩=>thn (hu pins s2 σ H2 _ I2 q2) λvu s3 hz__=>?_)
 obtain⟨u,H3,I3,pu,q3⟩:=hz__
 rw[evalPart_none]
 refine wpAny_pure ?_
 have I4:Inv X pins σ H3 { s3 with heap:=s3.heap.push { cls:=.type "slice", data:=.fields #[vl,vu,.none] } }:=I3.kept (t':=s3.toks) λb ob q=>Heap.get?_push_of_some _ q
 obtain⟨T,id,hT,ht,hg⟩:=hr pins { s3 with heap:=s3.heap.push { cls:=.type "slice", data:=.fields #[vl,vu,.none] } } σ H3 x v vl vu l u s3.heap.objs.size Q I4 r1 (Heap.IsSliceOf.new ..) pl pu q3
 show wpAny (model X.prog X.w) X.A (subscriptTail e (.Slice lo hi none p2) v (.ref s3.heap.objs.size)) (EP X pins σ Q) X.xe { s3 with heap:=s3.heap.push { cls:=.type "slice", data:=.fields #[vl,vu,.none] } }
 exact tail_any (ops:=[.ref s3.heap.objs.size,v]) ht hT hg (by with_unfolding_all rfl)
noncomputable def cutV (xs:List V) (lo hi:Option Int):List V:=(xs.drop (HT.sIx xs.length 0 lo)).take (HT.sIx xs.length xs.length hi - HT.sIx xs.length 0 lo)
theorem cutV_length (xs:List V) (lo hi:Option Int):(cutV xs lo hi).length≤xs.length:=by
 unfold cutV
 rw[List.length_take,List.length_drop]
 lia
noncomputable def rSlT (K:PySem.W.Frag):V→Option Int→Option Int→Hp→VK→Prop:=λx lo hi H Q=>∃a xs,x=.ref a∧SqT K H a xs ∧
 ¬(HT.sIx xs.length 0 lo=0∧HT.sIx xs.length xs.length hi=xs.length)∧∀p,H p=none→Q (.ref p) (upd H p (.tup (cutV xs lo hi)))
theorem sl_tup:SlR X (rSlT X.K):=by
 intro pins s σ H x v vl vu lo hi sl Q I rx hs pl pu h
 obtain⟨a,xs,rfl,hx,hw,q⟩:=h
 cases rx
 obtain⟨its,r,ht,hz⟩:=I.tuple hx
 have hlen:its.toArray.size=xs.length:=by rw[List.size_toArray];exact r.length.symm
 refine⟨"tuple", _,PyProof.Rows.slot_tuple_getitem.lookup,ht.typeIs,?_⟩
 refine HT.getItem_tuple_cut ht hs pl pu (by rw[hlen];exact hw) ?_ (by rw[hlen];exact hz)
 rw[hlen]
 refine⟨.ref s.heap.objs.size,_,I.laid (t':=s.toks) (o:=.tup (cutV xs lo hi)) (λb ob q=>Heap.get?_push_of_some _ q) (Nat.le_refl _) ?_,rfl,q _ (I.hok.fresh (Nat.le_refl _))⟩
 exact⟨Nat.le_trans (cutV_length xs lo hi) hz,_,(r.drop (HT.sIx xs.length 0 lo)).take (HT.sIx xs.length xs.length hi - HT.sIx xs.length 0 lo),IsTup.new _ _⟩
noncomputable def rCatT (K:PySem.W.Frag):R2:=λx y H Q=>∃a b xs ys,x=.ref a∧y=.ref b∧SqT K H a xs∧SqT K H b ys∧xs≠[]∧xs.length+ys.length≤sizeLine ∧
 (ys=[]→Q (.ref a) H)∧(ys≠[]→∀p,H p=none→Q (.ref p) (upd H p (.tup (xs++ys))))
theorem Vals.nil_iff {xs:List V} {us:List Value} (r:Vals xs us):us=[]↔xs=[]:=by
 cases r with
 | nil=>simp
 | cons _ _=>simp
theorem op_catT:OpR X (binaryOp .Add) (rCatT X.K):=by
 intro pins s σ H x y v u Q I rx ry h
 obtain⟨a,b,xs,ys,rfl,rfl,ha,hb,hx,hz,q1,q2⟩:=h
 cases rx
 cases ry
 obtain⟨its,r1,p1,_⟩:=I.tuple ha
 obtain⟨its2,r2,p2,_⟩:=I.tuple hb
 refine HT.cat_tup p1 p2 (λz=>hx (r1.nil_iff.mp z)) (λz=>⟨.ref a,H,I,rfl,q1 (r2.nil_iff.mp z)⟩) (λz=>?_) (by rw[←r1.length,←r2.length];exact hz)
 refine⟨.ref s.heap.objs.size,_,I.laid (t':=s.toks) (o:=.tup (xs++ys)) (λb ob q=>Heap.get?_push_of_some _ q) (Nat.le_refl _) ?_,rfl,q2 (λw=>z (r2.nil_iff.mpr w)) _ (I.hok.fresh (Nat.le_refl _))⟩
 exact⟨by rw[List.length_append];exact hz,_,r1.append r2,IsTup.new _ _⟩
end
noncomputable def ixN (n:Nat) (i:Int):Option Nat:=if 0≤i then (if i < n then some i.toNat else none) else if -(n:Int)≤i then some (i+n).toNat else none
noncomputable def atI {α:Type} (xs:List α) (i:Int):Option α:=(ixN xs.length i).bind λj=>xs[j]?
theorem ixN_seq {n:Nat} {i:Int} {j:Nat} (h:ixN n i=some j):seqIndex? i n=some j∧j < n ∧ -(n:Int)≤i∧i < n:=by
 unfold ixN at h
 by_cases h0:0≤i
 ·rw[if_pos h0] at h
  by_cases h1:i < n
  ·rw[if_pos h1] at h
   have e:i.toNat=j:=Option.some.inj h
   exact⟨by rw[seqIndex_of h0 h1,e],by lia,by lia,h1⟩
  ·rw[if_neg h1] at h;cases h
 ·rw[if_neg h0] at h
  by_cases h1:-(n:Int)≤i
  ·rw[if_pos h1] at h
   have e:(i+n).toNat=j:=Option.some.inj h
   exact⟨by rw[seqIndex_neg (by lia) h1,e],by lia,h1,by lia⟩
  ·rw[if_neg h1] at h;cases h
theorem atI_get {α:Type} {xs:List α} {i:Int} {v:α} (h:atI xs i=some v):∃j,seqIndex? i xs.length=some j∧xs[j]?=some v∧j < xs.length ∧ -(xs.length:Int)≤i∧i < xs.length:=by
 unfold atI at h
 cases e:ixN xs.length i with
 | none=>rw[e] at h;cases h
 | some j =>
  rw[e] at h
  obtain⟨h1,h2,h3,h4⟩:=ixN_seq e
  exact⟨j,h1,h,h2,h3,h4⟩
noncomputable def PlainIx (b:Expr):Prop:=∀o i,subscripted b false o i=operate [o,i] (getItem o i)
noncomputable def IxR (X:Cx) (r:R2):Prop :=
 ∀(value slice:Expr) (pins:List (Addr×Obj)) (s:Shared) (σ:St) (H:Hp) (x y:V) (v u:Value) (Q:VK),Inv X pins σ H s→RelV x v→RelV y u→r x y H Q →
  subscripted slice false v u=operate [v,u] (getItem v u)→wpAny (model X.prog X.w) X.A (subscriptTail value slice v u) (EP X pins σ Q) X.xe s
noncomputable def MtR (X:Cx) (id:String) (r:V→List V→Hp→VK→Prop):Prop :=
 ∀(pins:List (Addr×Obj)) (s:Shared) (σ:St) (H:Hp) (x:V) (xs:List V) (v:Value) (us:List Value) (Q:VK),Inv X pins σ H s→RelV x v→Vals xs us→r x xs H Q →
  wpAny (model X.prog X.w) X.A (call (.builtin id) (v::us)) (EP X pins σ Q) X.xe s
section
variable {X:Cx} {a b:Expr} {ta tb:TE} {pos:Pos}
theorem pe_ix {r:R2} (hr:IxR X r) (ha:PE X a ta) (hb:PE X b tb) (hs:PlainIx b):PE X (.Subscript a b pos) (tOp r ta tb):=by
 intro pins s σ H Q I h
 exact Subscript_ (binT ha hb I h λv u s2 x y H2 I2 rx ry q=>hr a b pins s2 σ H2 x y v u Q I2 rx ry q (hs _ _))
noncomputable def rIxL (K:PySem.W.Frag):R2:=λx y H Q=>∃p xs i v,x=.ref p∧y=.int i∧SqL K H p xs∧atI xs i=some v∧Q v H
noncomputable def rIxT (K:PySem.W.Frag):R2:=λx y H Q=>∃p xs i v,x=.ref p∧y=.int i∧SqT K H p xs∧atI xs i=some v∧Q v H
noncomputable def rIxS:R2:=λx y H Q=>∃z i c,x=.str z∧y=.int i∧z.length≤sizeLine∧atI z.cps.toList i=some c∧Q (.str ⟨#[c]⟩) H
theorem ix_list:IxR X (rIxL X.K):=by
 intro value slice pins s σ H x y v u Q I rx ry h hs
 obtain⟨p,xs,i,z,rfl,rfl,hq,he,q⟩:=h
 cases rx
 obtain⟨t,rfl⟩:=ry
 obtain⟨its,r,pl,hz⟩:=I.list hq
 obtain⟨j,h1,h2,h3,h4,h5⟩:=atI_get he
 obtain⟨w,ew,rw'⟩:=r.get h2
 have hl:=r.length
 have hn:=line63
 have fin:EP X pins σ Q w s:=⟨z,H,I,rw',q⟩
 by_cases h0:0≤i
 ·have hj:i.toNat=j:=by
   rw[seqIndex_of h0 h5] at h1
   exact Option.some.inj h1
  exact item_listR pl.isList h0 (by lia) (by rw[hj];simpa using ew) fin hs
 ·have hj:(i+(its.toArray.size:Int)).toNat=j:=by
   rw[seqIndex_neg (by lia) h4] at h1
   rw[List.size_toArray,←hl]
   exact Option.some.inj h1
  exact subscriptTail_builtinR (x:=w) pl.isList.typeIs slot_list_getitem.lookup
   (wpAny_getItem_list_neg (Q:=λr s'=>r=w∧EP X pins σ Q r s') pl.isList (by lia) (by rw[List.size_toArray]<;>lia) (by lia) (by rw[hj];simpa using ew) ⟨rfl,fin⟩) hs
theorem ix_tup:IxR X (rIxT X.K):=by
 intro value slice pins s σ H x y v u Q I rx ry h hs
 obtain⟨p,xs,i,z,rfl,rfl,hq,he,q⟩:=h
 cases rx
 obtain⟨t,rfl⟩:=ry
 obtain⟨its,r,pl,hz⟩:=I.tuple hq
 obtain⟨j,h1,h2,h3,h4,h5⟩:=atI_get he
 obtain⟨w,ew,rw'⟩:=r.get h2
 have hl:=r.length
 have hn:=line63
 have fin:EP X pins σ Q w s:=⟨z,H,I,rw',q⟩
 exact subscriptTail_builtinR (x:=w) pl.typeIs slot_tuple_getitem.lookup
  (getItem_tuple (j:=j) (Q:=λr s'=>r=w∧EP X pins σ Q r s') pl (by lia) (by lia) (by rw[List.size_toArray,←hl];exact h1) (by simpa using ew) ⟨rfl,fin⟩) hs
theorem ix_str:IxR X rIxS:=by
 intro value slice pins s σ H x y v u Q I rx ry h hs
 obtain⟨z,i,c,rfl,rfl,hz,he,q⟩:=h
 obtain⟨t,rfl⟩:=rx
 obtain⟨t',rfl⟩:=ry
 obtain⟨j,h1,h2,h3,h4,h5⟩:=atI_get he
 have hl:z.cps.toList.length=z.length:=by simp[Str.length]
 rw[hl] at h1 h4 h5
 have hn:=line63
 exact tail_any (typeIs_str s z t) slot_str_getitem.lookup (getItem_str (c:=c) (by
  have e1:decide (i < -(2^63:Int))=false:=decide_eq_false (by lia)
  have e2:decide (i≥2^63)=false:=decide_eq_false (by lia)
  rw[e1,e2,Bool.or_false]) (by rw[h1];simpa using h2) ⟨.str ⟨#[c]⟩,H,I.tok _,⟨_,rfl⟩,q⟩) hs
theorem slice_bounds (lo hi:Option Int) (n:Nat):(sliceBounds lo hi none n).1=((HT.sIx n 0 lo:Nat):Int)∧(sliceBounds lo hi none n).2.1=((HT.sIx n n hi:Nat):Int)∧(sliceBounds lo hi none n).2.2=1:=by
 refine⟨?_,?_,rfl⟩
 ·cases lo with
  | none=>simp[sliceBounds,HT.sIx]
  | some i =>
   simp only[sliceBounds,HT.sIx,Option.getD_none,show (1:Int) > 0 by decide,if_true]
   by_cases h:i < 0
   ·simp only[h,if_true]<;>lia
   ·simp only[h,if_false]<;>lia
 ·cases hi with
  | none=>simp[sliceBounds,HT.sIx]
  | some i =>
   simp only[sliceBounds,HT.sIx,Option.getD_none,show (1:Int) > 0 by decide,if_true]
   by_cases h:i < 0
   ·simp only[h,if_true]<;>lia
   ·simp only[h,if_false]<;>lia
theorem slicePick_cut (its:List Value) (lo hi:Option Int):slicePick its.toArray lo hi none=((its.drop (HT.sIx its.length 0 lo)).take (HT.sIx its.length its.length hi - HT.sIx its.length 0 lo)).toArray:=by
 obtain⟨h1,h2,h3⟩:=slice_bounds lo hi its.toArray.size
 unfold slicePick
 rw[h1,h2,h3]
 simp only[sliceRange_one,pick_run,List.size_toArray]<;>rfl
noncomputable def rSlL (K:PySem.W.Frag):V→Option Int→Option Int→Hp→VK→Prop:=λx lo hi H Q=>∃a xs,x=.ref a∧SqL K H a xs∧∀p,H p=none→Q (.ref p) (upd H p (.lst (cutV xs lo hi)))
theorem sl_list:SlR X (rSlL X.K):=by
 intro pins s σ H x v vl vu lo hi sl Q I rx hs pl pu h
 obtain⟨a,xs,rfl,hx,q⟩:=h
 cases rx
 obtain⟨its,r,ht,hz⟩:=I.list hx
 have hlen:=r.length
 refine⟨"list", _,slot_list_getitem.lookup,ht.isList.typeIs,?_⟩
 refine wpAny_getItem_list_slice ht.isList hs pl pu .none (by simp) ?_ (by rw[List.size_toArray]<;>lia)
 rw[slicePick_cut,←hlen]
 refine⟨.ref s.heap.objs.size,_,I.laid (t':=s.toks) (o:=.lst (cutV xs lo hi)) (λb ob q=>Heap.get?_push_of_some _ q) (Nat.le_refl _) ?_,rfl,q _ (I.hok.fresh (Nat.le_refl _))⟩
 exact⟨Nat.le_trans (cutV_length xs lo hi) hz,_,0,(r.drop (HT.sIx xs.length 0 lo)).take (HT.sIx xs.length xs.length hi - HT.sIx xs.length 0 lo),Heap.get?_push_size _ rfl⟩
theorem call_len_seq:CallR X (.builtin "len") (λxs H Q=>∃p ys,xs=[.ref p]∧(SqL X.K H p ys∨SqT X.K H p ys)∧Q (.int ys.length) H):=by
 intro pins s σ H xs us Q I r h
 obtain⟨p,ys,rfl,hq,q⟩:=h
 obtain⟨u,rfl,rx⟩:=vals1 r
 cases rx
 have hn:=line63
 rcases hq with hq | hq
 ·obtain⟨its,r',pl,hz⟩:=I.list hq
  have hlen:=r'.length
  exact Calls.call_len_list pl.isList (by simp only[List.size_toArray]<;>lia) ⟨.int ys.length,H,I.tok _,⟨s.toks+1,by rw[List.size_toArray,hlen]⟩,q⟩
 ·obtain⟨its,r',pl,hz⟩:=I.tuple hq
  have hlen:=r'.length
  exact len_tuple pl (by simp only[List.size_toArray]<;>lia) ⟨.int ys.length,H,I.tok _,⟨s.toks+1,by rw[List.size_toArray,hlen]⟩,q⟩
theorem call_len_str:CallR X (.builtin "len") (λxs H Q=>∃z,xs=[.str z]∧z.length≤sizeLine∧Q (.int z.length) H):=by
 intro pins s σ H xs us Q I r h
 obtain⟨z,rfl,hz,q⟩:=h
 obtain⟨u,rfl,t,rfl⟩:=vals1 r
 have hn:=line63
 exact len_str (by lia) ⟨.int z.length,H,I.tok _,⟨_,rfl⟩,q⟩
theorem call_list_of:CallR X (.type "list") (λxs H Q=>∃p ys,xs=[.ref p]∧(SqL X.K H p ys∨SqT X.K H p ys)∧∀l,H l=none→Q (.ref l) (upd H l (.lst ys))):=by
 intro pins s σ H xs us Q I r h
 obtain⟨p,ys,rfl,hq,q⟩:=h
 obtain⟨u,rfl,rx⟩:=vals1 r
 cases rx
 have fin:∀(its:List Value),Vals ys its→ys.length≤sizeLine→∀(h':Heap) (c':Nat),(∀b o',s.heap.get? b=some o'→h'.get? b=some o') →
  h'.get? s.heap.objs.size=some { cls:=.type "list", dict:=none,data:=.seq its.toArray c',slots:=#[] }→EP X pins σ Q (.ref s.heap.objs.size) { s with heap:=h' }:=λits r' hz h' c' kp e =>
  ⟨.ref s.heap.objs.size,_,I.laid (t':=s.toks) kp (Nat.le_refl _) (show ObjOk X.prog X.w _ h' _ (.lst ys) from ⟨hz,its,c',r',e⟩),rfl,q _ (I.hok.fresh (Nat.le_refl _))⟩
 rcases hq with hq | hq
 ·obtain⟨its,r',pl,hz⟩:=I.list hq
  have hlen:=r'.length
  obtain⟨o,ho,hc,n,hd⟩:=pl.isList
  exact call_list_seq p (.inl rfl) ho hc hd (λh' c' kp e=>fin its r' hz h' c' kp e) (by simp only[List.size_toArray]<;>lia)
 ·obtain⟨its,r',pl,hz⟩:=I.tuple hq
  have hlen:=r'.length
  obtain⟨o,ho,hc,n,hd⟩:=pl
  exact call_list_seq p (.inr rfl) ho hc hd (λh' c' kp e=>fin its r' hz h' c' kp e) (by simp only[List.size_toArray]<;>lia)
theorem call_tuple_of:CallR X (.type "tuple") (λxs H Q=>∃p ys,xs=[.ref p]∧((SqL X.K H p ys∧∀l,H l=none→Q (.ref l) (upd H l (.tup ys)))∨(SqT X.K H p ys∧Q (.ref p) H))):=by
 intro pins s σ H xs us Q I r h
 obtain⟨p,ys,rfl,h⟩:=h
 obtain⟨u,rfl,rx⟩:=vals1 r
 cases rx
 rcases h with ⟨hq,q⟩ | ⟨hq,q⟩
 ·obtain⟨its,r',pl,hz⟩:=I.list hq
  have hlen:=r'.length
  refine call_tuple_list pl.isList (λh' kp=>?_) (by simp only[List.size_toArray]<;>lia)
  have I1:Inv X pins σ H { s with heap:=h' }:=I.kept (t':=s.toks) kp
  have I2:Inv X pins σ (upd H h'.objs.size (.tup ys)) { s with heap:=h'.push { cls:=.type "tuple", data:=.seq its.toArray } } :=
   I1.laid (t':=s.toks) (λb o e=>Heap.get?_push_of_some _ e) (Nat.le_refl _) (show ObjOk X.prog X.w _ _ _ (.tup ys) from ⟨hz,its,r',IsTup.new _ _⟩)
  exact⟨.ref h'.objs.size,_,I2,rfl,q _ (I1.hok.fresh (Nat.le_refl _))⟩
 ·obtain⟨its,r',pl,hz⟩:=I.tuple hq
  exact call_tuple_same pl ⟨.ref p,H,I,rfl,q⟩
noncomputable def tyV (K:PySem.W.Frag) (T:String) (x:V) (H:Hp):Prop:=match x with
 | .str _=>T = "str"
 | .int _=>T = "int"
 | .ref p=>(T = "list" ∧ ∃xs,SqL K H p xs)∨(T = "tuple" ∧ ∃o,K.lookup p=some o∧o.cls=.type "tuple" ∧ o.dict=none) ∨
  (T = "dict" ∧ ((∃kvs,H p=some (.dK kvs))∨∃kvs,H p=some (.dT kvs)))∨(T = "set" ∧ ∃S n,H p=some (.set S n))
 | _=>False
theorem tyV_is {pins:List (Addr×Obj)} {σ:St} {H:Hp} {s:Shared} {T:String} {x:V} {v:Value} (I:Inv X pins σ H s) (r:RelV x v) (ty:tyV X.K T x H) :
 s.TypeIs v T∧∀a,v=.ref a→∃ob,s.heap.get? a=some ob∧ob.dict=none:=by
 cases x with
 | str z =>
  obtain⟨t,rfl⟩:=r
  cases (show T = "str" from ty)
  exact⟨typeIs_str s z t,λ_ e=>nomatch e⟩
 | int i =>
  obtain⟨t,rfl⟩:=r
  cases (show T = "int" from ty)
  exact⟨typeIs_int s i t,λ_ e=>nomatch e⟩
 | ref p =>
  cases r
  rcases ty with ⟨rfl,xs,hq⟩ | ⟨rfl,o,hk,hc,hd⟩ | ⟨rfl,hk⟩ | ⟨rfl,S,n,hk⟩
  ·obtain⟨its,_,pl,_⟩:=I.list hq
   refine⟨pl.isList.typeIs,λa e=>?_⟩
   cases e
   obtain⟨o,n,e,c,hd,_⟩:=pl
   exact⟨o,e,hd⟩
  ·refine⟨⟨o,I.kIn p o hk,hc⟩,λa e=>?_⟩
   cases e
   exact⟨o,I.kIn _ o hk,hd⟩
  ·have z:∃o,s.heap.get? p=some o∧o.ExactDict:=by
    rcases hk with ⟨kvs,hk⟩ | ⟨kvs,hk⟩
    ·obtain⟨_,_,_,_,o,_,_,e,ex,_⟩:=I.hok p _ hk
     exact⟨o,e,ex⟩
    ·obtain⟨_,_,_,_,o,_,_,e,ex,_⟩:=I.hok p _ hk
     exact⟨o,e,ex⟩
   obtain⟨o,e,ex⟩:=z
   refine⟨⟨o,e,ex.1⟩,λa e2=>?_⟩
   cases e2
   exact⟨o,e,ex.2.1⟩
  ·obtain⟨o,_,_,_,e,ex,_⟩:=I.hok p _ hk
   refine⟨⟨o,e,ex.1⟩,λa e2=>?_⟩
   cases e2
   exact⟨o,e,ex.2.1⟩
 | _=>exact False.elim ty
noncomputable def tBM (K:PySem.W.Frag) (T:String) (r:V→List V→Hp→VK→Prop) (to:TE) (t:TA):TE:=λσ H Q=>to σ H λx H1=>tyV K T x H1∧t σ H1 λxs H2=>r x xs H2 Q
variable {o e:Expr} {es:List Expr} {to:TE} {t:TA} {name:Str} {apos cpos:Pos} {T id:String} {r:V→List V→Hp→VK→Prop}
theorem pe_bm (pa:PlainAttrs T) (slot:Slot T name id) (hty:typeOf (.builtin id)=pure (.type "method_descriptor")) (hm:MtR X id r) (ho:PE X o to) (ha:PA X (e::es) t)
 (hbase:attributeBase o name X.env (eval o X.env)=eval o X.env:=by rfl)
 (hfew:((backTo cpos (starEach (e::es) X.env)).all (λx=>!x.1)&&(backToKw cpos (keywordEach [] X.env)).all (λx=>x.1.isSome)
  && decide ((e::es).length+([]:List Keyword).length+(if ([]:List Keyword).isEmpty then 0 else 1) < 30))=true:=by rfl)
 (hline:(apos.endLine==cpos.line)=true:=by rfl) (hs:starEach (e::es) X.env=(false,eval e X.env)::starEach es X.env:=by rfl) (hplain:(backTo cpos (starEach es X.env)).any (·.1)=false:=by rfl) :
 PE X (.Call (.Attribute o name apos) (e::es) [] cpos) (tBM X.K T r to t):=by
 intro pins s σ H Q I h
 refine wpAny_Call_method_late hbase hfew hline rfl (thn (ho pins s σ H _ I h) λv s1 hz__=>?_)
 obtain⟨x,H1,I1,r1,ty,q1⟩:=hz__
 obtain⟨h1,h2⟩:=tyV_is I1 r1 ty
 refine⟨T,id,pa,slot,hty,h1,h2,?_⟩
 have hA:=ha cpos pins s1 σ H1 _ I1 q1
 rw[hs] at hA ⊢
 refine Calls.callWith_builtin (by show (false||(backTo cpos (starEach es X.env)).any (·.1))=false;rw[hplain]<;>rfl) (Calls.evalArgs_plain ?_)
 exact thn hA λus s2 ⟨vs,H2,I2,r2,q2⟩=>hm pins s2 σ H2 x vs v us Q I2 r1 r2 q2
end
noncomputable def MtM (X:Cx) (id:String) (r:V→List V→Hp→VK→Prop):Prop :=
 ∀(pins:List (Addr×Obj)) (s:Shared) (σ:St) (H:Hp) (x:V) (xs:List V) (v:Value) (us:List Value) (Q:VK),Inv X pins σ H s→RelV x v→Vals xs us→r x xs H Q →
  wpAny (model X.prog X.w) X.A (call (.builtin id) (v::us)) (EP X pins σ Q) X.xe s
theorem Vals.one {x:V} {us:List Value} (h:Vals [x] us):∃u,us=[u]∧RelV x u:=by
 cases h with
 | cons r q =>
  cases q
  exact⟨_,rfl,r⟩
theorem Vals.two {x y:V} {us:List Value} (h:Vals [x,y] us):∃u v,us=[u,v]∧RelV x u∧RelV y v:=by
 cases h with
 | cons r q =>
  cases q with
  | cons q z =>
   cases z
   exact⟨_,_,rfl,r,q⟩
section
variable {X:Cx} {pins:List (Addr×Obj)} {σ:St} {H:Hp} {s:Shared} {l b:Addr} {xs ys zs:List V}
theorem Inv.lset {its its':List Value} {n:Nat} {f:Array Value→Array Value} {t':Nat} (I:Inv X pins σ H s) (hH:H l=some (.lst xs))
 (e:s.heap.get? l=some { cls:=.type "list", data:=.seq its.toArray n }) (hf:f its.toArray=its'.toArray) (hv:Vals ys its') (hz:ys.length≤sizeLine) :
 Inv X pins σ (upd H l (.lst ys)) { s with heap:=s.heap.update l (Obj.mapSeq f),toks:=t' }:=by
 have q:=PySem.IsL.update e f
 rw[hf] at q
 refine I.write (x:=l) (e:=l) (by rw[hH];exact trivial) (.inl rfl) (λb' u hb hu=>(Heap.get?_update_other s.heap (Obj.mapSeq f) (Ne.symm hb)).trans hu) ⟨_,q⟩ ?_
 exact⟨hz,its',_,hv,q⟩
theorem Inv.lnew {its:List Value} {t':Nat} (I:Inv X pins σ H s) (hv:Vals ys its) (hz:ys.length≤sizeLine) :
 Inv X pins σ (upd H s.heap.objs.size (.lst ys)) { s with heap:=s.heap.push { cls:=.type "list", data:=.seq its.toArray },toks:=t' } :=
 I.laid (λ_ _ q=>Heap.get?_push_of_some _ q) (Nat.le_refl _) ⟨hz,its,0,hv,Heap.get?_push_size _ rfl⟩
theorem Inv.fresh (I:Inv X pins σ H s):H s.heap.objs.size=none:=I.hok.fresh (Nat.le_refl _)
theorem Inv.lstM (I:Inv X pins σ H s) (hH:H l=some (.lst xs)):xs.length≤sizeLine∧∃(its:List Value) (n:Nat),Vals xs its∧xs.length=its.length∧s.heap.get? l=some { cls:=.type "list", data:=.seq its.toArray n }:=by
 obtain⟨z,its,n,r,e⟩:=I.hok l _ hH
 exact⟨z,its,n,r,r.length,e⟩
end
section
variable {X:Cx}
noncomputable def rAppend:V→List V→Hp→VK→Prop:=λx vs H Q=>∃l xs y,x=.ref l∧vs=[y]∧H l=some (.lst xs)∧xs.length < sizeLine∧Q .non (upd H l (.lst (xs++[y])))
theorem mt_append:MtM X "list.append" rAppend:=by
 intro pins s σ H x vs v us Q I rx rv h
 obtain⟨l,xs,y,rfl,rfl,hH,hz,q⟩:=h
 cases rx
 obtain⟨u,rfl,ru⟩:=rv.one
 obtain⟨z,its,n,r,hl,e⟩:=I.lstM hH
 refine call_meets F.slot_list_append ⟨_,e,rfl⟩ F.entry_list_append (F.args_list_append_2 _ _) (PySem.list_append l its.toArray n u (by rw[List.size_toArray];lia)) ⟨e,?_⟩
 refine⟨.non,_,I.lset (its':=its++[u]) hH e (by simp) (r.append (.cons ru .nil)) ?_,rfl,q⟩
 rw[List.length_append,List.length_singleton]
 lia
end
end L2
namespace Att
open PySem PySem.W PySem.Calls PyProof.Rows
theorem ints_of_wellAll {P:Params} {h:Heap}:∀(ns:List Int) (vs:List Value),WellAll P h vs (ns.map WData.int)→IntsAre vs ns:=by
 intro ns
 induction ns with
 | nil =>
  intro vs w
  rw[List.map_nil] at w
  cases w
  exact .nil
 | cons n ns ih =>
  intro vs w
  rw[List.map_cons] at w
  cases w with
  | cons a b =>
   cases a
   exact .cons _ _ (ih _ b)
theorem script_of {l:OpenLaw} {n:Nat} (hn:l.most=some n) {P:Params} {h:Heap} {args:List WData} {vals:List Value}
 (hpre:l.row.toRowW.claim.pre args=true) (hwl:WellAll P h vals args) :
 ∃a vs ns,vals=[Value.ref a]∧args=[WData.list (ns.map WData.int)]∧h.get? a=some { cls:=.type "list", data:=.seq vs.toArray }∧IntsAre vs ns∧ns.length≤n:=by
 have hsh:WShape.hasAll [] args [.list .int]=true:=(pre_splitW hpre).1
 have hc:l.pre.holds [] { args:=args }=true:=(pre_splitW hpre).2
 obtain⟨d,r,rfl,h1,h2⟩:=hasAllW_cons hsh
 obtain rfl:=hasAllW_nil h2
 obtain⟨xs,rfl,h3⟩:=hasW_list h1
 obtain⟨ns,rfl⟩:=items_int h3
 have hlen:ns.length≤n:=by
  unfold OpenLaw.pre at hc
  have h4:(WTm.not (.lt (.lit (.int (n:Int))) (.len (.arg 0)))).holds [] { args:=[.list (ns.map .int)] }=true:=by
   have h4:=(holds_andW hc).1
   rw[hn] at h4
   exact h4
  have h5:=condW_of h4 (w_not (w_lt w_lit (w_len_list (w_arg rfl))))
  rw[List.length_map] at h5
  refine Nat.le_of_not_lt λq=>?_
  have q':(n:Int) < ((ns.length:Nat):Int):=by lia
  first
   | (rw[decide_eq_true q'] at h5;exact absurd h5 (by decide))
   | (simp at h5;lia)
 cases hwl with
 | cons w1 w2 =>
  cases w2
  cases w1 with
  | list ho hall=>exact⟨_,_,ns,rfl,rfl,ho,ints_of_wellAll ns _ hall,hlen⟩
theorem post_true (l:OpenLaw) (args:List WData):l.row.toRowW.claim.post args (.bool true) args=true :=
 postW_of (r:=l.row.toRowW) (X:=(true==true))
  (show WShape.has [] (.bool true) .bool=true by first | rfl | decide | simp[WShape.has,WShape.arms,WShape.armsAll])
  (show (WTm.eq .res (.lit (.bool true))).value [] { args:=args,res:=some (.bool true),after:=args }=some (.bool (true==true)) from w_eq_bool (w_res rfl) w_lit) rfl
theorem attach_call {l:OpenLaw} {n:Nat} {q:Program} {loose:List Str} {XP:(Str→Option Value)→Heap→Prop} {YP:World→Heap→Prop} {d:DefRec}
 (hn:l.most=some n) (hdf:d.params.defaults=[])
 (call:∀(w:World) (s₀ s₁:Shared) (mg mb:Str→Option Value) (fa:Addr) (o:Obj) (pm cd doc:Value) (a:Addr) (vs:List Value) (ns:List Int),
  Ground q loose [] XP w s₀ mg mb s₁.heap→YP w s₁.heap →
  s₁.heap.get? fa=some o→o.data=.func (docDef d.name d.params d.body d.scope pm cd doc)→s₁.heap.CodeRec cd d.name→mg d.name=some (.ref fa) →
  s₁.heap.get? a=some { cls:=.type "list", data:=.seq vs.toArray }→IntsAre vs ns→ns.length≤n→s₁.gens=#[] →
  codeAny (model l.prog w) callerA (.call (.ref fa) ⟨[.ref a],[]⟩) (λr s'=>r=.ok (.ret (.bool true))∧OldK s₁.heap s'.heap∧s'.os=s₁.os∧AllBare s'.gens) s₁) :
 WalkO q loose XP YP l.row.toRowW d [] (λf vs=>PySem.call f vs):=by
 intro w s₀ s₁ mg mb G Y fa o pm cd doc dV kV ho hd hcd hD hmg hg args vals as hpre hlay hrd hwl hlo
 obtain rfl:dV=.none:=Dflts.none hD hdf
 obtain rfl:kV=.none:=Dflts.noKw hD
 obtain⟨a,vs,ns,rfl,rfl,hobj,hints,hlen⟩:=script_of hn hpre hwl
 refine enter_call (codeAny_mono (call w s₀ s₁ mg mb fa o pm cd doc a vs ns G Y ho (fd_plain hd) hcd hmg hobj hints hlen hg) λr s' hq=>?_)
 obtain⟨rfl,h2,h3,h4⟩:=hq
 exact⟨.inl ⟨.bool true,.bool true,[],rfl,λ_=>rfl,.bool true,post_true l _,λ_=>⟨List.Pairwise.nil,λ_ hm=>(nomatch hm)⟩⟩,h2,h3,h4⟩
end Att
namespace L2
open PySem PySem.Spec PyProof.Rows
theorem vals_ints:∀ {vs:List Value} {ns:List Int},IntsAre vs ns→Vals (ns.map V.int) vs
 | _,_,.nil=>.nil
 | _,_,.cons n t h=>.cons ⟨t,rfl⟩ (vals_ints h)
noncomputable def Only (H:Hp):Prop:=∀b,H b=none∨∃o xs,H b=some (.frz o (.lst xs))
theorem law_call {P:Program} {w:World} {K:PySem.W.Frag} {mg mb:Str→Option Value} {CX:CXT} {k:Nat} {fa a:Addr} {fd:FuncData} {x:Str} {sp:Sp} {s₁:Shared} {vs:List Value} {ns:List Int}
 (KX:K.In s₁.heap) (hns:s₁.heap.Ns mainGlobals mg) (hb:s₁.heap.Ns builtinsNs mb) (hbb:∀x:Str,x ≠ "__name__" → mb x=bootBuiltins x) (hlim:s₁.heap.NoLimit) (hg:s₁.gens=#[])
 (ha:s₁.heap.get? a=some { cls:=.type "list", data:=.seq vs.toArray }) (hi:IntsAre vs ns) (hl:ns.length≤sizeLine) (hr:Room k callerA)
 (F:∀base:Heap,K.In base→base.Ns mainGlobals mg→FnOk P w K mg base CX k fa fd [x] sp) (hbind:∀(s:Shared) (u:Value),BindsTo s fd ⟨[u],[]⟩ [(x,u)])
 (hsp:∀H:Hp,Only H→SqL K H a (ns.map V.int)→sp [.ref a] H (λv _=>v=.bl true) λ_ _ _=>False)
 (hCX:∀H e s',CX [] H s₁ (λ_ _ _=>False) e s'→False) :
 codeAny (model P w) callerA (.call (.ref fa) ⟨[.ref a],[]⟩) (λr s'=>r=.ok (.ret (.bool true))∧OldK s₁.heap s'.heap∧s'.os=s₁.os∧AllBare s'.gens) s₁:=by
 have rv:=vals_ints hi
 have lenV:=hi.length
 have core:∀H:Hp,Only H→SqL K H a (ns.map V.int)→HOk P w H s₁.heap→(∀b,H b≠none→b=a)→(H a≠none→K.lookup a=none) →
  codeAny (model P w) callerA (.call (.ref fa) ⟨[.ref a],[]⟩) (λr s'=>r=.ok (.ret (.bool true))∧OldK s₁.heap s'.heap∧s'.os=s₁.os∧AllBare s'.gens) s₁:=by
  intro H hO hS hok hA hK
  have base_of:∀ {b:Addr} {o:Obj},s₁.heap.get? b=some o→H b=none→(hidT s₁.heap H).get? b=some o:=λe n=>hidT_get e n
  have noA:∀ {b:Addr} {o:Obj} {es:Array DictEntry} {ep:Nat},s₁.heap.get? b=some o→o.data=.dict es ep→H b=none:=λ{b o es ep} e d=>by
   cases q:H b with
   | none=>rfl
   | some u =>
    have e':b=a:=hA b (by rw[q];simp)
    subst e'
    rw[ha] at e;cases e
    have d':Data.seq vs.toArray _=Data.dict es ep:=d
    cases d'
  have nsK:∀ {b:Addr} {m:Str→Option Value},s₁.heap.Ns b m→(hidT s₁.heap H).Ns b m:=λ{b m} ⟨o,es,ep,e,d,r⟩=>⟨o,es,ep,base_of e (noA e d),d,r⟩
  have hKb:K.In (hidT s₁.heap H):=λb o e=>base_of (KX b o e) (by
   cases q:H b with
   | none=>rfl
   | some u =>
    have e':b=a:=hA b (by rw[q];simp)
    subst e'
    rw[hK (by rw[q];simp)] at e;cases e)
  have hM:Mod K mg (hidT s₁.heap H):=⟨hKb,nsK hns,⟨mb,nsK hb,hbb⟩,let ⟨mc,h1,h2⟩:=hlim;⟨mc,nsK h1,h2⟩⟩
  have e0:Env0 P w K mg (hidT s₁.heap H) callerA [] s₁ H:=⟨rfl,hM,λb o e=>of_hidT e,Nat.le_of_eq (hidT_size _ _),trivial,λb hb=>absurd (show b∈([]:List Addr) from hb) (by simp),hok,.of_eq hg⟩
  refine codeAny_mono ((F _ hKb (nsK hns)).run callerA [] s₁ H ⟨[.ref a],[]⟩ [.ref a] [.ref a] _ _ hr e0 (hbind s₁ (.ref a)) (.cons rfl .nil) (hsp H hO hS)) λr s' h=>?_
  cases r with
  | error e=>exact (hCX H e s' h).elim
  | ok fl =>
   cases fl with
   | next=>exact False.elim h
   | brk=>exact False.elim h
   | cont=>exact False.elim h
   | ret u =>
    obtain⟨v,H',os,bare,un,hok',r',q⟩:=h
    have q':v=.bl true:=q
    subst q'
    obtain rfl:u=Value.bool true:=r'
    refine⟨rfl,OldK.of_keep λb o e=>?_,os,bare⟩
    cases q:H b with
    | none=>exact un.keep b o e q (by intro z;exact absurd (show b∈([]:List Addr) from z) (by simp)) (by simp)
    | some u =>
     rcases hO b with z | ⟨ob,xs,z⟩
     ·rw[q] at z;cases z
     ·have z2:=un.frzs b ob _ z
      obtain⟨e1,_⟩:=hok b _ z
      obtain⟨e2,_⟩:=hok' b _ z2
      rw[e] at e1;cases e1
      exact e2
 cases hk:K.lookup a with
 | some o =>
  have e:=KX a o hk
  rw[ha] at e
  cases e
  refine core (λ_=>none) (λ_=>.inl rfl) (.inr ⟨_,vs.toArray,_,hk,rfl,rfl,rfl,by rw[List.size_toArray,lenV];exact hl,by simpa using rv⟩) (λb u z=>by have z':(none:Option HO)=some u:=z;cases z') (λb z=>absurd rfl z) λz=>absurd rfl z
 | none =>
  refine core (λb=>if b=a then some (.frz { cls:=.type "list", data:=.seq vs.toArray } (.lst (ns.map V.int))) else none) (λb=>?_) (.inl (.inr ⟨{ cls:=.type "list", data:=.seq vs.toArray },if_pos rfl⟩)) (λb u z=>?_) (λb z=>?_) λ_=>hk
  ·by_cases hb:b=a
   ·exact .inr ⟨_,_,if_pos hb⟩
   ·exact .inl (if_neg hb)
  ·by_cases hb:b=a
   ·have z':=(if_pos hb).symm.trans z
    cases z'
    subst hb
    exact⟨ha,by rw[List.length_map];exact hl,vs,_,rv,ha⟩
   ·have z':=(if_neg hb).symm.trans z
    cases z'
  ·by_cases hb:b=a
   ·exact hb
   ·exact absurd (if_neg hb) z
theorem walk_of {l:PySem.W.OpenLaw} {n k:Nat} {q:Program} {loose:List Str} {XP:(Str→Option Value)→Heap→Prop} {YP:World→Heap→Prop} {d:DefRec} {K:Params→PySem.W.Frag} {CX:World→CXT} {sp:World→Sp} {x:Str}
 (hn:l.most=some n) (hn2:n≤sizeLine) (hdf:d.params.defaults=[]) (hr:Room k callerA)
 (hY:∀(w:World) (h:Heap),YP w h→(K w.params).In h)
 (F:∀(w:World) (mg:Str→Option Value) (fa:Addr) (h:Heap),(K w.params).In h→h.Ns mainGlobals mg→mg d.name=some (.ref fa) →
  ∃fd:FuncData,(∀(s:Shared) (u:Value),BindsTo s fd ⟨[u],[]⟩ [(x,u)]) ∧
   ∀base:Heap,(K w.params).In base→base.Ns mainGlobals mg→FnOk l.prog w (K w.params) mg base (CX w) k fa fd [x] (sp w))
 (hsp:∀(w:World) (H:Hp) (a:Addr) (ns:List Int),ns.length≤n→Only H→SqL (K w.params) H a (ns.map V.int)→sp w [.ref a] H (λv _=>v=.bl true) λ_ _ _=>False)
 (hCX:∀(w:World) (H:Hp) (s:Shared) (e:Value) (s':Shared),CX w [] H s (λ_ _ _=>False) e s'→False) :
 PySem.W.WalkO q loose XP YP l.row.toRowW d [] (λf vs=>PySem.call f vs):=by
 refine Att.attach_call hn hdf λw s₀ s₁ mg mb fa o pm cd doc a vs ns G Y ho hd hcd hmg hobj hints hlen hg=>?_
 have KX:=hY w _ Y
 obtain⟨fd,hb,hF⟩:=F w mg fa _ KX G.T.g hmg
 exact law_call KX G.T.g G.T.b G.T.builtins G.T.nolimit hg hobj hints (Nat.le_trans hlen hn2) hr hF hb (λH hO hS=>hsp w H a ns hlen hO hS) λH e s'=>hCX w H s₁ e s'
noncomputable def defArgs (s:Stmt):Arguments:=match s with
 | .FunctionDef _ a _ _ _ _ _ _ _ _=>a
 | _=>{ posonlyargs:=[],args:=[],vararg:=none,kwonlyargs:=[],kw_defaults:=[],kwarg:=none,defaults:=[] }
noncomputable def defBody (s:Stmt):List Stmt:=match s with
 | .FunctionDef _ _ b _ _ _ _ _ _ _=>b
 | _=>[]
noncomputable def defScope (s:Stmt):Scope:=match s with
 | .FunctionDef _ _ _ _ _ _ sc _ _ _=>sc
 | _=>{ kind:=.function,names:=[],isGenerator:=false,isCoroutine:=false }
noncomputable abbrev E0:XK:=λ_ _ _=>False
set_option genInjectivity false in
structure Fun (K:PySem.W.Frag) (x qual:Str) (st:Stmt) (f:Addr) (fd:FuncData):Prop where
 ex:∃(oc:Value) (od:Option Addr) (kV doc pm:Value) (an:Option Addr) (cdv ct:Value) (osl:Array (Option Value)),
  fd=PySem.W.fnOf x qual (defArgs st) (defBody st) (defScope st) .none kV doc pm an cdv ct∧K.lookup f=some ⟨oc,od,.func fd,osl⟩∧PySem.W.codeIn K cdv qual=true
 kp:PySem.W.keepIn K (.ref f)=true
section
variable {P:Program} {w:World} {K:PySem.W.Frag} {mg:Str→Option Value} {base:Heap}
theorem Fun.binds {x qual:Str} {st:Stmt} {f:Addr} {fd:FuncData} {ps:List Str} (F:Fun K x qual st f fd)
 (h:∀(kV doc pm:Value) (an:Option Addr) (cdv ct:Value) (us:List Value),us.length=ps.length→bindArgs (PySem.W.fnOf x qual (defArgs st) (defBody st) (defScope st) .none kV doc pm an cdv ct) ⟨us,[]⟩=pure (ps.zip us)):Binds K fd ps []:=by
 obtain⟨oc,od,kV,doc,pm,an,cdv,ct,osl,rfl,lk,hcd⟩:=F.ex
 exact .all (h kV doc pm an cdv ct)
theorem fun_mk {x qual:Str} {st:Stmt} {f:Addr} {oc:Value} {od an:Option Addr} {osl:Array (Option Value)} {kV doc pm cdv ct:Value} (l:K.lookup f=some ⟨oc,od,.func (PySem.W.fnOf x qual (defArgs st) (defBody st) (defScope st) .none kV doc pm an cdv ct),osl⟩)
 (c:PySem.W.codeIn K cdv qual=true) (k:PySem.W.keepIn K (.ref f)=true):Fun K x qual st f (PySem.W.fnOf x qual (defArgs st) (defBody st) (defScope st) .none kV doc pm an cdv ct):=⟨⟨oc,od,kV,doc,pm,an,cdv,ct,osl,rfl,l,c⟩,k⟩
end
theorem small1000 {n:Nat} (h:n≤1000):n < sizeLine:=Nat.lt_of_le_of_lt h (by decide)
noncomputable def Same (H H':Hp):Prop:=∀b o,H b=some o→H' b=some o
theorem Same.refl (H:Hp):Same H H:=λ_ _ h=>h
theorem Same.trans {H H1 H2:Hp} (a:Same H H1) (b:Same H1 H2):Same H H2:=λc o h=>b c o (a c o h)
theorem Same.free {H H':Hp} (e:Same H H') {l:Addr} (h:H' l=Option.none):H l=Option.none:=by
 cases q:H l with
 | none=>rfl
 | some o =>
  rw[e l o q] at h
  cases h
end L2
set_option maxRecDepth 100000
namespace L2
open PySem PySem.Spec PyProof.Rows
section
variable {κ:Type} [DecidableEq κ]
end
section
variable {P:Program} {w:World} {H:Hp} {h:Heap} {a:Addr}
end
section
variable {X:Cx} {pins:List (Addr×Obj)} {σ:St} {H:Hp} {s:Shared} {a:Addr} {y v:V} {u r:Value} {o:Option V} {A:Around} {E:Value→Shared→Prop}
end
section
variable {X:Cx} {pins:List (Addr×Obj)} {σ:St} {H:Hp} {s:Shared} {a:Addr} {kvs:List (Key×V)} {k:Key} {u:Value} {A:Around} {E:Value→Shared→Prop}
end
section
variable {X:Cx} {o i e value:Expr} {pos pos' tpos:Pos} {td ty tv:TE}
end
section
variable {X:Cx} {pos:Pos}
end
structure M2 (X:Cx) (o:Expr) (m:Str) (apos:Pos) (e f:Expr) (cpos:Pos):Prop where
 base:attributeBase o m X.env (eval o X.env)=eval o X.env
 few:((backTo cpos (starEach [e,f] X.env)).all (λx=>!x.1)&&(backToKw cpos (keywordEach [] X.env)).all (λx=>x.1.isSome)
  && decide (([e,f]:List Expr).length+([]:List Keyword).length+(if ([]:List Keyword).isEmpty then 0 else 1) < 30))=true
 line:(apos.endLine==cpos.line)=true
 trees:backTo cpos (starEach [e,f] X.env)=[(false,eval e X.env),(false,eval f X.env)]
section
variable {X:Cx} {pins:List (Addr×Obj)} {σ:St} {H:Hp} {s:Shared} {a:Addr} {y d:V} {u r:Value} {o:Option V} {A:Around} {E:Value→Shared→Prop}
end
section
variable {X:Cx} {o e f:Expr} {apos cpos:Pos} {td ty tx:TE}
end
end L2
namespace Tr
open PySem
set_option genSizeOf true in
set_option genSizeOfSpec true in
inductive D where
 | non | bl (b:Bool) | int (i:Int) | str (x:Str) | tup (ds:List D) | lst (ds:List D)
 deriving Inhabited
inductive Res (α:Type) where
 | ok (a:α) | err (c:Str) (d:D) | no
 deriving Inhabited
namespace Res
@[reducible] noncomputable def bind {α β:Type} (x:Res α) (f:α→Res β):Res β:=match x with | .ok a=>f a | .err c d=>.err c d | .no=>.no
noncomputable instance:Monad Res where
 pure:=.ok
 bind:=bind
@[simp] theorem ok_bind {α β:Type} (a:α) (f:α→Res β):(Res.ok a>>=f)=f a:=id rfl
@[simp] theorem err_bind {α β:Type} (c:Str) (d:D) (f:α→Res β):((Res.err c d:Res α)>>=f)=.err c d:=id rfl
@[simp] theorem no_bind {α β:Type} (f:α→Res β):((Res.no:Res α)>>=f)=.no:=id rfl
theorem bind_ok {α β:Type} {x:Res α} {f:α→Res β} {b:β} (h:(x>>=f)=.ok b):∃a,x=.ok a∧f a=.ok b:=by
 cases x with
 | ok a=>exact⟨a,rfl,h⟩
 | err c d=>cases h
 | no=>cases h
end Res
noncomputable def when {α:Type} (c:Bool) (r:Res α):Res α:=if c then r else .no
theorem when_ok {α:Type} {c:Bool} {r:Res α} {a:α} (h:when c r=.ok a):c=true∧r=.ok a:=by
 unfold when at h
 split at h
 ·exact⟨by assumption,h⟩
 ·cases h
@[simp] theorem when_true {α:Type} (r:Res α):when true r=r:=id rfl
theorem when_of {α:Type} {c:Bool} (h:c=true) (r:Res α):when c r=r:=by subst h;rfl
noncomputable def b2z (b:Bool):Int:=if b then 1 else 0
mutual
noncomputable def D.eqb:D→D→Bool
 | .non,.non=>true
 | .bl a,.bl b=>a==b
 | .bl a,.int j=>b2z a==j
 | .int i,.bl b=>i==b2z b
 | .int i,.int j=>i==j
 | .str x,.str y=>x==y
 | .tup a,.tup b=>D.eqs a b
 | .lst a,.lst b=>D.eqs a b
 | _,_=>false
noncomputable def D.eqs:List D→List D→Bool
 | [],[]=>true
 | a::r,b::q=>D.eqb a b&&D.eqs r q
 | _,_=>false
end
mutual
noncomputable def D.pl:Nat→D→Bool
 | n,.tup a=>D.pls n a
 | n,.lst a=>D.pls n a
 | _,_=>true
noncomputable def D.pls:Nat→List D→Bool
 | _,[]=>true
 | 0,_::_=>false
 | n+1,a::r=>D.pl n a&&D.pls (n+1) r
end
mutual
noncomputable def D.flat:D→Bool
 | .lst _=>false
 | .tup a=>D.flats a
 | _=>true
noncomputable def D.flats:List D→Bool
 | []=>true
 | a::r=>D.flat a&&D.flats r
end
mutual
theorem D.eqb_refl:∀(n:Nat) (d:D),D.pl n d=true→D.eqb d d=true
 | _,.non,_=>rfl
 | _,.bl a,_=>by simp[D.eqb]
 | _,.int i,_=>by simp[D.eqb]
 | _,.str x,_=>by simp[D.eqb]
 | n,.tup a,h=>by rw[D.eqb];exact D.eqs_refl n a (by rw[D.pl] at h;exact h)
 | n,.lst a,h=>by rw[D.eqb];exact D.eqs_refl n a (by rw[D.pl] at h;exact h)
theorem D.eqs_refl:∀(n:Nat) (a:List D),D.pls n a=true→D.eqs a a=true
 | _,[],_=>by rw[D.eqs]
 | 0,a::r,h=>by rw[D.pls] at h;cases h
 | n+1,a::r,h=>by
  rw[D.pls,Bool.and_eq_true] at h
  rw[D.eqs,D.eqb_refl n a h.1,D.eqs_refl (n+1) r h.2];rfl
end
noncomputable def big:Nat:=16777216
noncomputable def sIx (n d:Nat):Option Int→Nat
 | none=>d
 | some v=>if v < 0 then (v+(n:Int)).toNat else min v.toNat n
noncomputable def cut {α:Type} (xs:List α) (lo hi:Option Int):List α:=(xs.drop (sIx xs.length 0 lo)).take (sIx xs.length xs.length hi - sIx xs.length 0 lo)
noncomputable def ixN (n:Nat) (i:Int):Option Nat:=if 0≤i then (if i < n then some i.toNat else none) else if -(n:Int)≤i then some (i+n).toNat else none
noncomputable def atI {α:Type} (xs:List α) (i:Int):Option α:=(ixN xs.length i).bind λj=>xs[j]?
noncomputable def small64 (i:Int):Bool:=decide (-(2^64) < i)&&decide (i < 2^64)
noncomputable def D.bin:Operator→D→D→Res D
 | .Add,.int i,.int j=>.ok (.int (i+j))
 | .Add,.str x,.str y=>when (decide (x.length+y.length≤big)) (.ok (.str (x++y)))
 | .Add,.lst a,.lst b=>when (decide (a.length+b.length≤big)) (.ok (.lst (a++b)))
 | .Add,.tup a,.tup b=>when (decide (a.length+b.length≤big)) (.ok (.tup (a++b)))
 | .Sub,.int i,.int j=>.ok (.int (i - j))
 | .Mult,.int i,.int j=>when (small64 i||small64 j) (.ok (.int (i*j)))
 | .FloorDiv,.int i,.int j=>when (decide (0 < j)&&decide (j < 1073741824)) (.ok (.int (i / j)))
 | .Mod,.int i,.int j=>when (decide (0 < j)) (.ok (.int (i % j)))
 | .Pow,.int i,.int j=>when (decide (0≤j)&&decide (j≤1000000)&&decide (i.natAbs < 2^64)) (.ok (.int (i^j.toNat)))
 | _,_,_=>.no
noncomputable def chr1 (c:Nat):Str:=⟨#[c]⟩
noncomputable def strCut (x:Str) (lo hi:Option Int):Str:=⟨(cut x.cps.toList lo hi).toArray⟩
noncomputable def splitC (c:Nat):List Nat→List (List Nat)
 | []=>[[]]
 | x::r=>if x=c then []::splitC c r else match splitC c r with
  | h::t=>(x::h)::t
  | []=>[[x]]
noncomputable def splitS (x:Str) (c:Nat):List Str:=(splitC c x.cps.toList).map λl=>⟨l.toArray⟩
noncomputable def joinC (g:List Nat):List (List Nat)→List Nat
 | []=>[]
 | [a]=>a
 | a::b::r=>a++g++joinC g (b::r)
noncomputable def joinS (g:Str) (xs:List Str):Str:=⟨(joinC g.cps.toList (xs.map λx=>x.cps.toList)).toArray⟩
noncomputable def digitsN (cs:List Nat):Nat:=cs.foldl (λacc c=>acc*10+(c - 48)) 0
noncomputable def isDigits (cs:List Nat):Bool:=!cs.isEmpty&&cs.all λc=>decide (48≤c)&&decide (c≤57)
noncomputable def strsOf:List D→Res (List Str)
 | []=>.ok []
 | .str x::r=>do let q ←strsOf r;.ok (x::q)
 | _::_=>.no
noncomputable def blsOf:List D→Res (List Bool)
 | []=>.ok []
 | .bl x::r=>do let q ←blsOf r;.ok (x::q)
 | _::_=>.no
noncomputable def oneIn (x y:Str):Res Bool:=match x.cps.toList with
 | [c]=>.ok (decide (c∈y.cps.toList))
 | _=>.no
noncomputable def keyOf:D→Option (Sum Int Str)
 | .int i=>some (.inl i)
 | .str x=>some (.inr x)
 | _=>none
noncomputable def Res.of {α:Type}:Option α→Res α
 | some a=>.ok a
 | none=>.no
noncomputable def D.isNon:D→Bool
 | .non=>true
 | _=>false
noncomputable def D.eqOk (a b:D):Bool:=D.pl 30 a&&D.pl 30 b
noncomputable def D.mem (x:D):List D→Bool
 | []=>false
 | y::r=>D.eqb y x||D.mem x r
noncomputable def D.inn (x:D):D→Res Bool
 | .lst ds=>when (D.pls 30 ds&&D.pl 29 x) (.ok (D.mem x ds))
 | .tup ds=>when (D.pls 30 ds&&D.pl 29 x) (.ok (D.mem x ds))
 | .str y=>match x with
  | .str z=>oneIn z y
  | _=>.no
 | _=>.no
noncomputable def D.cmp:CmpOp→D→D→Res D
 | .Eq,a,b=>when (D.eqOk a b) (.ok (.bl (D.eqb a b)))
 | .NotEq,a,b=>when (D.eqOk a b) (.ok (.bl (!D.eqb a b)))
 | .Lt,.int i,.int j=>.ok (.bl (decide (i < j)))
 | .LtE,.int i,.int j=>.ok (.bl (decide (i≤j)))
 | .Is,a,.non=>.ok (.bl a.isNon)
 | .Is,.bl a,.bl b=>.ok (.bl (a==b))
 | .In,a,b=>do let k ←D.inn a b;.ok (.bl k)
 | .NotIn,a,b=>do let k ←D.inn a b;.ok (.bl (!k))
 | _,_,_=>.no
noncomputable def D.truth:D→Res Bool
 | .non=>.ok false
 | .bl b=>.ok b
 | .int i=>.ok (i != 0)
 | .str x=>when (decide (x.length≤big)) (.ok ((x.length:Int) != 0))
 | .tup a=>.ok (!a.isEmpty)
 | .lst a=>.ok (!a.isEmpty)
noncomputable def D.ix:D→D→Res D
 | .lst a,.int i=>Res.of (atI a i)
 | .tup a,.int i=>Res.of (atI a i)
 | .str x,.int i=>when (decide (x.length≤big)) (Res.of ((atI x.cps.toList i).map λc=>.str ⟨#[c]⟩))
 | _,_=>.no
noncomputable def D.part:D→Res (Option Int)
 | .non=>.ok none
 | .int i=>.ok (some i)
 | _=>.no
noncomputable def D.sl:D→Option Int→Option Int→Res D
 | .lst a,lo,hi=>.ok (.lst (cut a lo hi))
 | .tup a,lo,hi=>.ok (.tup (cut a lo hi))
 | .str x,lo,hi=>when (decide (x.length≤big)) (.ok (.str (strCut x lo hi)))
 | _,_,_=>.no
noncomputable def D.items:D→Res (List D)
 | .lst a=>.ok a
 | .tup a=>.ok a
 | .str x=>.ok (x.cps.toList.map λc=>.str (chr1 c))
 | _=>.no
noncomputable def intsOf:List D→Res (List Int)
 | []=>.ok []
 | .int i::r=>do let q ←intsOf r;.ok (i::q)
 | _::_=>.no
noncomputable def rangeD (lo:Int):Nat→List D
 | 0=>[]
 | n+1=>.int lo::rangeD (lo+1) n
noncomputable def enumD (k:Int):List D→List D
 | []=>[]
 | d::r=>.tup [.int k,d]::enumD (k+1) r
noncomputable def small62 (i:Int):Bool:=decide (-(2^62)≤i)&&decide (i < 2^62)
inductive Ty where
 | int | bool | str | tuple | list
 deriving DecidableEq,Inhabited
noncomputable def D.isDct:D→Bool
 | _=>false
noncomputable def D.isTy:D→Ty→Bool
 | .int _,.int=>true
 | .bl _,.int=>true
 | .bl _,.bool=>true
 | .str _,.str=>true
 | .tup _,.tuple=>true
 | .lst _,.list=>true
 | _,_=>false
inductive Bt where
 | len | tuple | list | int | str | all
 deriving DecidableEq,Inhabited
noncomputable def D.len:D→Res D
 | .lst a=>.ok (.int a.length)
 | .tup a=>.ok (.int a.length)
 | .str x=>when (decide (x.length≤big)) (.ok (.int x.length))
 | _=>.no
noncomputable def D.sum:D→Res D
 | .lst a=>do let ns ←intsOf a;.ok (.int ns.sum)
 | _=>.no
noncomputable def D.tuple:D→Res D
 | .lst a=>.ok (.tup a)
 | .tup a=>.ok (.tup a)
 | _=>.no
noncomputable def D.list:D→Res D
 | .lst a=>.ok (.lst a)
 | .tup a=>.ok (.lst a)
 | _=>.no
noncomputable def D.toInt:D→Res D
 | .int i=>.ok (.int i)
 | .bl b=>.ok (.int (b2z b))
 | .str x=>when (isDigits x.cps.toList&&decide (x.length≤640)) (.ok (.int (digitsN x.cps.toList)))
 | _=>.no
noncomputable def D.toStr:D→Res D
 | .int i=>when (decide (i.natAbs.log2 < 1920)) (.ok (.str (Str.ofString (toString i))))
 | _=>.no
noncomputable def D.abs:D→Res D
 | .int i=>.ok (.int (if i < 0 then -i else i))
 | _=>.no
noncomputable def D.all:D→Res D
 | .lst a=>do let q ←blsOf a;.ok (.bl (q.all id))
 | _=>.no
noncomputable def D.any:D→Res D
 | .lst a=>do let q ←blsOf a;.ok (.bl (q.any id))
 | _=>.no
noncomputable def Bt.one:Bt→D→Res D
 | .len=>D.len
 | .tuple=>D.tuple
 | .list=>D.list
 | .int=>D.toInt
 | .str=>D.toStr
 | .all=>D.all
noncomputable def Bt.two:Bt→D→D→Res D
 | _=>λ_ _=>.no
noncomputable def Bt.run (b:Bt):List D→Res D
 | [d]=>b.one d
 | [d,d']=>b.two d d'
 | _=>.no
inductive Mt where
 | split | join
 deriving DecidableEq,Inhabited
noncomputable def Mt.run:Mt→D→D→Res D
 | .split,.str x,.str y=>match y.cps.toList with
  | [c]=>when (decide (x.length < big)&&decide (c < 256)) (.ok (.lst ((splitS x c).map D.str)))
  | _=>.no
 | .join,.str g,.lst ds=>do
  let xs ←strsOf ds
  when (decide (g.length≤64)&&decide ((xs.map (·.length)).sum+xs.length*64≤big)) (.ok (.str (joinS g xs)))
 | _,_,_=>.no
noncomputable def tabAt (fs:List Nat):D→Res Nat
 | .int i=>Res.of (atI fs i)
 | _=>.no
noncomputable def idxS (ss:List Str):D→Res D
 | .str z=>when (ss.contains z) (.ok (.int (ss.idxOf z:Nat)))
 | _=>.no
noncomputable def keysD:List D→Res (List (Sum Int Str))
 | []=>.ok []
 | d::r=>do let k ←Res.of (keyOf d);let q ←keysD r;.ok (k::q)
noncomputable def D.keys:D→Res (List (Sum Int Str))
 | .lst ds=>keysD ds
 | .str x=>.ok (x.cps.toList.map λc=>.inr ⟨#[c]⟩)
 | _=>.no
noncomputable def metD (ks:List (Sum Int Str)):List (Sum Int Str):=ks.foldl (λacc k=>if acc.any (λx=>decide (x=k)) then acc else acc++[k]) []
noncomputable def D.setN (x:D):Res D:=match x.keys with
 | .ok ks=>when (decide (ks.length+1 < 4096)) (.ok (.int (metD ks).length))
 | _=>.no
set_option genInjectivity false in
inductive G where
 | one (i:Nat) | many (is:List Nat)
 deriving Inhabited
set_option genInjectivity false in
inductive E where
 | var (i:Nat) | rd (i:Nat) | con (d:D) | glob (g:Nat)
 | bin (o:Operator) (a b:E) | cmp (o:CmpOp) (a b:E) | chain (o p:CmpOp) (a b c:E)
 | and (a b:E) | or (a b:E) | not (a:E) | neg (a:E) | ife (c a b:E)
 | ix (a b:E) | sl (a lo hi:E) | omit
 | tup (a:E) | lst (a:E) | anil | acons (a r:E)
 | call (f:Nat) (a:E) | bt (b:Bt) (a:E)
 | comp (own:Nat) (caps:List Nat) (g:G) (elt src cond:E)
 | seq (a:E) | rng (a:E) | enum (a:E)
 | mth (m:Mt) (a b:E)
 | callT (fs:List Nat) (k a:E) | gidx (ss:List Str) (a:E) | lset (a:E)
 deriving Inhabited
set_option genInjectivity false in
inductive S where
 | nil | cons (a r:S)
 | ret (e:E) | retO (i:Nat)
 | asg (g:G) (e:E) | asgO (i:Nat) (e:E) | sealed (i:Nat)
 | ite (c:E) (a b:S) | forS (g:G) (src:E) (b:S)
 | app (i:Nat) (e:E)
 | exp (e:E) | ins (i:Nat) (k e:E)
 | raisI (c:Str) (a:E)
 deriving Inhabited
inductive Sl where
 | no | v (d:D) | o (d:D) | t (ds:List D)
 deriving Inhabited
noncomputable abbrev Nv:=List Sl
noncomputable def Nv.at (e:Nv) (i:Nat):Sl:=(e[i]?).getD .no
noncomputable def Sl.val:Sl→Res D
 | .v d=>.ok d
 | _=>.no
noncomputable def Sl.any:Sl→Res D
 | .v d=>.ok d
 | .o d=>.ok d
 | _=>.no
noncomputable def Sl.own:Sl→Res (List D)
 | .o (.lst a)=>.ok a
 | _=>.no
noncomputable def Sl.ownA:Sl→Res D
 | .o d=>.ok d
 | _=>.no
noncomputable def puts:List Nat→List D→Nv→Res Nv
 | [],[],e=>.ok e
 | i::r,d::q,e=>puts r q (e.set i (.v d))
 | _,_,_=>.no
noncomputable def G.put:G→D→Nv→Res Nv
 | .one i,d,e=>.ok (e.set i (.v d))
 | .many is,.tup ds,e=>puts is ds e
 | _,_,_=>.no
noncomputable def compEnv (own:Nat) (caps:List Nat) (e:Nv):Nv:=List.replicate own Sl.no++caps.map λi=>e.at i
set_option genInjectivity false in
structure Tab where
 glob:Nat→D
 fresh:Nat→Bool
section
variable (T:Tab) (cf:Nat→List D→Res D)
noncomputable def tupL:D→Bool
 | .tup (.lst _::_)=>true
 | _=>false
noncomputable def freshE:E→Bool
 | .lst _=>true
 | .sl _ _ _=>true
 | .bin .Add _ _=>true
 | .comp _ _ _ _ _ _=>true
 | .bt .list _=>true
 | .mth .split _ _=>true
 | .call f _=>T.fresh f
 | _=>false
noncomputable def compL (f:D→Res (Option D)):List D→Res (List D)
 | []=>.ok []
 | d::r=>do
  let x ←f d
  let q ←compL f r
  match x with
  | some y=>.ok (y::q)
  | none=>.ok q
mutual
noncomputable def evE:E→Nv→Res D
 | .var i,e=>(e.at i).val
 | .rd i,e=>(e.at i).any
 | .con d,_=>.ok d
 | .glob g,_=>.ok (T.glob g)
 | .bin o a b,e=>do let x ←evE a e;let y ←evE b e;D.bin o x y
 | .cmp o a b,e=>do let x ←evE a e;let y ←evE b e;D.cmp o x y
 | .chain o p a b c,e=>do
  let x ←evE a e
  let y ←evE b e
  match ←D.cmp o x y with
  | .bl true=>do let z ←evE c e;D.cmp p y z
  | .bl false=>.ok (.bl false)
  | _=>.no
 | .and a b,e=>do let x ←evE a e;let k ←x.truth;if k then evE b e else .ok x
 | .or a b,e=>do let x ←evE a e;let k ←x.truth;if k then .ok x else evE b e
 | .not a,e=>do let x ←evE a e;let k ←x.truth;.ok (.bl (!k))
 | .neg a,e=>do
  match ←evE a e with
  | .int i=>.ok (.int (-i))
  | _=>.no
 | .ife c a b,e=>do let x ←evE c e;let k ←x.truth;if k then evE a e else evE b e
 | .ix a b,e=>do let x ←evE a e;let y ←evE b e;D.ix x y
 | .sl a lo hi,e=>do let x ←evE a e;let l ←evE lo e;let l ←l.part;let h ←evE hi e;let h ←h.part;D.sl x l h
 | .omit,_=>.ok .non
 | .tup a,e=>do let xs ←evA a e;.ok (.tup xs)
 | .lst a,e=>do let xs ←evA a e;.ok (.lst xs)
 | .call f a,e=>do let xs ←evA a e;cf f xs
 | .bt b a,e=>do let xs ←evA a e;b.run xs
 | .mth m a b,e=>do let x ←evE a e;let y ←evE b e;m.run x y
 | .callT fs k a,e=>do let x ←evE k e;let f ←tabAt fs x;let xs ←evA a e;cf f xs
 | .gidx ss a,e=>do let x ←evE a e;idxS ss x
 | .lset a,e=>do let x ←evE a e;x.setN
 | .comp own caps g elt src cond,e=>do
  let ds ←evI src e
  let ys ←compL (λd=>do
   let e1 ←g.put d (compEnv own caps e)
   let c ←evE cond e1
   let k ←c.truth
   if k then do let y ←evE elt e1;.ok (some y) else .ok none) ds
  when (decide (ds.length≤big)) (.ok (.lst ys))
 | _,_=>.no
noncomputable def evA:E→Nv→Res (List D)
 | .anil,_=>.ok []
 | .acons a r,e=>do let x ←evE a e;let q ←evA r e;when (decide (q.length < 1000)) (.ok (x::q))
 | _,_=>.no
noncomputable def evI:E→Nv→Res (List D)
 | .seq a,e=>do let x ←evE a e;x.items
 | .rng a,e=>do
  match ←evE a e with
  | .int n=>when (small62 n) (.ok (rangeD 0 n.toNat))
  | _=>.no
 | .enum a,e=>do
  match ←evE a e with
  | .lst ds=>.ok (enumD 0 ds)
  | .tup ds=>.ok (enumD 0 ds)
  | _=>.no
 | _,_=>.no
end
noncomputable def insIx (n:Nat):D→Res Nat
 | .int v=>when (decide (0≤v)&&decide (v≤(n:Int))&&decide (n < big)) (.ok v.toNat)
 | _=>.no
inductive Out where
 | nx (e:Nv) | rt (d:D) (fresh:Bool) | bk (e:Nv) | ct (e:Nv)
 deriving Inhabited
noncomputable def forL (f:D→Nv→Res Out):List D→Nv→Res Out
 | [],e=>.ok (.nx e)
 | d::r,e=>do
  match ←f d e with
  | .nx e1=>forL f r e1
  | .ct e1=>forL f r e1
  | .bk e1=>.ok (.nx e1)
  | .rt x k=>.ok (.rt x k)
noncomputable def exS:S→Nv→Res Out
 | .nil,e=>.ok (.nx e)
 | .cons a r,e=>do
  match ←exS a e with
  | .nx e1=>exS r e1
  | o=>.ok o
 | .ret x,e=>do let d ←evE T cf x e;.ok (.rt d (freshE T x&&!tupL d))
 | .retO i,e=>do let a ←(e.at i).ownA;.ok (.rt a true)
 | .asg g x,e=>do let d ←evE T cf x e;let e1 ←g.put d e;.ok (.nx e1)
 | .asgO i x,e=>do
  match ←evE T cf x e with
  | .lst a=>when (freshE T x) (.ok (.nx (e.set i (.o (.lst a)))))
  | _=>.no
 | .sealed i,e=>do let a ←(e.at i).ownA;.ok (.nx (e.set i (.v a)))
 | .ite c a b,e=>do let x ←evE T cf c e;let k ←x.truth;if k then exS a e else exS b e
 | .forS g src b,e=>do
  let ds ←evI T cf src e
  forL (λd e0=>do let e1 ←g.put d e0;exS b e1) ds e
 | .app i x,e=>do
  let d ←evE T cf x e
  let a ←(e.at i).own
  when (decide (a.length < big)) (.ok (.nx (e.set i (.o (.lst (a++[d]))))))
 | .exp x,e=>do let _ ←evE T cf x e;.ok (.nx e)
 | .ins i k x,e=>do
  let y ←evE T cf k e
  let d ←evE T cf x e
  let a ←(e.at i).own
  let j ←insIx a.length y
  .ok (.nx (e.set i (.o (.lst (a.take j++d::a.drop j)))))
 | .raisI _ _,_=>.no
noncomputable def seqRd:E→Bool
 | .seq (.rd _)=>true
 | _=>false
noncomputable def forX (f:D→Nv→Option (Str×D)) (s:D→Nv→Res Out):List D→Nv→Option (Str×D)
 | [],_=>none
 | d::r,e=>match f d e with
  | some z=>some z
  | none=>match s d e with
   | .ok (.nx e1)=>forX f s r e1
   | .ok (.ct e1)=>forX f s r e1
   | _=>none
noncomputable def exX:S→Nv→Option (Str×D)
 | .cons a r,e=>match exX a e with
  | some z=>some z
  | none=>match exS T cf a e with
   | .ok (.nx e1)=>exX r e1
   | _=>none
 | .ite c a b,e=>match evE T cf c e with
  | .ok x=>match x.truth with
   | .ok true=>exX a e
   | .ok false=>exX b e
   | _=>none
  | _=>none
 | .exp (.call f a),e=>match evA T cf a e with
  | .ok ds=>match cf f ds with
   | .err c d=>some (c,d)
   | _=>none
  | _=>none
 | .raisI c a,e=>match evA T cf a e with
  | .ok [.int v]=>some (c,.int v)
  | _=>none
 | .forS g src b,e=>if seqRd src then none else match evI T cf src e with
  | .ok ds=>forX (λd e0=>match g.put d e0 with
   | .ok e1=>exX b e1
   | _=>none) (λd e0=>do let e1 ←g.put d e0;exS T cf b e1) ds e
  | _=>none
 | _,_=>none
end
noncomputable def calmS:S→Bool
 | .nil=>true
 | .cons a r=>calmS a&&calmS r
 | .ite _ a b=>calmS a&&calmS b
 | .exp _=>true
 | _=>false
structure Told where
 b:S
 c:Str
 yes:D
 thr:D
 ini:D:=.non
 num:Bool:=false
 deriving Inhabited
set_option genInjectivity false in
structure Df where
 names:Nat
 pars:Nat
 body:S
 told:Option Told:=none
 deriving Inhabited
noncomputable def callF (T:Tab) (defs:List Df):Nat→Nat→List D→Res D
 | 0,_,_=>.no
 | n+1,f,ds =>
  match defs[f]? with
  | none=>.no
  | some d =>
   when (ds.length==d.pars) (match d.told with
    | none=>match exX T (callF T defs n) d.body (ds.map Sl.v++List.replicate (d.names - d.pars) Sl.no) with
     | some z=>.err z.1 z.2
     | none=>match exS T (callF T defs n) d.body (ds.map Sl.v++List.replicate (d.names - d.pars) Sl.no) with
      | .ok (.rt x k)=>when (k||!T.fresh f) (.ok x)
      | .ok (.nx _)=>when (!T.fresh f) (.ok .non)
      | _=>.no
    | some t=>match exX T (callF T defs n) t.b (ds.map Sl.v++[.v t.ini,.no]) with
     | some z=>when (z.1==t.c&&!T.fresh f) (if t.num then (match z.2 with | .int v=>.ok (.int v) | _=>.no) else .ok t.yes)
     | none=>match exS T (callF T defs n) t.b (ds.map Sl.v++[.v t.ini,.no]) with
      | .ok (.nx _)=>when (!T.fresh f) (.ok t.thr)
      | _=>.no)
section
variable {T:Tab} {cf:Nat→List D→Res D} {e:Nv}
theorem xE_var {i:Nat}:evE T cf (.var i) e=((e.at i).val):=rfl
theorem xE_rd {i:Nat}:evE T cf (.rd i) e=((e.at i).any):=rfl
theorem xE_con {d:D}:evE T cf (.con d) e=(.ok d):=rfl
theorem xE_glob {g:Nat}:evE T cf (.glob g) e=(.ok (T.glob g)):=rfl
theorem xE_cmp {o:CmpOp} {a:E} {b:E}:evE T cf (.cmp o a b) e=(do let x ←evE T cf a e;let y ←evE T cf b e;D.cmp o x y):=rfl
theorem xE_chain {o:CmpOp} {p:CmpOp} {a:E} {b:E} {c:E}:evE T cf (.chain o p a b c) e=(do
 let x ←evE T cf a e
 let y ←evE T cf b e
 match ←D.cmp o x y with
 | .bl true=>do let z ←evE T cf c e;D.cmp p y z
 | .bl false=>.ok (.bl false)
 | _=>.no):=rfl
theorem xE_and {a:E} {b:E}:evE T cf (.and a b) e=(do let x ←evE T cf a e;let k ←x.truth;if k then evE T cf b e else .ok x):=rfl
theorem xE_or {a:E} {b:E}:evE T cf (.or a b) e=(do let x ←evE T cf a e;let k ←x.truth;if k then .ok x else evE T cf b e):=rfl
theorem xE_not {a:E}:evE T cf (.not a) e=(do let x ←evE T cf a e;let k ←x.truth;.ok (.bl (!k))):=rfl
theorem xE_neg {a:E}:evE T cf (.neg a) e=(do
 match ←evE T cf a e with
 | .int i=>.ok (.int (-i))
 | _=>.no):=rfl
theorem xE_ife {c:E} {a:E} {b:E}:evE T cf (.ife c a b) e=(do let x ←evE T cf c e;let k ←x.truth;if k then evE T cf a e else evE T cf b e):=rfl
theorem xE_sl {a:E} {lo:E} {hi:E}:evE T cf (.sl a lo hi) e=(do let x ←evE T cf a e;let l ←evE T cf lo e;let l ←l.part;let h ←evE T cf hi e;let h ←h.part;D.sl x l h):=rfl
theorem xE_omit  : evE T cf (.«omit») e=(.ok .non):=rfl
theorem xE_tup {a:E}:evE T cf (.tup a) e=(do let xs ←evA T cf a e;.ok (.tup xs)):=rfl
theorem xE_lst {a:E}:evE T cf (.lst a) e=(do let xs ←evA T cf a e;.ok (.lst xs)):=rfl
theorem xE_call {f:Nat} {a:E}:evE T cf (.call f a) e=(do let xs ←evA T cf a e;cf f xs):=rfl
theorem xE_bt {b:Bt} {a:E}:evE T cf (.bt b a) e=(do let xs ←evA T cf a e;b.run xs):=rfl
theorem xE_mth {m:Mt} {a:E} {b:E}:evE T cf (.mth m a b) e=(do let x ←evE T cf a e;let y ←evE T cf b e;m.run x y):=rfl
theorem xE_callT {fs:List Nat} {k:E} {a:E}:evE T cf (.callT fs k a) e=(do let x ←evE T cf k e;let f ←tabAt fs x;let xs ←evA T cf a e;cf f xs):=rfl
theorem xE_gidx {ss:List Str} {a:E}:evE T cf (.gidx ss a) e=(do let x ←evE T cf a e;idxS ss x):=rfl
theorem xE_lset {a:E}:evE T cf (.lset a) e=(do let x ←evE T cf a e;x.setN):=rfl
theorem xE_comp {own:Nat} {caps:List Nat} {g:G} {elt:E} {src:E} {cond:E}:evE T cf (.comp own caps g elt src cond) e=(do
 let ds ←evI T cf src e
 let ys ←compL (λd=>do
  let e1 ←g.put d (compEnv own caps e)
  let c ←evE T cf cond e1
  let k ←c.truth
  if k then do let y ←evE T cf elt e1;.ok (some y) else .ok none) ds
 when (decide (ds.length≤big)) (.ok (.lst ys))):=rfl
theorem xA_anil  : evA T cf (.anil) e=(.ok []):=rfl
theorem xA_acons {a:E} {r:E}:evA T cf (.acons a r) e=(do let x ←evE T cf a e;let q ←evA T cf r e;when (decide (q.length < 1000)) (.ok (x::q))):=rfl
theorem xI_seq {a:E}:evI T cf (.seq a) e=(do let x ←evE T cf a e;x.items):=rfl
theorem xI_rng {a:E}:evI T cf (.rng a) e=(do
 match ←evE T cf a e with
 | .int n=>when (small62 n) (.ok (rangeD 0 n.toNat))
 | _=>.no):=rfl
theorem xI_enum {a:E}:evI T cf (.enum a) e=(do
 match ←evE T cf a e with
 | .lst ds=>.ok (enumD 0 ds)
 | .tup ds=>.ok (enumD 0 ds)
 | _=>.no):=rfl
theorem xS_nil  : exS T cf (.nil) e=(.ok (.nx e)):=rfl
theorem xS_cons {a:S} {r:S}:exS T cf (.cons a r) e=(do
 match ←exS T cf a e with
 | .nx e1=>exS T cf r e1
 | o=>.ok o):=rfl
theorem xS_ret {x:E}:exS T cf (.ret x) e=(do let d ←evE T cf x e;.ok (.rt d (freshE T x&&!tupL d))):=rfl
theorem xS_retO {i:Nat}:exS T cf (.retO i) e=(do let a ←(e.at i).ownA;.ok (.rt a true)):=rfl
theorem xS_asg {g:G} {x:E}:exS T cf (.asg g x) e=(do let d ←evE T cf x e;let e1 ←g.put d e;.ok (.nx e1)):=rfl
theorem xS_asgO {i:Nat} {x:E}:exS T cf (.asgO i x) e=(do
 match ←evE T cf x e with
 | .lst a=>when (freshE T x) (.ok (.nx (e.set i (.o (.lst a)))))
 | _=>.no):=rfl
theorem xS_sealed {i:Nat}:exS T cf (.«sealed» i) e=(do let a ←(e.at i).ownA;.ok (.nx (e.set i (.v a)))):=rfl
theorem xS_ite {c:E} {a:S} {b:S}:exS T cf (.ite c a b) e=(do let x ←evE T cf c e;let k ←x.truth;if k then exS T cf a e else exS T cf b e):=rfl
theorem xS_forS {g:G} {src:E} {b:S}:exS T cf (.forS g src b) e=(do
 let ds ←evI T cf src e
 forL (λd e0=>do let e1 ←g.put d e0;exS T cf b e1) ds e):=rfl
theorem xS_app {i:Nat} {x:E}:exS T cf (.app i x) e=(do
 let d ←evE T cf x e
 let a ←(e.at i).own
 when (decide (a.length < big)) (.ok (.nx (e.set i (.o (.lst (a++[d]))))))):=rfl
theorem xS_exp {x:E}:exS T cf (.exp x) e=(do let _ ←evE T cf x e;.ok (.nx e)):=rfl
theorem xS_ins {i:Nat} {k:E} {x:E}:exS T cf (.ins i k x) e=(do
 let y ←evE T cf k e
 let d ←evE T cf x e
 let a ←(e.at i).own
 let j ←insIx a.length y
 .ok (.nx (e.set i (.o (.lst (a.take j++d::a.drop j)))))):=rfl
theorem xS_raisI {c:Str} {a:E}:exS T cf (.raisI c a) e=(.no):=rfl
end
section
variable {T:Tab} {cf:Nat→List D→Res D} {e:Nv}
theorem xX_cons {a r:S}:exX T cf (.cons a r) e=(match exX T cf a e with
 | some z=>some z
 | none=>match exS T cf a e with
  | .ok (.nx e1)=>exX T cf r e1
  | _=>none):=rfl
theorem xX_ite {c:E} {a b:S}:exX T cf (.ite c a b) e=(match evE T cf c e with
 | .ok x=>match x.truth with
  | .ok true=>exX T cf a e
  | .ok false=>exX T cf b e
  | _=>none
 | _=>none):=rfl
theorem xX_call {f:Nat} {a:E}:exX T cf (.exp (.call f a)) e=(match evA T cf a e with
 | .ok ds=>match cf f ds with
  | .err c d=>some (c,d)
  | _=>none
 | _=>none):=rfl
theorem xX_raisI {c:Str} {a:E}:exX T cf (.raisI c a) e=(match evA T cf a e with
 | .ok [.int v]=>some (c,.int v)
 | _=>none):=rfl
theorem xX_for {g:G} {src:E} {b:S}:exX T cf (.forS g src b) e=(if seqRd src then none else match evI T cf src e with
 | .ok ds=>forX (λd e0=>match g.put d e0 with
  | .ok e1=>exX T cf b e1
  | _=>none) (λd e0=>do let e1 ←g.put d e0;exS T cf b e1) ds e
 | _=>none):=rfl
end
section
variable {T:Tab} {cf:Nat→List D→Res D}
theorem forX_not {f:D→Nv→Option (Str×D)} {s:D→Nv→Res Out} (hf:∀d e z,f d e=some z→∀o,s d e≠.ok o):∀(ds:List D) (e:Nv) {z:Str×D},forX f s ds e=some z→∀o,forL s ds e≠.ok o
 | [],_,_,h,_,_=>by cases h
 | d::r,e,z,h,o,k=>by
  unfold forX at h
  unfold forL at k
  cases ha:f d e with
  | some z' =>
   cases hs:s d e with
   | ok o'=>exact hf _ _ _ ha o' hs
   | err c d=>rw[hs] at k;cases k
   | no=>rw[hs] at k;cases k
  | none =>
   rw[ha] at h
   cases hs:s d e with
   | ok o' =>
    rw[hs] at h k
    cases o' with
    | nx e1=>exact forX_not hf r e1 h o k
    | ct e1=>exact forX_not hf r e1 h o k
    | _=>cases h
   | err c d=>rw[hs] at h;cases h
   | no=>rw[hs] at h;cases h
theorem exX_not:∀ {x:S} {e:Nv} {z:Str×D},exX T cf x e=some z→∀o,exS T cf x e≠.ok o
 | .cons a r,e,z,h,o,k=>by
  rw[xX_cons] at h
  rw[xS_cons] at k
  cases ha:exX T cf a e with
  | some z' =>
   have:=exX_not ha
   cases hs:exS T cf a e with
   | ok o'=>exact this o' hs
   | err c d=>rw[hs] at k;cases k
   | no=>rw[hs] at k;cases k
  | none =>
   rw[ha] at h
   cases hs:exS T cf a e with
   | ok o' =>
    rw[hs] at h k
    cases o' with
    | nx e1=>exact exX_not h o k
    | _=>cases h
   | err c d=>rw[hs] at h;cases h
   | no=>rw[hs] at h;cases h
 | .ite c a b,e,z,h,o,k=>by
  rw[xX_ite] at h
  rw[xS_ite] at k
  cases hc:evE T cf c e with
  | ok x =>
   rw[hc] at h k
   cases ht:x.truth with
   | ok q =>
    have k:(do let q ←x.truth;if q=true then exS T cf a e else exS T cf b e)=.ok o:=k
    simp only[ht] at h
    rw[ht] at k
    cases q with
    | true=>exact exX_not h o k
    | false=>exact exX_not h o k
   | err _ _=>simp only[ht] at h;cases h
   | no=>simp only[ht] at h;cases h
  | err _ _=>rw[hc] at h;cases h
  | no=>rw[hc] at h;cases h
 | .exp x,e,z,h,o,k=>by
  cases x with
  | call f a =>
   rw[xX_call] at h
   rw[xS_exp,xE_call] at k
   cases ha:evA T cf a e with
   | ok ds =>
    rw[ha] at h k
    have k:(do let _ ←cf f ds;Res.ok (Out.nx e))=.ok o:=k
    cases hf:cf f ds with
    | err c d=>rw[hf] at k;cases k
    | ok _=>simp only[hf] at h;cases h
    | no=>simp only[hf] at h;cases h
   | err _ _=>rw[ha] at h;cases h
   | no=>rw[ha] at h;cases h
  | _=>cases h
 | .raisI c a,e,z,h,o,k=>by cases k
 | .forS g src b,e,z,h,o,k=>by
  rw[xX_for] at h
  rw[xS_forS] at k
  split at h
  ·cases h
  cases hc:evI T cf src e with
  | ok ds =>
   rw[hc] at h k
   refine forX_not (λd e0 z h o k=>?_) ds e h o k
   cases hg:g.put d e0 with
   | ok e1 =>
    rw[hg] at h k
    exact exX_not h o k
   | err _ _=>rw[hg] at h;cases h
   | no=>rw[hg] at h;cases h
  | err _ _=>rw[hc] at h;cases h
  | no=>rw[hc] at h;cases h
 | .nil,_,_,h,_,_ | .ret _,_,_,h,_,_ | .retO _,_,_,h,_,_ | .asg _ _,_,_,h,_,_ | .asgO _ _,_,_,h,_,_ | .«sealed» _,_,_,h,_,_ | .app _ _,_,_,h,_,_ | .ins _ _ _,_,_,h,_,_=>by cases h
end
end Tr
namespace Tr
open PySem PySem.Spec PyProof.Rows L2 Builtin.Str
theorem str_ext {x y:Str} (h:x.cps.toList=y.cps.toList):x=y:=by
 cases x;cases y
 simp only[Str.mk.injEq]
 exact Array.toList_inj.mp h
theorem filterMap_range {α:Type} (xs:List α) (a b:Nat) (hb:b≤xs.length):((List.range (b - a)).map λk=>a+k).filterMap (xs[·]?)=(xs.drop a).take (b - a):=by
 generalize hn:b - a=n
 induction n generalizing a with
 | zero=>simp
 | succ n ih =>
  have ha:a < xs.length:=by lia
  rw[List.range_succ_eq_map,List.map_cons,List.filterMap_cons,List.map_map,List.drop_eq_getElem_cons ha,List.take_succ_cons]
  simp only[Nat.add_zero,List.getElem?_eq_getElem ha]
  congr 1
  rw[←ih (a+1) (by lia)]
  congr 1
  apply List.map_congr_left
  intro k _
  simp only[Function.comp]
  lia
theorem sliceRange_nat {a b:Int} {p q:Nat} (ha:a=p) (hb:b=q):sliceRange a b 1=(List.range (q - p)).map λk=>p+k:=by
 subst ha hb
 unfold sliceRange
 simp only[show (1:Int) > 0 by decide,if_true]
 have hc:(if (p:Int) < (q:Int) then ((q:Int) - (p:Int)+1 - 1) / 1 else 0).toNat=q - p:=by
  rw[Int.ediv_one]
  split<;>lia
 rw[hc]
 apply List.map_congr_left
 intro k _
 lia
theorem slice_indices (n:Nat) (lo hi:Option Int):strSliceIndices lo hi 1 n=(List.range (sIx n n hi - sIx n 0 lo)).map λk=>sIx n 0 lo+k:=by
 unfold strSliceIndices
 refine sliceRange_nat ?_ ?_
 ·cases lo with
  | none=>rfl
  | some v =>
   simp only[show (1:Int) > 0 by decide,if_true,sIx]
   split<;>lia
 ·cases hi with
  | none=>rfl
  | some v =>
   simp only[show (1:Int) > 0 by decide,if_true,sIx]
   split<;>lia
theorem sIx_le' (n d:Nat) (hd:d≤n) (o:Option Int):sIx n d o≤n:=by
 cases o with
 | none=>exact hd
 | some v =>
  simp only[sIx]
  split<;>lia
theorem slice_cut (x:Str) (lo hi:Option Int):Txt.slice x lo hi=strCut x lo hi:=by
 have hl:x.cps.toList.length=x.length:=by simp[Str.length]
 unfold Txt.slice
 rw[slice_indices]
 have e:(List.filterMap (x.cps[·]?) ((List.range (sIx x.length x.length hi - sIx x.length 0 lo)).map λk=>sIx x.length 0 lo+k))=cut x.cps.toList lo hi:=by
  have:=filterMap_range x.cps.toList (sIx x.length 0 lo) (sIx x.length x.length hi) (by rw[hl];exact sIx_le' _ _ (Nat.le_refl _) _)
  unfold cut
  rw[hl,←this]
  congr 1
  funext k
  simp
 split
 ·rename_i c
  simp only[beq_self_eq_true,Bool.true_and,List.length_map,List.length_range,beq_iff_eq] at c
  refine str_ext ?_
  show _=(cut x.cps.toList lo hi).toArray.toList
  have h1:=sIx_le' x.length x.length (Nat.le_refl _) hi
  unfold cut
  by_cases hz:x.length=0
  ·have:x.cps.toList=[]:=List.eq_nil_of_length_eq_zero (by lia)
   rw[this];simp
  ·have h0:sIx x.length 0 lo=0:=by lia
   have h2:sIx x.length x.length hi=x.length:=by lia
   rw[hl,h0,h2,List.drop_zero,Nat.sub_zero,←hl,List.take_of_length_le (Nat.le_refl _)]
 ·rw[e];rfl
theorem oneIn_ok {x y:Str} {b:Bool} (h:oneIn x y=.ok b):(!(occurrences y x 0 y.length 1).isEmpty)=b:=by
 unfold oneIn at h
 split at h
 ·rename_i c hc
  cases h
  have ex:x=⟨#[c]⟩:=str_ext (by rw[hc])
  rw[ex]
  exact StrLaws.found_one y c
 ·cases h
noncomputable def placesC (c:Nat) (k:Nat):List Nat→List Nat
 | []=>[]
 | x::r=>if x=c then k::placesC c (k+1) r else placesC c (k+1) r
theorem occ_places (x:Str) (c:Nat):occurrences x ⟨#[c]⟩ 0 x.length (x.length+1)=placesC c 0 x.cps.toList:=by
 rw[StrLaws.occ_eq]
 have hl:x.cps.toList.length=x.length:=by simp[Str.length]
 have key:∀(r k:Nat) (found:Array Nat) (free:Nat),k+r=x.length→found.size≤k→free≤k →
  (forIn (List.range' k (r+1)) (found,free) (StrLaws.occBody x ⟨#[c]⟩ x.length (x.length+1)):Id (Array Nat×Nat)).run.fst.toList=found.toList++placesC c k (x.cps.toList.drop k):=by
  intro r
  induction r with
  | zero =>
   intro k found free hk hf hfr
   rw[show List.range' k (0+1)=[k] from rfl,List.forIn_cons,List.drop_eq_nil_of_le (by lia)]
   have hb:StrLaws.occBody x ⟨#[c]⟩ x.length (x.length+1) k (found,free)=pure (ForInStep.yield (found,free)):=by
    unfold StrLaws.occBody
    rw[if_neg]
    rintro⟨⟨_,h⟩,_⟩
    simp[Str.length] at h
    have:x.cps.size=x.length:=rfl
    lia
   rw[hb]
   simp[placesC]
  | succ r ih =>
   intro k found free hk hf hfr
   have hk':k < x.cps.toList.length:=by lia
   rw[List.range'_succ,List.forIn_cons,List.drop_eq_getElem_cons hk',placesC]
   by_cases hc:x.cps.toList[k]=c
   ·have hs:subAt x ⟨#[c]⟩ k=true:=by
     have:=(StrLaws.subAt_one x c k).mpr (by rw[List.getElem?_eq_getElem hk',hc])
     exact this.2
    have hb:StrLaws.occBody x ⟨#[c]⟩ x.length (x.length+1) k (found,free)=pure (ForInStep.yield (found.push k,k+1)):=by
     unfold StrLaws.occBody
     rw[if_pos ⟨⟨⟨by show found.size < x.length+1;lia,hfr⟩,by show k+1≤x.length;lia⟩,hs⟩]
     rfl
    rw[hb,if_pos hc]
    have:=ih (k+1) (found.push k) (k+1) (by lia) (by rw[Array.size_push];lia) (Nat.le_refl _)
    refine Eq.trans this ?_
    simp
   ·have hs:¬subAt x ⟨#[c]⟩ k=true:=λh=>by
     have:=(StrLaws.subAt_one x c k).mp ⟨by show k+1≤x.length;lia,h⟩
     rw[List.getElem?_eq_getElem hk'] at this
     exact hc (Option.some.inj this)
    have hb:StrLaws.occBody x ⟨#[c]⟩ x.length (x.length+1) k (found,free)=pure (ForInStep.yield (found,free)):=by
     unfold StrLaws.occBody
     rw[if_neg λh=>hs h.2]
    rw[hb,if_neg hc]
    exact ih (k+1) found free (by lia) (by lia) (by lia)
 have:=key x.length 0 #[] 0 (by lia) (Nat.le_refl _) (Nat.le_refl _)
 simpa using this
theorem splitC_ne (c:Nat):∀cs,splitC c cs≠[]
 | []=>by simp[splitC]
 | x::r=>by
  rw[splitC]
  split
  ·simp
  ·split<;>simp
theorem parts_split (x:Str) (c:Nat):partsBetween x (placesC c 0 x.cps.toList) 1=splitS x c:=by
 have hl:x.cps.toList.length=x.length:=by simp[Str.length]
 have key:∀(cs:List Nat) (a k:Nat),a≤k→k+cs.length=x.length→x.cps.toList.drop k=cs →
  ((a::(placesC c k cs).map (·+1)).zip (placesC c k cs++[x.length])).map (λp=>(x.cps.toList.drop p.1).take (p.2 - p.1)) =
   (match splitC c cs with | h::t=>((x.cps.toList.drop a).take (k - a)++h)::t | []=>[]):=by
  intro cs
  induction cs with
  | nil =>
   intro a k ha hk hd
   simp only[placesC,splitC,List.map_nil,List.nil_append,List.zip_cons_cons,List.zip_nil_right,List.map_cons,List.append_nil]
   rw[show x.length=k by simpa using hk.symm]
  | cons d r ih =>
   intro a k ha hk hd
   have hk':k < x.cps.toList.length:=by simp at hk;lia
   rw[List.drop_eq_getElem_cons hk'] at hd
   injection hd with hd1 hd2
   rw[placesC,splitC]
   by_cases hc:d=c
   ·rw[if_pos hc,if_pos hc]
    have:=ih (k+1) (k+1) (Nat.le_refl _) (by simp at hk;lia) hd2
    simp only[List.map_cons,List.cons_append,List.zip_cons_cons,List.append_nil]
    rw[this]
    simp only[Nat.sub_self,List.take_zero,List.nil_append]
    cases hsp:splitC c r with
    | nil=>exact absurd hsp (splitC_ne c r)
    | cons h t=>rfl
   ·rw[if_neg hc,if_neg hc]
    have:=ih a (k+1) (by lia) (by simp at hk;lia) hd2
    rw[this]
    cases hsp:splitC c r with
    | nil=>exact absurd hsp (splitC_ne c r)
    | cons h t =>
     simp only
     congr 1
     rw[show k+1 - a=(k - a)+1 by lia,List.take_add_one,List.getElem?_drop,show a+(k - a)=k by lia,List.getElem?_eq_getElem hk',hd1]
     simp
 have h0:=key x.cps.toList 0 0 (Nat.le_refl _) (by lia) (by simp)
 unfold partsBetween splitS
 have e:∀p:Nat×Nat,strSub x p.1 p.2=⟨((x.cps.toList.drop p.1).take (p.2 - p.1)).toArray⟩:=λp=>str_ext (by
  show (x.cps.extract p.1 p.2).toList=_
  rw[Array.toList_extract,List.extract_eq_take_drop])
 have h1:splitC c x.cps.toList=(((0::(placesC c 0 x.cps.toList).map (·+1)).zip (placesC c 0 x.cps.toList++[x.length])).map (λp=>(x.cps.toList.drop p.1).take (p.2 - p.1))):=by
  rw[h0]
  cases splitC c x.cps.toList<;>simp
 rw[h1,List.map_map]
 apply List.map_congr_left
 rintro⟨i,j⟩ _
 exact e (i,j)
theorem splitC_length (c:Nat):∀cs,(splitC c cs).length≤cs.length+1
 | []=>by simp[splitC]
 | x::r=>by
  have:=splitC_length c r
  rw[splitC]
  split
  ·simp;lia
  ·split
   ·rename_i h t e
    rw[e] at this
    simp at this ⊢
    lia
   ·simp
theorem splitC_none (c:Nat):∀cs,placesC c k cs=[]→splitC c cs=[cs]
 | [],_=>rfl
 | x::r,h=>by
  rw[placesC] at h
  split at h
  ·cases h
  ·rename_i hc
   rw[splitC,if_neg hc,splitC_none c r h]
section
variable {X:Cx}
theorem isPart_str {v:Value} {o:Option Int} (h:IsPart v o):∃p:Option (Int×Tok),v=partValue p∧p.map (·.1)=o:=by
 cases h with
 | none=>exact⟨none,rfl,rfl⟩
 | int i t=>exact⟨some (i,t),rfl,rfl⟩
theorem sl_str:SlR X (λx lo hi H Q=>∃z,x=.str z∧z.length≤sizeLine∧Q (.str (strCut z lo hi)) H):=by
 intro pins s σ H x v vl vu lo hi sl Q I rx hs pl pu h
 obtain⟨z,rfl,hz,q⟩:=h
 obtain⟨t,rfl⟩:=rx
 obtain⟨p,rfl,rfl⟩:=isPart_str pl
 obtain⟨p',rfl,rfl⟩:=isPart_str pu
 refine⟨"str", _,PySem.F.slot_str_getitem.lookup,typeIs_str _ _ _,wpAny_getItem_str_slice (l:=p) (u:=p') (st:=none) hs rfl ?_⟩
 refine post_val_or_str ⟨Nat.le_trans (Txt.slice_le z _ _) hz,λt' k=>?_⟩
 refine⟨.str _,H,I.tok k,⟨t',?_⟩,q⟩
 rw[←slice_cut]
 rfl
theorem strs_vals:∀ {xs:List Str} {us:List Value},Vals (xs.map V.str) us→StrsAre us xs
 | [],_,h=>by cases h;exact .nil
 | x::r,_,h=>by
  rw[List.map_cons] at h
  cases h with
  | cons r1 r2 =>
   obtain⟨t,rfl⟩:=r1
   exact .cons x t (strs_vals r2)
theorem vals_from:∀(t:Nat) (xs:List Str),Vals (xs.map V.str) (strsFrom t xs)
 | _,[]=>.nil
 | t,x::r=>.cons ⟨t,rfl⟩ (vals_from (t+1) r)
theorem mt_split:MtR X "str.split" (λx vs H Q=>∃z c,x=.str z∧vs=[.str ⟨#[c]⟩]∧z.length < sizeLine∧c < 256∧∀p,H p=none→Q (.ref p) (upd H p (.lst ((splitS z c).map V.str)))):=by
 intro pins s σ H x vs v us Q I rx rv h
 obtain⟨z,c,rfl,rfl,hz,hc,q⟩:=h
 obtain⟨t,rfl⟩:=rx
 obtain⟨u,rfl,ru⟩:=vals1 rv
 obtain⟨t2,rfl⟩:=ru
 have hsp:=splitC_length c z.cps.toList
 have hl:z.cps.toList.length=z.length:=by simp[Str.length]
 have fin:∀(its:List Value) (tk:Nat),Vals ((splitS z c).map V.str) its→EP X pins σ Q (.ref s.heap.objs.size) { s with heap:=s.heap.push { cls:=.type "list", data:=.seq its.toArray },toks:=tk }:=λits tk r =>
  ⟨.ref _,_,I.lnew (t':=tk) r (by rw[List.length_map,splitS,List.length_map];lia),rfl,q _ I.fresh⟩
 have one:splitS z c=[z]→EP X pins σ Q (.ref s.heap.objs.size) { s with heap:=s.heap.push { cls:=.type "list", data:=.seq #[.str z t] } }:=λe=>by
  have:=fin [.str z t] s.toks (by rw[e];exact .cons ⟨t,rfl⟩ .nil)
  simpa using this
 have occ:=occ_places z c
 by_cases h1:(decide (z.length < (⟨#[c]⟩:Str).length)||decide (Builtin.Str.strKind z < Builtin.Str.strKind ⟨#[c]⟩))=true
 ·refine call_meets PySem.F.slot_str_split (typeIs_str _ _ _) PySem.F.entry_str_split (PySem.F.args_str_split_2 _ _) (meets_str_split_cannot_occur z ⟨#[c]⟩ t t2 h1) ?_
  refine one ?_
  have hk:Builtin.Str.strKind ⟨#[c]⟩=1:=by
   unfold Builtin.Str.strKind
   rw[if_pos]
   simpa using hc
  have hk2:1≤Builtin.Str.strKind z:=by
   unfold Builtin.Str.strKind
   split
   ·exact Nat.le_refl _
   ·split<;>lia
  have h0:z.length < 1:=by
   rw[hk,Bool.or_eq_true,decide_eq_true_eq,decide_eq_true_eq] at h1
   rcases h1 with h1 | h1
   ·exact h1
   ·lia
  have hn:z.cps.toList=[]:=List.eq_nil_of_length_eq_zero (by lia)
  unfold splitS
  rw[hn,splitC,List.map_cons,List.map_nil]
  exact congrArg (λy=>[y]) (str_ext (by rw[hn]))
 ·have h1':(decide (z.length < (⟨#[c]⟩:Str).length)||decide (Builtin.Str.strKind z < Builtin.Str.strKind ⟨#[c]⟩))=false:=by simpa using h1
  by_cases hf:(occurrences z ⟨#[c]⟩ 0 z.length (z.length+1)).isEmpty=true
  ·refine call_meets PySem.F.slot_str_split (typeIs_str _ _ _) PySem.F.entry_str_split (PySem.F.args_str_split_2 _ _) (meets_str_split_not_found z ⟨#[c]⟩ t t2 h1' rfl hf) ?_
   refine one ?_
   rw[occ,List.isEmpty_iff] at hf
   unfold splitS
   rw[splitC_none c _ hf]
   rfl
  ·have hf':(occurrences z ⟨#[c]⟩ 0 z.length (z.length+1)).isEmpty=false:=by simpa using hf
   refine call_meets PySem.F.slot_str_split (typeIs_str _ _ _) PySem.F.entry_str_split (PySem.F.args_str_split_2 _ _) (meets_str_split_sep z ⟨#[c]⟩ t t2 h1' rfl hf' (by lia) ?_) ?_
   ·rw[occ]
    show (partsBetween z (placesC c 0 z.cps.toList) 1).length≤sizeLine
    rw[parts_split,splitS,List.length_map];lia
   ·have e:partsBetween z (occurrences z ⟨#[c]⟩ 0 z.length (z.length+1)) (⟨#[c]⟩:Str).length=splitS z c:=by rw[occ];exact parts_split z c
    show EP X pins σ Q _ _
    rw[e]
    exact fin _ _ (vals_from _ _)
theorem joinC_fold (g:List Nat):∀(xs:List (List Nat)) (acc:List Nat),xs.foldl (λacc p=>acc++g++p) acc=acc++(match xs with | []=>[] | x::r=>g++joinC g (x::r))
 | [],acc=>by simp
 | [x],acc=>by simp[joinC,List.append_assoc]
 | x::y::r,acc=>by
  rw[List.foldl_cons,joinC_fold g (y::r)]
  simp[joinC,List.append_assoc]
theorem glued_join (g:Str) (xs:List Str):Builtin.Str.glued g xs=joinS g xs:=by
 refine str_ext ?_
 unfold Builtin.Str.glued joinS
 have fold:∀(ys:List Str) (acc:Array Nat),(ys.foldl (λacc p=>acc++g.cps++p.cps) acc).toList=(ys.map λx=>x.cps.toList).foldl (λacc p=>acc++g.cps.toList++p) acc.toList:=by
  intro ys
  induction ys with
  | nil=>intro acc;rfl
  | cons y r ih=>intro acc;rw[List.foldl_cons,ih,List.map_cons,List.foldl_cons];simp
 show (List.foldl (λacc p=>acc++g.cps++p.cps) (xs.headD Str.empty).cps (xs.drop 1)).toList=(joinC g.cps.toList (xs.map λx=>x.cps.toList)).toArray.toList
 rw[fold,joinC_fold]
 cases xs with
 | nil=>rfl
 | cons x r =>
  cases r with
  | nil=>simp[joinC]
  | cons y r=>simp[joinC]
theorem mt_join:MtR X "str.join" (λx vs H Q=>∃g a xs,x=.str g∧vs=[.ref a]∧SqL X.K H a (xs.map V.str)∧g.length≤64∧(xs.map (·.length)).sum+xs.length*64≤16777216∧Q (.str (joinS g xs)) H):=by
 intro pins s σ H x vs v us Q I rx rv h
 obtain⟨g,a,xs,rfl,rfl,hq,hg,hz,q⟩:=h
 obtain⟨t,rfl⟩:=rx
 obtain⟨u,rfl,ru⟩:=vals1 rv
 cases ru
 obtain⟨its,r,pl,hz'⟩:=I.list hq
 refine join_listC pl.isList (ys:=xs) (by simpa using strs_vals r) hg hz λt' k=>?_
 refine⟨.str _,H,I.tok k,⟨t',?_⟩,q⟩
 rw[←glued_join]
 rfl
theorem call_int_text:CallR X (.type "int") (λxs H Q=>∃z,xs=[.str z]∧isDigits z.cps.toList=true∧z.length≤640∧Q (.int (digitsN z.cps.toList)) H):=by
 intro pins s σ H xs us Q I r h
 obtain⟨z,rfl,hd,hl,q⟩:=h
 obtain⟨u,rfl,rx⟩:=vals1 r
 obtain⟨t,rfl⟩:=rx
 unfold isDigits at hd
 rw[Bool.and_eq_true,List.all_eq_true] at hd
 have had:PySem.NumText.AllDigits z.cps.toList:=λc hc=>by
  have:=hd.2 c hc
  simpa using this
 have hne:z.cps.toList≠[]:=by
  have:=hd.1
  intro e
  rw[e] at this
  cases this
 have hn:=PySem.intText_digits had hne (by lia)
 exact PySem.W.KIN.call_text (n:=((digitsN z.cps.toList:Nat):Int)) hn hl ⟨.int _,H,I.tok _,⟨_,rfl⟩,q⟩
theorem bools_walk {pins:List (Addr×Obj)} {s:Shared} {σ:L2.St} {H:Hp} {a:Addr} {bs:List Bool} {its:List Value} (I:Inv X pins σ H s) (r':Vals (bs.map V.bl) its) (pl:PlainL s.heap a its.toArray) :
 (s.heap.push { cls:=.type "list_iterator", data:=.fields #[.ref a,.int 0 0] }).IsList a its.toArray∧TruthOf X.prog X.w X.A.in1 (λi v=>its.toArray[i]?=some v) (λi=>(bs[i]?).getD true):=by
 refine⟨pl.isList.at λo e=>Heap.get?_push_of_some _ e,?_⟩
 intro i v s' Q' E' hv hQ'
 have hv':its[i]?=some v:=by simpa using hv
 obtain⟨hi,_⟩:=List.getElem?_eq_some_iff.mp hv'
 have hib:i < bs.length:=by have:=r'.length;rw[List.length_map] at this;lia
 obtain⟨w,hw,rw'⟩:=r'.get (i:=i) (by rw[List.getElem?_map,List.getElem?_eq_getElem hib];rfl)
 rw[hv'] at hw
 cases hw
 have:v=.bool bs[i]:=rw'
 subst this
 have e:(bs[i]?).getD true=bs[i]:=by rw[List.getElem?_eq_getElem hib];rfl
 dsimp only at hQ'
 rw[e] at hQ'
 exact wpAny_truthy_bool hQ'
theorem range_all (bs:List Bool):(List.range bs.length).all (λi=>(bs[i]?).getD true)=bs.all id:=by
 induction bs with
 | nil=>rfl
 | cons b r ih =>
  rw[List.length_cons,List.range_succ_eq_map,List.all_cons,List.all_map,List.all_cons,←ih]
  rfl
theorem call_all:CallR X (.builtin "all") (λxs H Q=>∃(a:Addr) (bs:List Bool),xs=[.ref a]∧SqL X.K H a (bs.map V.bl)∧X.calm=true∧Q (.bl (bs.all id)) H):=by
 intro pins s σ H xs us Q I r h
 obtain⟨a,bs,rfl,hq,hc,q⟩:=h
 obtain⟨u,rfl,rx⟩:=vals1 r
 cases rx
 obtain⟨its,r',pl,hz⟩:=I.list hq
 refine call_all_walk (wpAny_pyIter_list pl.isList ?_)
 have hlt:a < s.heap.objs.size:=by obtain⟨o,e,_⟩:=pl.isList;exact Heap.lt_size e
 obtain⟨w1,w2⟩:=bools_walk I r' pl
 refine⟨s.heap.objs.size,[s.heap.objs.size,a],[s.heap.objs.size],its.toArray.size,(λi v=>its.toArray[i]?=some v),(λi h=>h.IsListIter s.heap.objs.size a i∧h.IsList a its.toArray),λi=>(bs[i]?).getD true,rfl,Walks.list (A:=X.A.in1) (I.ok.hd hc) s.heap.objs.size a (Nat.ne_of_lt hlt) its.toArray,⟨⟨_,Heap.get?_push_size _ rfl,rfl,rfl⟩,w1⟩,w2,λh' tk hk=>?_⟩
 refine⟨.bl (bs.all id),H,I.kept (h':=h') (t':=tk) λb o e=>hk b o (by simp;exact λz=>absurd (z▸Heap.lt_size e) (Nat.lt_irrefl _)) (Heap.get?_push_of_some _ e),?_,q⟩
 have hl:=r'.length
 rw[List.length_map] at hl
 show Value.bool _=Value.bool _
 rw[List.size_toArray,←hl,range_all]
noncomputable def Its (x:Str):It:=⟨λi _=>i < x.cps.size,λi H v H'=>H'=H∧∃c,x.cps[i]?=some c∧v=.str ⟨#[c]⟩,λi _=>x.cps.size≤i⟩
theorem turn_str {P:Program} {w:World} {K:PySem.W.Frag} {tg:Expr} (ty:String) (it:Addr) (x:Str) (t:Tok)
 (hty:["enumerate", "zip", "dict_itemiterator", "dict_reverseitemiterator", "odict_iterator", "itertools.zip_longest", "itertools.pairwise"].contains ty=false)
 (W:∀A:Around,A.handled=none→Walks P w A it [it] [it] x.cps.size (SignAt x) (λi h=>h.IsStrIter it ty x t i))
 (en:∀(A:Around) (s:Shared) (i:Nat) (Q:Option Value→Shared→Prop) (E:Value→Shared→Prop),A.handled=none→s.heap.IsStrIter it ty x t i→x.cps[i]?=none→(∀h',Heap.ExtBut it s.heap h'→Q none { s with heap:=h' })→wpAny (model P w) A (pyNext (.ref it)) Q E s)
 (sf:∀(A:Around) (s:Shared) (i:Nat) (Q:Value→Shared→Prop) (E:Value→Shared→Prop),s.heap.IsStrIter it ty x t i→Q (.ref it) s→wpAny (model P w) A (pyIter (.ref it)) Q E s) :
 Turn P w K tg (Its x) [it] it (λi h=>h.IsStrIter it ty x t i) where
 mem:=by simp
 obj:=λi h st b hb=>by
  have e:b=it:=by simpa using hb
  subst e
  obtain⟨o,e,c,d⟩:=st
  exact⟨o,e,λv z=>by rw[d] at z;cases z⟩
 keep:=λi h h' st k=>let ⟨o,e,c⟩:=st;⟨o,k it (by simp) o e,c⟩
 item:=by
  intro X hP hw hK hc i pins s σ H E I hf st hg
  subst hP hw hK
  obtain⟨f0,f1,f2,f3,f4,f5⟩:=hf it (by simp)
  refine (W X.A (I.ok.hd hc)).item i s _ _ hg st λv h' tk hv st' kk=>?_
  obtain⟨c,u,hx,rfl⟩:=hv
  have I1:Inv X pins σ H { s with heap:=h',toks:=tk }:=I.turned (λb o hb e=>kk b o (by simpa using hb) e) f0 f1 f3 f4 f5
  obtain⟨o,e,cc,d⟩:=id st'
  exact⟨_,rfl,go_of (s:={ s with heap:=h',toks:=tk }) e cc d hty ⟨.str ⟨#[c]⟩,H,I1,⟨u,rfl⟩,⟨rfl,c,hx,rfl⟩,st',λb hb=>(hf b hb).1⟩⟩
 done:=by
  intro X hP hw hK hc i pins s σ H E I hf st hg
  subst hP hw hK
  obtain⟨f0,f1,f2,f3,f4,f5⟩:=hf it (by simp)
  have hn:x.cps[i]?=none:=by
   have:x.cps.size≤i:=hg
   simpa using this
  exact en X.A s i _ _ (I.ok.hd hc) st hn λh' eb=>⟨rfl,I.turned (t':=s.toks) (λb o hb e=>eb b o hb e) f0 f1 f3 f4 f5⟩
 self:=λA i s Q E st h=>sf A s i Q E st h
theorem pi_str {pins:List (Addr×Obj)} {s:Shared} {σ:L2.St} {H:Hp} {tg:Expr} {R:It→Hp→Prop} {x:Str} {t:Tok} (I:Inv X pins σ H s) (h:R (Its x) H) :
 wpAny (model X.prog X.w) X.A (pyIter (.str x t)) (PIE X pins σ tg R) X.xe s:=by
 have fp:∀b∈[s.heap.objs.size],FpOk X pins H b:=λb hb=>by
  rcases List.mem_cons.mp hb with rfl | hb
  ·exact I.fpOk (Nat.le_refl _) (I.hok.fresh (Nat.le_refl _))
  ·cases hb
 cases ha:x.cps.all (· < 128)
 ·refine wpAny_pyIter_wide ha ?_
  exact⟨s.heap.objs.size,[s.heap.objs.size],_,Its x,H,rfl,I.kept (t':=s.toks) λb u e=>Heap.get?_push_of_some _ e,turn_str "str_iterator" _ x t (by decide) (λA hA=>Walks.strWide hA _ x t) (λA s i Q E hA st hx k=>wpAny_pyNext_wide_end hA st hx k) (λA s i Q E st k=>wpAny_pyIter_striter_wide st k),⟨_,Heap.get?_push_size _ rfl,rfl,rfl⟩,fp,h⟩
 ·refine wpAny_pyIter_ascii ha ?_
  exact⟨s.heap.objs.size,[s.heap.objs.size],_,Its x,H,rfl,I.kept (t':=s.toks) λb u e=>Heap.get?_push_of_some _ e,turn_str "str_ascii_iterator" _ x t (by decide) (λA hA=>Walks.strAscii hA _ x t) (λA s i Q E hA st hx k=>wpAny_pyNext_ascii_end hA st hx k) (λA s i Q E st k=>wpAny_pyIter_striter_ascii st k),⟨_,Heap.get?_push_size _ rfl,rfl,rfl⟩,fp,h⟩
end
end Tr
namespace Tr
open PySem PySem.Spec PyProof.Rows L2
section
variable {prog:Program} {w:World} {A:Around} {E:Value→Shared→Prop} {s:Shared}
theorem nextOf_tup {it t:Addr} {i:Nat} {items:Array Value} {x:Value} {Q:Value→Shared→Prop} (hit:s.heap.IsTupleIter it t i) (ht:s.heap.IsTuple t items) (hx:items[i]?=some x)
 (hQ:∀h',h'.IsTupleIter it t (i+1)→Heap.SameBut it s.heap h'→Q x { s with heap:=h' }):wpAny (model prog w) A (Builtin.SmallTypes.nextOf (.ref it)) Q E s:=by
 obtain⟨o,ho,hc,hd⟩:=id hit
 obtain⟨ol,hol,_,nl,hdl⟩:=ht
 unfold Builtin.SmallTypes.nextOf
 refine wpAny_bind (wpAny_callSpecial?_slot (name:=Str.ofString "__next__") hit.typeIs F.slot_tuple_iterator_next
  (wpAny_call_entry F.slot_tuple_iterator_next hit.typeIs F.entry_tuple_iterator_next ?_ (F.args_tuple_iterator_next_1 _)))
 show wpAny _ _ (field (.ref it) 0>>=_) _ _ s
 refine wpAny_bind (wpAny_field ho hd (x:=.ref t) rfl ?_)
 show wpAny _ _ (if (Value.ref t==Value.none)=true then _ else _) _ _ s
 rw[if_neg (show ¬((Value.ref t==Value.none)=true) from Bool.false_ne_true)]
 show wpAny _ _ (field (.ref it) 1>>=_) _ _ s
 refine wpAny_bind (wpAny_field ho hd (x:=.int i 0) rfl ?_)
 show wpAny _ _ (seqItems? (.ref t)>>=_) _ _ s
 refine wpAny_bind (wpAny_seqItems hol hdl ?_)
 simp only[Int.toNat_natCast,hx]
 refine wpAny_bind (wpAny_setField ho hd (by simp) (wpAny_pure ⟨x,rfl,wpAny_pure (hQ _ ?_ (Heap.SameBut.update ..))⟩))
 exact⟨_,Heap.get?_update_self _ ho (Obj.isFreed_of_fields (Obj.data_mapFields hd _)),(Obj.cls_mapFields ..).trans hc,by
  rw[Obj.data_mapFields hd];simp[rawInt]⟩
theorem nextOf_tup_end {it t:Addr} {i:Nat} {items:Array Value} {Q:Value→Shared→Prop} (hh:A.handled=none) (hit:s.heap.IsTupleIter it t i) (ht:s.heap.IsTuple t items) (hx:items[i]?=none)
 (hE:∀h' e,Heap.ExtBut it s.heap h'→(∃o,h'.get? e=some o∧o.cls=.type "StopIteration")→E (.ref e) { s with heap:=h' }):wpAny (model prog w) A (Builtin.SmallTypes.nextOf (.ref it)) Q E s:=by
 obtain⟨o,ho,hc,hd⟩:=id hit
 obtain⟨ol,hol,_,nl,hdl⟩:=ht
 unfold Builtin.SmallTypes.nextOf
 refine wpAny_bind (wpAny_callSpecial?_slot (name:=Str.ofString "__next__") hit.typeIs F.slot_tuple_iterator_next
  (wpAny_call_entry F.slot_tuple_iterator_next hit.typeIs F.entry_tuple_iterator_next ?_ (F.args_tuple_iterator_next_1 _)))
 show wpAny _ _ (field (.ref it) 0>>=_) _ _ s
 refine wpAny_bind (wpAny_field ho hd (x:=.ref t) rfl ?_)
 show wpAny _ _ (if (Value.ref t==Value.none)=true then _ else _) _ _ s
 rw[if_neg (show ¬((Value.ref t==Value.none)=true) from Bool.false_ne_true)]
 show wpAny _ _ (field (.ref it) 1>>=_) _ _ s
 refine wpAny_bind (wpAny_field ho hd (x:=.int i 0) rfl ?_)
 show wpAny _ _ (seqItems? (.ref t)>>=_) _ _ s
 refine wpAny_bind (wpAny_seqItems hol hdl ?_)
 simp only[Int.toNat_natCast,hx]
 refine wpAny_bind (wpAny_rule (wpAny_bind (wpAny_setField ho hd (by simp) ?_)))
 show wpAny _ _ (newExc (.type "StopIteration") []>>=_) _ _ _
 refine wpAny_bind ?_
 simp only[newExc,newTuple]
 refine wpAny_bind (wpAny_newObj_type ?_ (by size_fits))
 refine wpAny_bind (m:=firstArgMember _ _) (wpAny_of_eq (a:=Value.none) (by first | rfl | (simp only[firstArgMember];rfl)) ?_)
 refine wpAny_newObj_type ?_ (by size_fits)
 simp only[raiseNew]
 refine wpAny_bind (wpAny_handled ?_)
 first | rw[show A.in1.handled=none from hh] | rw[hh]
 refine wpAny_bind (wpAny_pure (wpAny_throw ?_))
 exact hE _ _ (((Heap.SameBut.update ..).extBut.push _).push _) ⟨_,Heap.get?_push_size _ rfl,rfl⟩
end
theorem tup_at {h h':Heap} {a:Addr} {items:Array Value} (x:h.IsTuple a items) (e:∀o,h.get? a=some o→h'.get? a=some o):h'.IsTuple a items:=let ⟨o,ho,r⟩:=x;⟨o,e _ ho,r⟩
theorem draws_tup {prog:Program} {w:World} {A:Around} (hh:A.handled=none) (it t:Addr) (hne:t≠it) (items:Array Value) :
 Draws prog w A it [it,t] items.size (λi v=>items[i]?=some v) (λi h=>h.IsTupleIter it t i∧h.IsTuple t items) where
 live:=λ_ _ st=>let ⟨o,ho,_⟩:=st.1;⟨o,ho⟩
 frame:=λ_ _ _ st hk=>⟨st.1.at λo e=>hk it (by simp) o e,tup_at st.2 λo e=>hk t (by simp) o e⟩
 item:=λi s Q E hi st hQ=>nextOf_tup st.1 st.2 (x:=items[i]) (by simp[hi]) λh' hit' hs'=>hQ _ h' s.toks (by simp[hi]) ⟨hit',st.2.extBut hs'.extBut hne⟩ hs'
 done:=λs Q E st hE=>nextOf_tup_end hh st.1 st.2 (by simp) hE
theorem meets_enum_tup (l:Addr) (items:Array Value) (n:Nat) (dct:Option Addr) (sl:Array (Option Value)) :
 Meets (Builtin.«enumerate.__new__» ⟨[.type "enumerate", .ref l],[]⟩) (λ_ R s=>s.heap.get? l=some { cls:=.type "tuple", dict:=dct,data:=.seq items n,slots:=sl } ∧
  R (.ok (.ret (.ref (s.heap.push { cls:=.type "tuple_iterator", data:=.fields #[.ref l,.int 0 0] }).objs.size)))
   { s with heap:=(s.heap.push { cls:=.type "tuple_iterator", data:=.fields #[.ref l,.int 0 0] }).push { cls:=.type "enumerate", data:=.fields #[.none,.bool false,.ref s.heap.objs.size,rawInt 0,.none,.none] } }) :=
 .of_wp λprog w A R s h=>by
  obtain⟨hp,g,d,tk,os⟩:=s;obtain⟨hl,h⟩:=h
  have hsub:=sub_enumerate
  have hL:Heap.IsTuple (Shared.heap ⟨hp,g,d,tk,os⟩) l items:=⟨_,hl,rfl,n,rfl⟩
  wp_walk using AutoSeq1.wpAny_loadPart' hl
  refine wpAny_stack_any λst=>wpAny_pure ?_
  split
  ·rename_i c _ _ _ _ _
   cases (c==Value.type "enumerate")
   ·wp_walk using AutoSeq1.wpAny_loadPart' hl,wpAny_pyIter_tuple hL
    exact⟨_,rfl,h⟩
   ·wp_walk using AutoSeq1.wpAny_loadPart' hl,wpAny_pyIter_tuple hL
    exact⟨_,rfl,h⟩
  ·wp_walk using AutoSeq1.wpAny_loadPart' hl,wpAny_pyIter_tuple hL
   exact⟨_,rfl,h⟩
theorem call_enum_tup {prog:Program} {w:World} {A:Around} {E:Value→Shared→Prop} {s:Shared} {l:Addr} {items:Array Value} {Q:Value→Shared→Prop} (hL:s.heap.IsTuple l items)
 (h:∀h',IsEnum h' (s.heap.objs.size+1) s.heap.objs.size 0 .none→h'.IsTupleIter s.heap.objs.size l 0→h'.objs.size=s.heap.objs.size+2 →
  (∀b o,s.heap.get? b=some o→h'.get? b=some o)→Q (.ref (s.heap.objs.size+1)) { s with heap:=h' }) :
 wpAny (model prog w) A (call (.type "enumerate") [.ref l]) Q E s:=by
 obtain⟨⟨c,dct,dt,sl⟩,hl,hc,n,hd⟩:=hL
 replace hc:c=.type "tuple" := hc
 replace hd:dt=.seq items n:=hd
 subst hc hd
 refine callType_new F.called_enumerate (by decide) (F.typeCall_enumerate_1 _) (F.newCall_enumerate_1 _) (λobj=>F.args_object_init_2 obj _) F.entry_enumerate_new
  (meets_enum_tup l items n dct sl) ⟨hl,?_⟩
 have hz:(s.heap.push { cls:=.type "tuple_iterator", data:=.fields #[.ref l,.int 0 0] }).objs.size=s.heap.objs.size+1:=Heap.size_push ..
 show _∧_
 rw[hz]
 have he:IsEnum ((s.heap.push { cls:=.type "tuple_iterator", data:=.fields #[.ref l,.int 0 0] }).push
  { cls:=.type "enumerate", data:=.fields #[.none,.bool false,.ref s.heap.objs.size,rawInt 0,.none,.none] }) (s.heap.objs.size+1) s.heap.objs.size 0 .none:=by
  have:=Heap.get?_push_size (s.heap.push { cls:=.type "tuple_iterator", data:=.fields #[.ref l,.int 0 0] })
   (o:={ cls:=.type "enumerate", data:=.fields #[.none,.bool false,.ref s.heap.objs.size,rawInt 0,.none,.none] }) rfl
  rw[hz] at this;exact this
 refine⟨⟨_,he,rfl⟩,h _ he ⟨_,Heap.get?_push_of_some _ (Heap.get?_push_size _ rfl),rfl,rfl⟩ (by rw[Heap.size_push,hz]) λb o x=>Heap.get?_push_of_some _ (Heap.get?_push_of_some _ x)⟩
end Tr
namespace Tr
open PySem PySem.Spec PyProof.Rows L2 PySem.SeqAt
theorem forRange {M:Model} {A:Around} {E:Value→Shared→Prop} {s:Shared} {β:Type} {a b:Nat} (f:Nat→β→Sem (ForInStep β)) (I:Nat→β→Shared→Prop) (Q:β→Shared→Prop)
 (turn:∀i c s,a≤i→i < b→I i c s→wpAny M A (f i c) (λr s'=>match r with | .yield c'=>I (i+1) c' s' | .done c'=>Q c' s') E s)
 (fin:∀c s,I (max a b) c s→Q c s) (c:β) (h:I a c s):wpAny M A (forIn [a:b] c f) Q E s:=by
 rw[Std.Legacy.Range.forIn_eq_forIn_range']
 have hsz:([a:b]:Std.Legacy.Range).size=b - a:=by simp[Std.Legacy.Range.size]
 show wpAny M A (forIn (List.range' a ([a:b]:Std.Legacy.Range).size 1) c f) Q E s
 rw[hsz]
 refine wpAny_forIn_list f (λl c s=>∃i,a≤i∧i≤max a b∧l=List.range' i (max a b - i) 1∧I i c s) Q ?_ ?_ _ c ⟨a,Nat.le_refl _,by lia,by congr 1;lia,h⟩
 ·rintro x rest c s ⟨i,hai,hib,hl,hI⟩
  have hlt:i < max a b:=by
   rcases Nat.lt_or_ge i (max a b) with h' | h'
   ·exact h'
   ·rw[show max a b - i=0 by lia] at hl;simp at hl
  obtain⟨n,hn⟩:∃n,max a b - i=n+1:=⟨max a b - i - 1,by lia⟩
  rw[hn,List.range'_succ] at hl
  obtain⟨rfl,rfl⟩:=List.cons.inj hl
  refine wpAny_mono (turn x c s hai (by lia) hI) (λr s' h'=>?_) λ_ _ h'=>h'
  cases r with
  | done c'=>exact h'
  | yield c'=>exact⟨x+1,by lia,by lia,by congr 1;lia,h'⟩
 ·rintro c s ⟨i,hai,hib,hl,hI⟩
  have:i=max a b:=by
   rcases Nat.lt_or_ge i (max a b) with h' | h'
   ·obtain⟨n,hn⟩:∃n,max a b - i=n+1:=⟨max a b - i - 1,by lia⟩
    rw[hn,List.range'_succ] at hl;simp at hl
   ·lia
  subst this;exact fin _ _ hI
theorem tup_index (l:Addr) (items:Array Value) (n:Nat) (dd:Option Addr) (sl:Array (Option Value)) (x:Value) (e:Value→Bool) (j:Nat) (hj:j < items.size) (h1:e items[j]=true) (h2:∀i (h:i < items.size),i < j→e items[i]=false) :
 Meets (Builtin.«tuple.index» ⟨[.ref l,x],[]⟩)
  (λA R s=>s.heap.get? l=some { cls:=.type "tuple", dict:=dd,data:=.seq items n,slots:=sl }∧(∀y,y∈items→EqAt A.in1 s y x (e y))∧R (.ok (.ret (.int j s.toks))) { s with toks:=s.toks+1 }) :=
 .of_wp λprog w A R s h=>by
  obtain⟨hp,g,d,tk,os⟩:=s;obtain⟨hl,he,h⟩:=h
  wp_walk using AutoSeq1.wpAny_loadPart' hl,forRange _ (λi b s'=>b.1=none∧s'=⟨hp,g,d,tk,os⟩∧i≤j) _
  case turn =>
   rintro i b s' - hi ⟨hb,rfl,hij⟩
   have hi':i < items.size:=by lia
   have e1:items[i]?=some items[i]:=by simp[hi']
   rw[e1]
   refine wpAny_bind (he items[i] (by simp) prog w _ _ ?_)
   by_cases hy:i=j
   ·subst hy
    rw[h1]
    wp_walk
    exact⟨_,rfl,by simpa using h⟩
   ·rw[h2 i hi' (by lia)]
    wp_walk
    exact⟨rfl,rfl,by lia⟩
  case fin =>
   rintro⟨b1,b2⟩ s' ⟨hb,rfl,hij⟩
   lia
  case h =>
   exact⟨rfl,rfl,Nat.zero_le _⟩
noncomputable def ModS (K:PySem.W.Frag) (a:Addr) (ss:List Str):Prop:=∃(o:Obj) (its:Array Value) (n:Nat),K.lookup a=some o∧o.cls=.type "tuple" ∧ o.dict=none∧o.data=.seq its n∧Vals (ss.map V.str) its.toList
noncomputable def rIdx (K:PySem.W.Frag):V→List V→Hp→VK→Prop:=λx vs H Q=>∃a ss z,x=.ref a∧vs=[.str z]∧ModS K a ss∧z∈ss∧Q (.int (ss.idxOf z:Nat)) H
noncomputable def isStrV (z:Str):Value→Bool
 | .str y _=>y==z
 | _=>false
theorem ne_before {z:Str}:∀ {ss:List Str} {i:Nat} {y:Str},i < ss.idxOf z→ss[i]?=some y→(y==z)=false
 | n::r,0,y,h,e=>by
  by_cases q:n=z
  ·subst q;simp at h
  ·simp at e;subst e;simpa using q
 | n::r,i+1,y,h,e=>by
  by_cases q:n=z
  ·subst q;simp at h
  ·have hb:(n==z)=false:=by simpa using q
   rw[List.idxOf_cons,hb] at h
   exact ne_before (Nat.lt_of_succ_lt_succ h) (by simpa using e)
theorem mt_index {X:Cx}:MtR X "tuple.index" (rIdx X.K):=by
 intro pins s σ H x vs v us Q I rx rv h
 obtain⟨a,ss,z,rfl,rfl,⟨⟨cls,dd,dt,sl⟩,its,n,hk,hc,hd,hs,hv⟩,hz,q⟩:=h
 cases rx
 obtain⟨u,rfl,ru⟩:=rv.one
 obtain⟨t,rfl⟩:=ru
 have ho:=I.kIn a _ hk
 replace hc:cls=.type "tuple" := hc
 replace hs:dt=.seq its n:=hs
 subst hc hs
 have hl:its.size=ss.length:=by rw[←Array.length_toList,←hv.length,List.length_map]
 have hj:ss.idxOf z < ss.length:=List.idxOf_lt_length_iff.mpr hz
 have at_:∀i (hi:i < its.size),∃y t',ss[i]?=some y∧its[i]=.str y t':=λi hi=>by
  have h1:(ss.map V.str)[i]?=some (.str ss[i]):=by rw[List.getElem?_map,List.getElem?_eq_getElem (by lia)];rfl
  obtain⟨u,h2,t',h3⟩:=hv.get h1
  have h4:its[i]?=some u:=by rw[←Array.getElem?_toList];exact h2
  have h5:its[i]=u:=by
   have:=Array.getElem?_eq_getElem hi
   rw[this] at h4;cases h4;rfl
  exact⟨ss[i],t',List.getElem?_eq_getElem (by lia),by rw[h5,h3]⟩
 refine call_meets PySem.F.slot_tuple_index ⟨_,ho,rfl⟩ PySem.F.entry_tuple_index (PySem.F.args_tuple_index_2 _ _)
  (tup_index a its n dd sl (.str z t) (isStrV z) (ss.idxOf z) (by lia) ?_ ?_) ⟨ho,λy hy=>?_,?_⟩
 ·obtain⟨y,t',h1,h2⟩:=at_ (ss.idxOf z) (by lia)
  rw[h2]
  rw[List.getElem?_eq_getElem hj,List.getElem_idxOf hj] at h1
  cases h1
  show (z==z)=true
  simp
 ·intro i hi hlt
  obtain⟨y,t',h1,h2⟩:=at_ i hi
  rw[h2]
  exact ne_before hlt h1
 ·obtain⟨i,hi,rfl⟩:=Array.mem_iff_getElem.mp hy
  obtain⟨y,t',h1,h2⟩:=at_ i hi
  rw[h2]
  exact EqAt.str_str y t' z t
 ·exact⟨.int _,H,I.kept (t':=s.toks+1) (λb o e=>e),⟨_,rfl⟩,q⟩
end Tr
namespace Tr
open PySem PySem.Spec PyProof.Rows L2
noncomputable def met (val:Nat→Key):Nat→List Key
 | 0=>[]
 | i+1=>if (met val i).any (λx=>decide (x=val i)) then met val i else met val i++[val i]
theorem met_le (val:Nat→Key):∀i,(met val i).length≤i
 | 0=>Nat.le_refl _
 | i+1=>by
  have ih:=met_le val i
  rw[met]
  split
  ·lia
  ·rw[List.length_append,List.length_singleton];lia
theorem met_any (val:Nat→Key) (i:Nat) (k:Key):(met val (i+1)).any (λx=>decide (x=k))=((met val i).any (λx=>decide (x=k))||decide (k=val i)):=by
 rw[met]
 split
 ·rename_i h
  by_cases e:k=val i
  ·subst e;rw[h];simp
  ·simp[e]
 ·rw[List.any_append]
  by_cases e:k=val i
  ·subst e;simp
  ·have e':¬val i=k:=λh=>e h.symm
   simp[e,e']
theorem met_len (val:Nat→Key) (i:Nat):(met val (i+1)).length=if (met val i).any (λx=>decide (x=val i)) then (met val i).length else (met val i).length+1:=by
 rw[met];split<;>simp
section
variable {prog:Program} {w:World} {A:Around} {R:Result→Shared→Prop} {I:Addr} {fp wr:List Addr} {G:Array GenState→Array GenState→Prop} {n:Nat} {P:Nat→Value→Prop} {St:Nat→Shared→Prop}
theorem set_loop (W:WalksS prog w A.in1 I fp wr G n P St) (S:Addr) (hSf:S∉fp) (val:Nat→Key) (hval:∀i v,P i v→(mixKind prog w).is (val i) v=true∧v.scannable=true) (hb:n+1 < scanBound) :
 ∀(k i:Nat) (s:Shared),n - i=k→i≤n→St i s →
  s.heap.SetOf (mixKind prog w) S (λk'=>(met val i).any (λx=>decide (x=k'))) (met val i).length →
  (∀s',Moved (S::wr) G s s'→s'.heap.SetOf (mixKind prog w) S (λk'=>(met val n).any (λx=>decide (x=k'))) (met val n).length→R (.ok (.ret .none)) s') →
  codeAny (model prog w) A (.builtin "set.update.loop" ⟨[.ref S,.ref I],[]⟩) R s:=by
 have hSw:S∉wr:=λh=>hSf (W.sub _ h)
 have hsub:∀b∈wr,b∈S::wr:=λb hb=>List.mem_cons_of_mem _ hb
 intro k
 induction k with
 | zero =>
  intro i s hk hi hst hS hR
  have hin:i=n:=by lia
  subst hin
  refine codeAny_builtin PyProof.Rows.F.entry_set_update_loop ?_
  rw[Around.under_plainId PyProof.Rows.F.plain_set_update_loop _]
  show wpAny _ A.in1 (pyNext (.ref I)>>=_) _ _ s
  refine wpAny_bind (W.done s _ _ hst λs' hm=>?_)
  show wpAny _ A.in1 (ret Value.none) _ _ s'
  exact wpAny_pure (hR s' (hm.mono hsub) (by
   obtain⟨o,es,ep,t,ho,rest⟩:=hS
   exact⟨o,es,ep,t,hm.heap S _ hSw ho,rest⟩))
 | succ k ih =>
  intro i s hk hi hst hS hR
  have hlt:i < n:=by lia
  refine codeAny_builtin PyProof.Rows.F.entry_set_update_loop ?_
  rw[Around.under_plainId PyProof.Rows.F.plain_set_update_loop _]
  show wpAny _ A.in1 (pyNext (.ref I)>>=_) _ _ s
  refine wpAny_bind (W.item i s _ _ hlt hst λv s' hP hst' hm=>?_)
  obtain⟨hv,hsc⟩:=hval i v hP
  have hS':s'.heap.SetOf (mixKind prog w) S (λk'=>(met val i).any (λx=>decide (x=k'))) (met val i).length:=by
   obtain⟨o,es,ep,tb,ho,rest⟩:=hS
   exact⟨o,es,ep,tb,hm.heap S _ hSw ho,rest⟩
  show wpAny _ A.in1 (holding [v] (setAdd S v)>>=_) _ _ s'
  refine wpAny_bind (wpAny_holding ?_)
  unfold setAdd
  refine wpAny_holding ?_
  refine wpAny_bind ((mixKind prog w).pyHash (k:=val i) hv ?_)
  have hroom:(met val i).length+1 < scanBound:=by have:=met_le val i;lia
  refine wpAny_setAddHashed_of (knd:=mixKind prog w) (s:={ s' with toks:=s'.toks+1 }) hv hsc hS' hroom λh' hsb hS2=>?_
  have hSi:h'.SetOf (mixKind prog w) S (λk'=>(met val (i+1)).any (λx=>decide (x=k'))) (met val (i+1)).length:=by
   have e1:(λk'=>(met val (i+1)).any (λx=>decide (x=k')))=(λk'=>(met val i).any (λx=>decide (x=k'))||decide (k'=val i)):=funext λk'=>met_any val i k'
   rw[e1,met_len]
   exact hS2
  refine wpAny_pure ⟨plainId_quiet PyProof.Rows.F.plain_set_update_loop _,ih (i+1) _ (by lia) hlt (W.frame _ s' _ _ hst' (Nat.le_succ _) λb hb o e=>?_) hSi λs'' hm'' hS''=>?_⟩
  ·rw[hsb.2 b (λh:b=S=>hSf (by rw[←h];exact hb))];exact e
  ·refine hR s'' (Moved.trans W.gtrans ((hm.mono hsub).then_heap (Nat.le_succ _) λb o hb e=>?_) hm'') hS''
   rw[hsb.2 b (λh:b=S=>hb (by rw[h];exact List.mem_cons_self))];exact e
end
section
variable {prog:Program} {w:World} {A:Around} {E:Value→Shared→Prop} {s:Shared}
set_option maxHeartbeats 3200000 in
theorem call_set_lst {l:Addr} {items:Array Value} {val:Nat→Key} {Q:Value→Shared→Prop} (hh:A.handled=none) (hl:s.heap.IsList l items) (hval:∀i v,items[i]?=some v→(mixKind prog w).is (val i) v=true∧v.scannable=true) (hb:items.size+1 < scanBound)
 (h:∀(h':Heap) (tk:Nat),h'.SetOf (mixKind prog w) s.heap.objs.size (λk'=>(met val items.size).any (λx=>decide (x=k'))) (met val items.size).length →
  (∀b o,b < s.heap.objs.size→s.heap.get? b=some o→h'.get? b=some o)→Q (.ref s.heap.objs.size) { s with heap:=h',toks:=tk }) :
 wpAny (model prog w) A (call (.type "set") [.ref l]) Q E s:=by
 obtain⟨c,tl,hmro⟩:=F.called_set.mro
 have hmade:=F.called_set.made
 have hsub:=F.called_set.sub
 refine wpAny_call (codeAny_of_tree ?_)
 show wpAny _ _ (callAny (.type "set") _) _ _ _
 refine wpAny_pure ⟨Code.quiet_builtin _ (by decide +kernel),codeAny_builtin F.entry_type_call ?_⟩
 rw[Around.under_plain (weight_type_call_type "set" [.ref l] []) rfl]
 have h1:=F.called_set.notType
 have h2:=F.called_set.canCreate
 have hct:=F.typeCall_set_1 (.ref l)
 repeat (any_goals (first | assumption | wp_step))
 refine codeAny_mono (code_set_new_1 (.ref l) (E:=E) (Q₁:=λobj s₁=>∃led:Bool,obj=.ref s.heap.objs.size∧s₁={ s with heap:=s.heap.push { cls:=.type "set", dict:=none,data:=.set #[] 0 (.fresh 0 0 led) } }) λled=>⟨led,rfl,rfl⟩) λr s₁ hr=>?_
 cases r with
 | error e=>exact hr
 | ok fl =>
  cases fl with
  | ret obj =>
   obtain⟨led,rfl,rfl⟩:=hr
   have hS:(s.heap.push { cls:=.type "set", dict:=none,data:=.set #[] 0 (.fresh 0 0 led) }).get? s.heap.objs.size=some { cls:=.type "set", dict:=none,data:=.set #[] 0 (.fresh 0 0 led) }:=Heap.get?_push_size _ rfl
   have hT:Shared.TypeIs { s with heap:=s.heap.push { cls:=.type "set", dict:=none,data:=.set #[] 0 (.fresh 0 0 led) } } (.ref s.heap.objs.size) "set" := ⟨_,hS,rfl⟩
   have hli:=F.called_set.init.lookup
   have hbi:=F.called_set.init.bind (.ref s.heap.objs.size)
   repeat (any_goals (first | assumption | wp_step))
   refine codeAny_mono (codeAny_call_builtin (R:=wants (λr s₂=>r=.none∧∃h' tk,s₂={ s with heap:=h',toks:=tk } ∧
    h'.SetOf (mixKind prog w) s.heap.objs.size (λk'=>(met val items.size).any (λx=>decide (x=k'))) (met val items.size).length ∧
    (∀b o,b < s.heap.objs.size→s.heap.get? b=some o→h'.get? b=some o)) E) F.called_set.init.plain F.entry_set_init (check_set_init_1 hT ?_)) λr₂ s₂ hr₂=>?_
   ·generalize hpu:s.heap.push { cls:=.type "set", dict:=none,data:=.set #[] 0 (.fresh 0 0 led) }=hp1 at *
    have hz:hp1.objs.size=s.heap.objs.size+1:=by rw[←hpu];exact Heap.size_push ..
    have hold:∀b o,s.heap.get? b=some o→hp1.get? b=some o:=λb o e=>by rw[←hpu];exact Heap.get?_push_of_some _ e
    obtain⟨ol,hol,hcl,nl,hdl⟩:=hl
    obtain⟨ocls,odict,odata,oslots⟩:=ol
    simp only at hcl hdl
    subst hcl;subst hdl
    have hol':hp1.get? l=some { cls:=.type "list", dict:=odict,data:=.seq items nl,slots:=oslots }:=hold _ _ hol
    have hsls:=F.sub_list_set
    have hslf:=F.sub_list_frozenset
    have hne:(Value.type "list" == Value.type "dict")=false:=by decide
    have hl1:hp1.IsList l items:=⟨_,hol',rfl,nl,rfl⟩
    have hlS:l < s.heap.objs.size:=Heap.lt_size hol
    have hneI:l≠hp1.objs.size:=by rw[hz];exact Nat.ne_of_lt (Nat.lt_succ_of_lt hlS)
    unfold Builtin.«set.__init__» noKeywords Builtin.Frozenset.updateFrom
    generalize hPI:pyIter=PI
    wp_walk
    subst hPI
    refine wpAny_pyIter_list hl1 ?_
    refine wpAny_bind (wpAny_runValue ?_)
    have hh3:A.in1.in1.in1.handled=none:=by simp[hh]
    refine set_loop ((Walks.list hh3 _ l hneI items).toS) s.heap.objs.size (by rw[hz];simp only[List.mem_cons,List.mem_singleton,List.not_mem_nil,or_false,not_or];exact⟨Nat.ne_of_lt (Nat.lt_succ_self _),Nat.ne_of_gt hlS⟩) val hval hb (items.size - 0) 0 _ (by lia) (Nat.zero_le _) ⟨⟨_,Heap.get?_push_size _ rfl,rfl,rfl⟩,(hl1.push _)⟩ ?hS0 ?hR
    case hS0 =>
     have hget:(hp1.push { cls:=.type "list_iterator", data:=.fields #[.ref l,.int 0 0] }).get? s.heap.objs.size
      = some { cls:=.type "set", dict:=none,data:=.set #[] 0 (.fresh 0 0 led) }:=Heap.get?_push_of_some _ hS
     letI:BEq Key:=instBEqOfDecidableEq
     haveI:LawfulBEq Key:=inferInstance
     exact (PyProof.Rows.setObjOf_fresh (knd:=mixKind prog w) led).setOf hget (by unfold scanBound;lia)
    case hR =>
     intro s' hm hS'
     obtain⟨h',g',d',tk',os'⟩:=s'
     have eg:g'=s.gens:=hm.gens
     have ed:d'=s.drawn:=hm.drawn
     have eo:os'=s.os:=hm.os
     subst eg;subst ed;subst eo
     show wpAny _ _ _ _ _ _
     refine wpAny_pure ?_
     show wpAny _ _ (ret Value.none) _ _ _
     refine wpAny_pure ⟨rfl,h',tk',rfl,hS',λb o hb e=>?_⟩
     have hb1:b≠s.heap.objs.size:=Nat.ne_of_lt hb
     have hb2:b≠hp1.objs.size:=by rw[hz];exact Nat.ne_of_lt (Nat.lt_succ_of_lt hb)
     exact hm.heap b o (by simp only[List.mem_cons,List.mem_singleton,List.not_mem_nil,or_false,not_or];exact⟨hb1,hb2⟩) (Heap.get?_push_of_some _ (hold _ _ e))
   ·cases r₂ with
    | error e=>exact hr₂
    | ok fl₂ =>
     cases fl₂ with
     | ret r =>
      obtain⟨rfl,h',tk,rfl,hS',hk'⟩:=hr₂
      repeat (any_goals (first | assumption | wp_step))
      exact h _ _ hS' hk'
     | _=>exact hr₂.elim
  | _=>exact hr.elim
end
section
variable {prog:Program} {w:World} {A:Around} {E:Value→Shared→Prop} {s:Shared}
set_option maxHeartbeats 3200000 in
theorem call_set_str {x:Str} {t:Tok} {val:Nat→Key} {Q:Value→Shared→Prop} (hh:A.handled=none) (hval:∀i v,SignAt x i v→(mixKind prog w).is (val i) v=true∧v.scannable=true) (hb:x.cps.size+1 < scanBound)
 (h:∀(h':Heap) (tk:Nat),h'.SetOf (mixKind prog w) s.heap.objs.size (λk'=>(met val x.cps.size).any (λx=>decide (x=k'))) (met val x.cps.size).length →
  (∀b o,b < s.heap.objs.size→s.heap.get? b=some o→h'.get? b=some o)→Q (.ref s.heap.objs.size) { s with heap:=h',toks:=tk }) :
 wpAny (model prog w) A (call (.type "set") [.str x t]) Q E s:=by
 obtain⟨c,tl,hmro⟩:=F.called_set.mro
 have hmade:=F.called_set.made
 have hsub:=F.called_set.sub
 refine wpAny_call (codeAny_of_tree ?_)
 show wpAny _ _ (callAny (.type "set") _) _ _ _
 refine wpAny_pure ⟨Code.quiet_builtin _ (by decide +kernel),codeAny_builtin F.entry_type_call ?_⟩
 rw[Around.under_plain (weight_type_call_type "set" [.str x t] []) rfl]
 have h1:=F.called_set.notType
 have h2:=F.called_set.canCreate
 have hct:=F.typeCall_set_1 (.str x t)
 repeat (any_goals (first | assumption | wp_step))
 refine codeAny_mono (code_set_new_1 (.str x t) (E:=E) (Q₁:=λobj s₁=>∃led:Bool,obj=.ref s.heap.objs.size∧s₁={ s with heap:=s.heap.push { cls:=.type "set", dict:=none,data:=.set #[] 0 (.fresh 0 0 led) } }) λled=>⟨led,rfl,rfl⟩) λr s₁ hr=>?_
 cases r with
 | error e=>exact hr
 | ok fl =>
  cases fl with
  | ret obj =>
   obtain⟨led,rfl,rfl⟩:=hr
   have hS:(s.heap.push { cls:=.type "set", dict:=none,data:=.set #[] 0 (.fresh 0 0 led) }).get? s.heap.objs.size=some { cls:=.type "set", dict:=none,data:=.set #[] 0 (.fresh 0 0 led) }:=Heap.get?_push_size _ rfl
   have hT:Shared.TypeIs { s with heap:=s.heap.push { cls:=.type "set", dict:=none,data:=.set #[] 0 (.fresh 0 0 led) } } (.ref s.heap.objs.size) "set" := ⟨_,hS,rfl⟩
   have hli:=F.called_set.init.lookup
   have hbi:=F.called_set.init.bind (.ref s.heap.objs.size)
   repeat (any_goals (first | assumption | wp_step))
   refine codeAny_mono (codeAny_call_builtin (R:=wants (λr s₂=>r=.none∧∃h' tk,s₂={ s with heap:=h',toks:=tk } ∧
    h'.SetOf (mixKind prog w) s.heap.objs.size (λk'=>(met val x.cps.size).any (λx=>decide (x=k'))) (met val x.cps.size).length ∧
    (∀b o,b < s.heap.objs.size→s.heap.get? b=some o→h'.get? b=some o)) E) F.called_set.init.plain F.entry_set_init (check_set_init_1 hT ?_)) λr₂ s₂ hr₂=>?_
   ·generalize hpu:s.heap.push { cls:=.type "set", dict:=none,data:=.set #[] 0 (.fresh 0 0 led) }=hp1 at *
    have hz:hp1.objs.size=s.heap.objs.size+1:=by rw[←hpu];exact Heap.size_push ..
    have hold:∀b o,s.heap.get? b=some o→hp1.get? b=some o:=λb o e=>by rw[←hpu];exact Heap.get?_push_of_some _ e
    have hsls:=PySem.F.sub_str_set
    have hslf:=PySem.F.sub_str_frozenset
    have hne:(Value.type "str" == Value.type "dict")=false:=by decide
    unfold Builtin.«set.__init__» noKeywords Builtin.Frozenset.updateFrom
    generalize hPI:pyIter=PI
    wp_walk
    subst hPI
    refine wpAny_pyIter_str λito St hW st0=>?_
    refine wpAny_bind (wpAny_runValue ?_)
    have hh3:A.in1.in1.in1.handled=none:=by simp[hh]
    refine set_loop ((hW _ hh3).toS) s.heap.objs.size (by show s.heap.objs.size∉[hp1.objs.size];rw[hz];simp only[List.mem_singleton];exact Nat.ne_of_lt (Nat.lt_succ_self _)) val hval hb (x.cps.size - 0) 0 _ (by lia) (Nat.zero_le _) st0 ?hS0 ?hR
    case hS0 =>
     have hget:(hp1.push ito).get? s.heap.objs.size
      = some { cls:=.type "set", dict:=none,data:=.set #[] 0 (.fresh 0 0 led) }:=Heap.get?_push_of_some _ hS
     letI:BEq Key:=instBEqOfDecidableEq
     haveI:LawfulBEq Key:=inferInstance
     exact (PyProof.Rows.setObjOf_fresh (knd:=mixKind prog w) led).setOf hget (by unfold scanBound;lia)
    case hR =>
     intro s' hm hS'
     obtain⟨h',g',d',tk',os'⟩:=s'
     have eg:g'=s.gens:=hm.gens
     have ed:d'=s.drawn:=hm.drawn
     have eo:os'=s.os:=hm.os
     subst eg;subst ed;subst eo
     show wpAny _ _ _ _ _ _
     refine wpAny_pure ?_
     show wpAny _ _ (ret Value.none) _ _ _
     refine wpAny_pure ⟨rfl,h',tk',rfl,hS',λb o hb e=>?_⟩
     have hb1:b≠s.heap.objs.size:=Nat.ne_of_lt hb
     have hb2:b≠hp1.objs.size:=by rw[hz];exact Nat.ne_of_lt (Nat.lt_succ_of_lt hb)
     exact hm.heap b o (by simp only[List.mem_cons,List.mem_singleton,List.not_mem_nil,or_false,not_or];exact⟨hb1,hb2⟩) (Heap.get?_push_of_some _ (hold _ _ e))
   ·cases r₂ with
    | error e=>exact hr₂
    | ok fl₂ =>
     cases fl₂ with
     | ret r =>
      obtain⟨rfl,h',tk,rfl,hS',hk'⟩:=hr₂
      repeat (any_goals (first | assumption | wp_step))
      exact h _ _ hS' hk'
     | _=>exact hr₂.elim
  | _=>exact hr.elim
end
noncomputable def KeysV (K:PySem.W.Frag) (H:Hp) (v:V) (ks:List Key):Prop:=(∃a,v=.ref a∧SqL K H a (ks.map kV))∨∃x:Str,v=.str x∧ks=x.cps.toList.map λc=>.inr ⟨#[c]⟩
theorem met_take (ks:List Key):∀n,n≤ks.length→met (λi=>ks.getD i (.inl 0)) n=metD (ks.take n)
 | 0,_=>by rw[List.take_zero];rfl
 | n+1,h=>by
  have ih:=met_take ks n (by lia)
  have e:ks.take (n+1)=ks.take n++[ks.getD n (.inl 0)]:=by
   rw[List.take_succ,List.getD_eq_getElem?_getD,List.getElem?_eq_getElem (by lia:n < ks.length)]
   rfl
  rw[met,ih,e]
  unfold metD
  rw[List.foldl_append]
  rfl
theorem met_all (ks:List Key):met (λi=>ks.getD i (.inl 0)) ks.length=metD ks:=by rw[met_take ks _ (Nat.le_refl _),List.take_length]
theorem keyIs_of {P:Program} {w:World} {k:Key} {v:Value} (r:RelV (kV k) v):(mixKind P w).is k v=true∧v.scannable=true:=by
 cases k with
 | inl i=>obtain⟨t,rfl⟩:=(show ∃t,v=.int i t from r);exact⟨mixKind_int P w i t,rfl⟩
 | inr x=>obtain⟨t,rfl⟩:=(show ∃t,v=.str x t from r);exact⟨mixKind_str P w x t,rfl⟩
theorem vals_ints:∀ {ns:List Int} {its:List Value},Vals (ns.map V.int) its→∃xs:List (Int×Tok),its=xs.map (λp=>Value.int p.1 p.2)∧xs.map (·.1)=ns
 | [],_,h=>by cases h;exact⟨[],rfl,rfl⟩
 | n::ns,_,h=>by
  cases h with
  | cons r rr =>
   obtain⟨t,rfl⟩:=r
   obtain⟨xs,rfl,e⟩:=vals_ints rr
   exact⟨(n,t)::xs,rfl,by rw[List.map_cons,e]⟩
section
variable {prog:Program} {w:World} {A:Around} {R:Result→Shared→Prop} {it:Addr} {fp wr:List Addr} {n:Nat} {P:Nat→Value→Prop} {St:Nat→Heap→Prop}
end
section
variable {prog:Program} {w:World} {A:Around} {E:Value→Shared→Prop} {s:Shared}
end
noncomputable def mk8 (val:Nat→Nat):Nat→Nat
 | 0=>0
 | i+1=>mk8 val i ||| 2^val i
section
variable {prog:Program} {w:World} {A:Around} {R:Result→Shared→Prop} {I:Addr} {fp wr:List Addr} {G:Array GenState→Array GenState→Prop} {n:Nat} {P:Nat→Value→Prop} {St:Nat→Shared→Prop}
end
section
variable {prog:Program} {w:World} {A:Around} {E:Value→Shared→Prop} {s:Shared}
end
section
variable {prog:Program} {w:World} {A:Around} {E:Value→Shared→Prop} {s:Shared}
end
section
variable {prog:Program} {w:World} {A:Around} {E:Value→Shared→Prop} {s:Shared}
end
section
variable {prog:Program} {w:World} {A:Around} {E:Value→Shared→Prop} {s:Shared}
end
section
variable {prog:Program} {w:World} {A:Around} {E:Value→Shared→Prop} {s:Shared}
end
section
variable {prog:Program} {w:World} {A:Around} {E:Value→Shared→Prop} {s:Shared} {l:Addr} {xs:Array (Int×Tok)}
end
noncomputable def m8 (ns:List Int):Nat:=mk8 (λi=>(ns.getD i 0).toNat) ns.length
section
variable {prog:Program} {w:World} {A:Around} {E:Value→Shared→Prop} {s:Shared} {l:Addr} {its:List Value}
end
end Tr
namespace Tr
open PySem
end Tr
namespace Tr
open PySem PySem.Spec PyProof.Rows L2
section
variable {prog:Program} {w:World} {A:Around} {E:Value→Shared→Prop} {s:Shared}
end
section
variable {prog:Program} {w:World} {A:Around} {E:Value→Shared→Prop} {s:Shared}
end
section
variable {prog:Program} {w:World} {A:Around} {R:Result→Shared→Prop} {I:Addr} {fp wr:List Addr} {G:Array GenState→Array GenState→Prop} {n:Nat} {P:Nat→Value→Prop} {St:Nat→Shared→Prop}
end
section
variable {prog:Program} {w:World} {A:Around} {E:Value→Shared→Prop} {s:Shared}
end
section
variable {prog:Program} {w:World} {A:Around} {E:Value→Shared→Prop} {s:Shared}
end
noncomputable def SetY (P:Program) (w:World) (p:Addr) (n:Nat):HO:=.ext λh=>∃S,h.SetOf (mixKind P w) p S n
noncomputable def SetsOf (K:PySem.W.Frag) (H:Hp) (v:V) (n:Nat):Prop :=
 ∃ks,KeysV K H v ks∧ks.length+1 < scanBound∧n=(metD ks).length
theorem call_setY {X:Cx} (hc:X.calm=true) (hr:X.A.units+64 < cLine):CallR X (.type "set") (λvs H Q=>∃v n,vs=[v]∧SetsOf X.K H v n∧∀p,H p=none→Q (.ref p) (upd H p (SetY X.prog X.w p n))):=by
 intro pins s σ H vs us Q I rv h
 obtain⟨v,n,rfl,hk,q⟩:=h
 obtain⟨u,rfl,ru⟩:=rv.one
 have fin:∀(h':Heap) (tk:Nat),(∃S,h'.SetOf (mixKind X.prog X.w) s.heap.objs.size S n)→(∀b o,b < s.heap.objs.size→s.heap.get? b=some o→h'.get? b=some o)→EP X pins σ Q (.ref s.heap.objs.size) { s with heap:=h',toks:=tk }:=by
  intro h' tk hS hkeep
  have fr:H s.heap.objs.size=none:=I.hok.fresh (Nat.le_refl _)
  refine⟨.ref s.heap.objs.size,_,I.laid (t':=tk) (λb o e=>hkeep b o (Heap.lt_size e) e) (Nat.le_refl _) ?_,rfl,q _ fr⟩
  refine⟨hS,?_,λh1 h2 p1 k=>?_⟩
  ·obtain⟨S,o,_,_,_,e,_⟩:=hS
   exact⟨o,e⟩
  ·obtain⟨S,o,es,ep,t,e,r⟩:=p1
   exact⟨S,o,es,ep,t,k o e,r⟩
 rcases hk with ⟨ks,⟨a,rfl,hS⟩ | ⟨x,rfl,rfl⟩,hb,rfl⟩
 ·cases ru
  obtain⟨its,r,pl,hz⟩:=I.list hS
  have hl:its.toArray.size=ks.length:=by rw[List.size_toArray,←r.length,List.length_map]
  refine call_set_lst (val:=λi=>ks.getD i (.inl 0)) (I.ok.hd hc) pl.isList (λi v hv=>?_) (by rw[hl];exact hb) λh' tk hS' hkeep=>?_
  ·have hi:i < ks.length:=by
    rw[←hl]
    rcases Nat.lt_or_ge i its.toArray.size with z | z
    ·exact z
    ·rw[Array.getElem?_eq_none z] at hv;cases hv
   have h1:(ks.map kV)[i]?=some (kV ks[i]):=by rw[List.getElem?_map,List.getElem?_eq_getElem hi];rfl
   obtain⟨u,h2,h3⟩:=r.get h1
   have h4:u=v:=by
    have:its[i]?=some v:=by simpa using hv
    rw[h2] at this;cases this;rfl
   subst h4
   show (mixKind X.prog X.w).is (ks.getD i (.inl 0)) u=true∧_
   rw[List.getD_eq_getElem?_getD,List.getElem?_eq_getElem hi]
   exact keyIs_of h3
  ·rw[hl,met_all] at hS'
   exact fin h' tk ⟨_,hS'⟩ hkeep
 ·obtain⟨t,rfl⟩:=ru
  have hl:x.cps.size=(x.cps.toList.map λc=>(Sum.inr ⟨#[c]⟩:Key)).length:=by rw[List.length_map,Array.length_toList]
  refine call_set_str (val:=λi=>(x.cps.toList.map λc=>(Sum.inr ⟨#[c]⟩:Key)).getD i (.inl 0)) (I.ok.hd hc) (λi v hv=>?_) (by rw[hl];exact hb) λh' tk hS' hkeep=>?_
  ·obtain⟨c,u,h1,rfl⟩:=hv
   have h2:x.cps.toList[i]?=some c:=by rw[Array.getElem?_toList];exact h1
   show (mixKind X.prog X.w).is ((x.cps.toList.map λc=>(Sum.inr ⟨#[c]⟩:Key)).getD i (.inl 0)) _=true∧_
   rw[List.getD_eq_getElem?_getD,List.getElem?_map,h2]
   exact⟨mixKind_str _ _ _ _,rfl⟩
  ·rw[hl,met_all] at hS'
   exact fin h' tk ⟨_,hS'⟩ hkeep
theorem call_lenY {X:Cx}:CallR X (.builtin "len") (λvs H Q=>∃p n,vs=[.ref p]∧H p=some (SetY X.prog X.w p n)∧Q (.int (n:Nat)) H):=by
 intro pins s σ H vs us Q I rv h
 obtain⟨p,n,rfl,hH,q⟩:=h
 obtain⟨u,rfl,ru⟩:=rv.one
 cases ru
 obtain⟨hz,_⟩:=I.hok p _ hH
 rcases hz with ⟨S,o,es,ep,t,e,hex,hd,_,_,hb,hf,hn⟩
 ·refine call_len_set e hex hd hf (by unfold scanBound at hb;lia) ?_
  exact⟨.int (n:Nat),H,I.kept (t':=s.toks+1+1) (λb o e=>e),⟨_,by rw[hn]⟩,q⟩
end Tr
namespace Tr
open PySem PySem.Spec PyProof.Rows L2 PySem.SeqAt
end Tr
namespace Tr
open PySem PySem.Spec PyProof.Rows L2 PySem.W
noncomputable def DkF (f:Obj→Obj):Prop:=∀o,(f o).dict=o.dict∧(f o).isFreed=o.isFreed
noncomputable def Dk {α:Type}:Sem α→Prop
 | .rule _ k=>Dk (k ())
 | .at _ k=>Dk (k ())
 | .point _ k=>Dk (k ())
 | .load _ _ k=>∀o,Dk (k o)
 | .loadIfAlive _ k=>∀o,Dk (k o)
 | .update _ _ f k=>DkF f∧Dk (k ())
 | .alloc _ k=>∀a,Dk (k a)
 | .fresh k=>∀x,Dk (k x)
 | .ask k=>∀x,Dk (k x)
 | .handled _ k=>∀x,Dk (k x)
 | .stack k=>∀x,Dk (k x)
 | .thread k=>∀x,Dk (k x)
 | .choose _ _ _=>False
 | .os _ _ _=>False
 | .call _ _ _ _ _=>False
 | .genState _ _=>False
 | .newGen _ _=>False
 | .resume _ _ _ _=>False
 | _=>True
noncomputable def DkH (h h':Heap):Prop:=∀b o,h.get? b=some o→∃o',h'.get? b=some o'∧o'.dict=o.dict
theorem DkH.refl (h:Heap):DkH h h:=λ_ o e=>⟨o,e,rfl⟩
theorem DkH.trans {h1 h2 h3:Heap} (x:DkH h1 h2) (y:DkH h2 h3):DkH h1 h3:=λb o e=>by
 obtain⟨o2,e2,d2⟩:=x b o e
 obtain⟨o3,e3,d3⟩:=y b o2 e2
 exact⟨o3,e3,d3.trans d2⟩
theorem DkH.push (h:Heap) (o:Obj):DkH h (h.push o):=λb u e=>⟨u,Heap.get?_push_of_some _ e,rfl⟩
theorem DkH.upd {h:Heap} {a:Addr} {f:Obj→Obj} (hf:DkF f):DkH h (h.update a f):=λb u e=>by
 by_cases hb:a=b
 ·subst hb
  obtain⟨d,z⟩:=hf u
  have alive:u.isFreed=false:=(Heap.get?_some_iff.mp e).2
  exact⟨f u,Heap.get?_update_self f e (by rw[z];exact alive),d⟩
 ·exact⟨u,(Heap.get?_update_other h f hb).trans e,rfl⟩
theorem dk_bind {α β:Type} {f:α→Sem β} (hf:∀a,Dk (f a)):∀ {m:Sem α},Dk m→Dk (m.bind f):=by
 intro m
 induction m with
 | pure a=>exact λ_=>hf a
 | rule _ k ih | «at» _ k ih | point _ k ih=>exact λh=>ih () h
 | load _ _ k ih | loadIfAlive _ k ih | alloc _ k ih | fresh k ih | ask k ih | handled _ k ih | stack k ih | thread k ih=>exact λh x=>ih x (h x)
 | update _ _ g k ih=>exact λh=>⟨h.1,ih () h.2⟩
 | choose _ _ _ _ | os _ _ _ _ | call _ _ _ _ _ _ | genState _ _ _ | newGen _ _ _ | resume _ _ _ _ _=>exact λh=>h.elim
 | raise _ | unsupported _ | finish _ | register _ _ _ | yield _ _ _ _ _ | fork _ _ _ | await _ _ _ _ _ _=>exact λ_=>trivial
theorem wp_dk {α:Type} {M:Model} {Γ:PySem.Ctx} {Q:α→Pos→Shared→Prop} {E:Value→Pos→Shared→Prop} {h0:Heap}:∀(t:Sem α) (p:Pos) (s:Shared),Dk t→DkH h0 s.heap→Sem.wp M Γ t Q E p s →
 Sem.wp M Γ t (λa p' s'=>Q a p' s'∧DkH h0 s'.heap) (λe p' s'=>E e p' s'∧DkH h0 s'.heap) p s:=by
 intro t
 induction t with
 | pure a=>exact λp s _ k h=>⟨h,k⟩
 | raise e=>exact λp s _ k h=>⟨h,k⟩
 | unsupported _ | finish _ | register _ _ _ | yield _ _ _ _ _ | fork _ _ _ | await _ _ _ _ _ _=>exact λp s _ _ h=>h.elim
 | rule _ k ih | point _ k ih=>exact λp s d kk h=>ih () p s d kk h
 | «at» q k ih=>exact λp s d kk h=>ih () q s d kk h
 | load a _ k ih=>exact λp s d kk ⟨o,ho,h⟩=>⟨o,ho,ih o p s (d o) kk h⟩
 | loadIfAlive a k ih=>exact λp s d kk h=>ih _ p s (d _) kk h
 | update a _ f k ih=>exact λp s d kk ⟨ha,h⟩=>⟨ha,ih () p _ d.2 (kk.trans (DkH.upd d.1)) h⟩
 | alloc o k ih=>exact λp s d kk h=>ih _ p _ (d _) (kk.trans (DkH.push _ o)) h
 | fresh k ih=>exact λp s d kk h=>ih _ p { s with toks:=s.toks+1 } (d _) kk h
 | ask k ih=>exact λp s d kk h=>ih _ p s (d _) kk h
 | handled _ k ih=>exact λp s d kk h=>ih _ p s (d _) kk h
 | stack k ih=>exact λp s d kk h=>ih _ p s (d _) kk h
 | thread k ih=>exact λp s d kk h=>ih _ p s (d _) kk h
 | choose _ _ _ _ | os _ _ _ _ | call _ _ _ _ _ _ | genState _ _ _ | newGen _ _ _ | resume _ _ _ _ _=>exact λp s d=>d.elim
theorem wpAny_dk {α:Type} {M:Model} {A:Around} {t:Sem α} {Q:α→Shared→Prop} {E:Value→Shared→Prop} {s:Shared} (d:Dk t) (h:wpAny M A t Q E s):wpAny M A t (λa s'=>Q a s'∧DkH s.heap s'.heap) (λe s'=>E e s'∧DkH s.heap s'.heap) s :=
 λΓ p hΓ=>wp_dk t p s d (DkH.refl _) (h Γ p hΓ)
section
variable {α β:Type}
theorem dkb {m:Sem α} {f:α→Sem β} (hm:Dk m) (hf:∀a,Dk (f a)):Dk (m>>=f):=dk_bind hf hm
theorem dkp {a:α}:Dk (pure a:Sem α):=trivial
theorem dku {w:String}:Dk (unsupported w:Sem α):=trivial
theorem dk_load (a:Addr):Dk (load a):=λ_=>trivial
theorem dk_stack:Dk stack:=λ_=>trivial
theorem dk_fieldsOf (v:Value):Dk (fieldsOf v):=by
 unfold fieldsOf
 repeat (first | exact dk_load _ | exact dkp | exact dku | exact trivial | assumption | (refine dkb ?_ ?_) | (intro _) | split)
theorem dk_field (v:Value) (i:Nat):Dk (PySem.field v i):=by
 unfold PySem.field
 repeat (first | exact dk_fieldsOf _ | exact dkp | exact dku | exact trivial | assumption | (refine dkb ?_ ?_) | (intro _) | split)
theorem dk_update {a:Addr} {f:Obj→Obj} (hf:DkF f):Dk (update a f):=⟨hf,trivial⟩
theorem dkf_map (g:Array Value→Array Value):DkF (Obj.mapFields g):=λo=>by
 obtain⟨c,d,x,s⟩:=o
 cases x<;>exact⟨rfl,rfl⟩
theorem dkf_slots (g:Obj→Array (Option Value)):DkF (λo=>{ o with slots:=g o }):=λo=>⟨rfl,by obtain⟨c,d,x,s⟩:=o;cases x<;>rfl⟩
theorem dk_setField (v:Value) (i:Nat) (x:Value):Dk (setField v i x):=by
 unfold setField
 split
 ·unfold updateField
  repeat (first | exact dk_load _ | exact dk_update (dkf_map _) | exact dkp | exact dku | exact trivial | assumption | (refine dkb ?_ ?_) | (intro _) | split)
 ·exact trivial
theorem dk_setFlight (e:Value) (f:Option Addr):Dk (setFlight e f):=by
 unfold setFlight
 repeat (first | exact dk_field _ _ | exact dk_setField _ _ _ | exact dkp | exact dku | exact trivial | assumption | (refine dkb ?_ ?_) | (intro _) | split)
theorem dk_frameEnvs:Dk frameEnvs:=by
 unfold frameEnvs
 repeat (first | exact dk_stack | exact dkp | exact dku | exact trivial | assumption | (refine dkb ?_ ?_) | (intro _) | split)
theorem dk_ready:∀l:List Env,Dk (readyFrames l)
 | []=>trivial
 | env::outer=>by
  have ih:=dk_ready outer
  unfold readyFrames behindIsImport keptBack
  repeat (first | exact dk_load _ | exact dk_field _ _ | exact ih | exact dk_stack | exact dk_update (dkf_slots _) | exact dkp | exact dku | exact trivial | assumption | (refine dkb ?_ ?_) | (intro _) | split)
theorem dk_frameObject (l:List Env):Dk (frameObject l):=by
 cases l with
 | nil=>exact trivial
 | cons env outer =>
  unfold frameObject
  repeat (first | exact dk_ready _ | exact dkp | exact dku | exact trivial | assumption | (refine dkb ?_ ?_) | (intro _) | split)
theorem dk_frameOf (env:Env):Dk (PySem.frameOf env):=by
 unfold PySem.frameOf
 repeat (first | exact dk_frameEnvs | exact dk_frameObject _ | exact dkp | exact dku | exact trivial | assumption | (refine dkb ?_ ?_) | (intro _) | split)
theorem dk_entryPlace (f:Addr) (b:Bool):Dk (entryPlaceOf f b):=by
 unfold entryPlaceOf
 repeat (first | exact dk_stack | exact dkp | exact dku | exact trivial | assumption | (refine dkb ?_ ?_) | (intro _) | split)
theorem dk_newFields (t:String) (vs:List Value):Dk (newFields t vs):=by
 unfold newFields newObj newObjAsIs
 repeat (first | (exact λ_=>trivial) | exact dkp | exact dku | exact trivial | assumption | (refine dkb ?_ ?_) | (intro _) | split)
theorem dk_newEntry (a b c d e:Value) (l:List Value):Dk (EntryCells.newEntry a b c d e l):=by
 unfold EntryCells.newEntry
 exact dk_newFields _ _
theorem dk_noteFrame (e:Value) (env:Env):Dk (noteFrame e env):=by
 unfold noteFrame
 repeat (first | exact dk_field _ _ | exact dk_setField _ _ _ | exact dk_frameOf _ | exact dk_entryPlace _ _ | exact dk_newEntry _ _ _ _ _ _ | exact dkp | exact dku | exact trivial | assumption | (refine dkb ?_ ?_) | (intro _) | split)
theorem dk_leaving (env:Env) (e:Value):Dk (leaving env e):=by
 unfold leaving
 exact dkb (dk_noteFrame _ _) λ_=>dk_setFlight _ _
end
section
variable {P:Program} {w:World} {H H':Hp} {h h':Heap} {a:Addr} {o:HO}
theorem objOk_obj (x:ObjOk P w H h a o):∃u,h.get? a=some u:=by
 cases o with
 | lst xs=>obtain⟨_,_,_,_,e⟩:=x;exact⟨_,e⟩
 | tup xs=>obtain⟨_,_,_,u,e,_⟩:=x;exact⟨_,e⟩
 | dK kvs=>obtain⟨_,_,_,_,o,_,_,e,_⟩:=x;exact⟨_,e⟩
 | dT kvs=>obtain⟨_,_,_,_,o,_,_,e,_⟩:=x;exact⟨_,e⟩
 | set S n=>obtain⟨o,_,_,_,e,_⟩:=x;exact⟨_,e⟩
 | ins C dx fs=>obtain⟨_,_,_,e,_⟩:=x;exact⟨_,e⟩
 | own y=>obtain⟨_,e⟩:=x;exact⟨_,e⟩
 | xd fs=>obtain⟨_,⟨_,_,_,e,_⟩,_⟩:=x;exact⟨_,e⟩
 | rng lo hi=>obtain⟨_,_,_,e⟩:=x;exact⟨_,e⟩
 | frz ob u=>obtain⟨e,_⟩:=x;exact⟨_,e⟩
 | tbl ps=>exact⟨_,(show h.get? a=some _ from x)⟩
 | met f y=>exact⟨_,(show h.get? a=some _ from x)⟩
 | ext φ=>obtain⟨_,⟨_,e⟩,_⟩:=x;exact⟨_,e⟩
theorem hok_at (x:HOk P w H h) (k:∀b u o,H b=some o→h.get? b=some u→h'.get? b=some u):HOk P w H h':=λa o e =>
 (x a o e).stay (λb u hb q=>by
  rcases hb with rfl | hb
  ·exact k _ u _ e q
  ·exact k b u _ hb q) (λ_ q=>q) λ_ _ q=>q
end
noncomputable def CXE (P:Program) (w:World):CXT:=λouter H s E ev s'=>∃(ea:Addr) (cls a0:Value) (H':Hp) (B:Heap),ev=.ref ea∧s'.os=s.os∧AllBare s'.gens∧Un (frs outer) [] H H' s.heap s'.heap∧HOk P w H' s'.heap ∧
 s.heap.get? ea=none∧H' ea=none∧Heap.FlyingW B outer ea cls a0 s'.heap∧(∀b o,s.heap.get? b=some o→b∉frs outer→∃u,B.get? b=some u)∧(∀b o,H' b=some o→∃u,B.get? b=some u)∧∃od,(∃oe,s'.heap.get? ea=some oe∧oe.dict=od)∧E cls od H'
theorem passE0 {P:Program} {w:World} {X:Cx}:Passes (CXE P w) X E0:=by
 intro _ _ _ _ _ _ _ h
 obtain⟨_,_,_,_,_,_,_,_,_,_,_,_,_,_,_,_,_,z⟩:=h
 exact z.elim
section
variable {P:Program} {w:World} {K:PySem.W.Frag} {mg:Str→Option Value} {base:Heap} {N:List Str} {qual:Str} {scope:Scope} {f:Addr} {cd:Value} {A:Around} {outer:List Env} {s₀:Shared} {H₀:Hp} {E:XK}
theorem not_frame {X:Cx} {pins:List (Addr×Obj)} {σ:L2.St} {H:Hp} {s:Shared} (I:Inv X pins σ H s) {b:Addr} {o:Obj} (e:X.s₀.heap.get? b=some o) (hb:b∉X.fs):b∉frs X.stack:=λz=>by
 rcases List.mem_cons.mp (I.stkSub b z) with q | q
 ·have:=Nat.lt_of_lt_of_le (Heap.lt_size e) I.ok.above
  rw[q] at this
  exact absurd this (Nat.lt_irrefl _)
 ·exact hb q
theorem raise_xeD {pins:List (Addr×Obj)} {σ:L2.St} {H:Hp} {s:Shared} {e:Addr} {oe:Obj} {vs:Array Value} {a0:Value}
 (I:Inv (cxOf (CXE P w) P w K mg base N qual scope f cd A outer s₀ H₀ E) pins σ H s) (he:s.heap.get? e=some oe) (hd:oe.data=.fields vs) (h1:vs[1]?=some .none) (h0:vs[0]?=some a0) (hn:H e=none) (hs:s₀.heap.get? e=none) (hE:E oe.cls oe.dict H) :
 (cxOf (CXE P w) P w K mg base N qual scope f cd A outer s₀ H₀ E).xe (.ref e) s:=by
 have hst:=I.stack
 have enf:e∉frs (cxOf (CXE P w) P w K mg base N qual scope f cd A outer s₀ H₀ E).stack:=λz=>by
  obtain⟨_,o2,ho2,hd2⟩:=hst.mem z
  rw[he] at ho2;cases ho2
  exact hd2 vs hd
 obtain⟨hid,ehid⟩:∃l:List Addr,l=e::frs (cxOf (CXE P w) P w K mg base N qual scope f cd A outer s₀ H₀ E).stack:=⟨_,rfl⟩
 have hin:∀env∈(cxOf (CXE P w) P w K mg base N qual scope f cd A outer s₀ H₀ E).stack,∀a,env.frame=some a→a∈hid:=λenv hm a ha=>by
  rw[ehid];exact List.mem_cons_of_mem _ (List.mem_filterMap.mpr ⟨env,hm,ha⟩)
 have there:∀b o,s₀.heap.get? b=some o→∃o',s.heap.get? b=some o':=λb o q=>I.base.there b o q (λz=>by cases z)
 have eh:e∈hid:=by rw[ehid];exact List.mem_cons_self
 have first:=wpAny_leaving_firstW (M:=model P w) (E:=λe' s''=>CXE P w outer H₀ s₀ E e' s'') (base:=hideAll s.heap hid) (s:=s) (Q:=λ_ s''=>∃h',s''={ s with heap:=h' }∧Heap.LeftW (hideAll s.heap hid) (cxOf (CXE P w) P w K mg base N qual scope f cd A outer s₀ H₀ E).stack e oe.cls a0 s.heap h')
  I.ok.frames (funFrames_hide hst hin) rfl he (λb o q=>of_hideAll _ q) (hideAll_none _ eh) hd h1 h0 λh' hL=>⟨h',rfl,hL⟩
 refine wpAny_mono (wpAny_dk (dk_leaving _ _) first) (λ_ s'' hq=>?_) λ_ _ z=>z.1
 obtain⟨⟨h'',rfl,k1,k2,k3,k4⟩,dk⟩:=hq
 have keep:∀b u,s.heap.get? b=some u→b∉hid→h''.get? b=some u:=λb u q hb=>k1 b u (hideAll_get _ q hb)
 have nin:∀b,b≠e→b∉frs (cxOf (CXE P w) P w K mg base N qual scope f cd A outer s₀ H₀ E).stack→b∉hid:=λb x1 x2 z=>by
  rw[ehid] at z
  rcases List.mem_cons.mp z with z | z
  ·exact x1 z
  ·exact x2 z
 have trk:∀b o,H b=some o→b∉hid:=λb o q=>nin b (λz=>by rw[z,hn] at q;cases q) λz=>by rw[I.stkFree b z] at q;cases q
 have slots:∀b u,s.heap.get? b=some u→b∈frs (cxOf (CXE P w) P w K mg base N qual scope f cd A outer s₀ H₀ E).stack→∃sl,h''.get? b=some { u with slots:=sl }:=λb u q hb=>by
  obtain⟨_,o2,ho2,hd2⟩:=hst.mem hb
  rw[q] at ho2;cases ho2
  exact k4 b u q hd2
 have old:∀b o,s₀.heap.get? b=some o→b≠e:=λb o q z=>by rw[z,hs] at q;cases q
 have fl:Heap.FlyingW (hideAll s.heap hid) outer e oe.cls a0 h'':=⟨k1,hideAll_none _ eh,k2.2.2,k3⟩
 refine⟨e,oe.cls,a0,H,_,rfl,I.os,I.bare,⟨?_,?_,?_,?_,?_,?_,?_⟩,?_,hs,hn,fl,?_,?_,oe.dict,dk e oe he,hE⟩
 ·intro b o q n hb _
  exact keep b o (I.base.keep b o q n hb (λz=>by cases z)) (nin b (old b o q) (not_frame I q hb))
 ·intro b o q n hb _
  obtain⟨sl,q2⟩:=I.base.slot b o q n hb (λz=>by cases z)
  obtain⟨sl',q3⟩:=slots b _ q2 (List.mem_filterMap.mpr (by
   obtain⟨env,hm,ha⟩:=List.mem_filterMap.mp hb
   exact⟨env,List.mem_cons_of_mem _ hm,ha⟩))
  exact⟨sl',q3⟩
 ·intro b o q n _
  exact I.base.free b o q n (λz=>by cases z)
 ·intro b o q _
  obtain⟨o',q2⟩:=there b o q
  by_cases hb:b∈frs (cxOf (CXE P w) P w K mg base N qual scope f cd A outer s₀ H₀ E).stack
  ·obtain⟨sl',q3⟩:=slots b _ q2 hb
   exact⟨_,q3⟩
  ·exact⟨o',keep b o' q2 (nin b (old b o q) hb)⟩
 ·exact I.base.tups
 ·exact I.base.frzs
 ·exact I.base.tbls
 ·exact hok_at I.hok λb u o q1 q2=>keep b u q2 (trk b o q1)
 ·intro b o q hb
  obtain⟨o',q2⟩:=there b o q
  exact⟨o',hideAll_get _ q2 (nin b (old b o q) (not_frame I q hb))⟩
 ·intro b o q
  obtain⟨u,q2⟩:=objOk_obj (I.hok b o q)
  exact⟨u,hideAll_get _ q2 (trk b o q)⟩
theorem raise_xe {pins:List (Addr×Obj)} {σ:L2.St} {H:Hp} {s:Shared} {h':Heap} {e:Addr} {cls:Value} {args:List Value}
 (I:Inv (cxOf (CXE P w) P w K mg base N qual scope f cd A outer s₀ H₀ E) pins σ H s) (hx:Heap.MadeExcOf s.heap h' e cls args) (hE:E cls none H) :
 (cxOf (CXE P w) P w K mg base N qual scope f cd A outer s₀ H₀ E).xe (.ref e) { s with heap:=h' }:=by
 obtain⟨t,ht,_,_⟩:=hx.there
 refine raise_xeD (s:={ s with heap:=h' }) (I.kept (t':=s.toks) hx.keeps) ht rfl rfl rfl ?_ ?_ hE
 ·cases q:H e with
  | none=>rfl
  | some o=>obtain⟨u,q2⟩:=objOk_obj (I.hok e o q);rw[hx.new] at q2;cases q2
 ·cases q:s₀.heap.get? e with
  | none=>rfl
  | some o=>obtain⟨o',q2⟩:=I.base.there e o q (λz=>by cases z);rw[hx.new] at q2;cases q2
theorem pass_xe:Passes (CXE P w) (cxOf (CXE P w) P w K mg base N qual scope f cd A outer s₀ H₀ E) E:=by
 rintro pins σ H s ev s' I ⟨ea,cls,a0,H',B,rfl,os,bare,un,hok,new,free,fl,hB,hT,od,dO,hE⟩
 have there:∀b o,s₀.heap.get? b=some o→∃o',s.heap.get? b=some o':=λb o q=>I.base.there b o q (λz=>by cases z)
 have first:=wpAny_leaves_onW (M:=model P w) (E:=λe' s''=>CXE P w outer H₀ s₀ E e' s'') (Q:=λ_ s''=>∃h',s''={ s' with heap:=h' }∧Heap.FlyingW B outer ea cls a0 h'∧s'.heap.UpToSlots h') I.ok.frames rfl fl λh' y1 y2=>⟨h',rfl,y1,y2⟩
 refine wpAny_mono (wpAny_dk (dk_leaving _ _) first) (λ_ s'' hq=>?_) λ_ _ z=>z.1
 obtain⟨⟨h'',rfl,x1,x4⟩,dk⟩:=hq
 have dO':∃oe,h''.get? ea=some oe∧oe.dict=od:=by
  obtain⟨oe,y1,y2⟩:=dO
  obtain⟨o2,y3,y4⟩:=dk ea oe y1
  exact⟨o2,y3,y4.trans y2⟩
 have keepB:∀b u,s'.heap.get? b=some u→(∃v,B.get? b=some v)→h''.get? b=some u:=λb u q hz__=>by
  obtain⟨v,hv⟩:=hz__
  have:=fl.1 b v hv
  rw[q] at this;cases this
  exact x1.1 b u hv
 have slots:∀b u,s'.heap.get? b=some u→b∈frs (cxOf (CXE P w) P w K mg base N qual scope f cd A outer s₀ H₀ E).stack→∃sl,h''.get? b=some { u with slots:=sl }:=λb u q hb=>by
  obtain⟨_,o',ho',hd⟩:=fl.2.2.1.mem hb
  rw[q] at ho';cases ho'
  exact x4 b u q hd
 have sub:∀b,b∈frs outer→b∈frs (cxOf (CXE P w) P w K mg base N qual scope f cd A outer s₀ H₀ E).stack:=λb hb=>by
  obtain⟨env,he,hf⟩:=List.mem_filterMap.mp hb
  exact List.mem_filterMap.mpr ⟨env,List.mem_cons_of_mem _ he,hf⟩
 refine⟨ea,cls,a0,H',B,rfl,os.trans I.os,bare,⟨?_,?_,?_,?_,?_,?_,?_⟩,?_,?_,free,x1,?_,hT,od,dO',hE⟩
 ·intro b o q n hb _
  have q1:=I.base.keep b o q n hb (λz=>by cases z)
  have n1:=I.base.free b o q n (λz=>by cases z)
  have hb2:=not_frame I q hb
  exact keepB b o (un.keep b o q1 n1 hb2 (λz=>by cases z)) (hB b o q1 hb2)
 ·intro b o q n hb _
  obtain⟨sl,q1⟩:=I.base.slot b o q n hb (λz=>by cases z)
  have n1:=I.base.free b o q n (λz=>by cases z)
  obtain⟨sl2,q2⟩:=un.slot b _ q1 n1 (sub b hb) (λz=>by cases z)
  obtain⟨sl3,q3⟩:=slots b _ q2 (sub b hb)
  exact⟨sl3,q3⟩
 ·intro b o q n _
  obtain⟨o',q1⟩:=there b o q
  exact un.free b o' q1 (I.base.free b o q n (λz=>by cases z)) (λz=>by cases z)
 ·intro b o q _
  obtain⟨o',q1⟩:=there b o q
  obtain⟨o2,q2⟩:=un.there b o' q1 (λz=>by cases z)
  by_cases hb:b∈frs (cxOf (CXE P w) P w K mg base N qual scope f cd A outer s₀ H₀ E).stack
  ·obtain⟨sl,q3⟩:=slots b o2 q2 hb
   exact⟨_,q3⟩
  ·exact⟨o2,keepB b o2 q2 (hB b o' q1 hb)⟩
 ·exact λb xs q=>un.tups b xs (I.base.tups b xs q)
 ·exact λb o u q=>un.frzs b o u (I.base.frzs b o u q)
 ·intro b ps q
  obtain⟨m1,e1⟩:=I.base.tbls b ps q
  obtain⟨m2,e2⟩:=un.tbls b _ e1
  exact⟨m1++m2,by rw[e2,Array.append_assoc]⟩
 ·exact hok_at hok λb u o q1 q2=>keepB b u q2 (hT b o q1)
 ·cases q:s₀.heap.get? ea with
  | none=>rfl
  | some o=>obtain⟨o',q2⟩:=there ea o q;rw[new] at q2;cases q2
 ·intro b o q hb
  obtain⟨o',q2⟩:=there b o q
  exact hB b o' q2 (not_frame I q hb)
end
noncomputable abbrev bmV:List Value:=[.type "ValueError", .type "Exception", .type "BaseException", .type "object"]
noncomputable abbrev OwnV (x:Str) (C:Addr) (mg:Str→Option Value) (h:Heap):Prop:=OwnCls x C bmV "ValueError.__new__" mg h
section
variable {M:Model} {A:Around} {E:Value→Shared→Prop} {h:Heap} {g:Array GenState} {d:Drawn} {t:Nat} {os:OsState}
variable {nm q:Str} {C N:Addr} {bs bm:List Value} {hdct:Bool} {sn:List Str} {sub:List Value} {ab:Bool} {col:Option Bool} {dd:Option Addr} {k0 k1 k2 k3 k5:Option Value} {newId:String}
variable {nm' q':Str} {C' N':Addr} {bs' bm':List Value} {hdct':Bool} {sn':List Str} {sub':List Value} {ab':Bool} {col':Option Bool} {dd':Option Addr} {k0' k1' k2' k3' k5':Option Value} {newId':String}
theorem exc_matches_own {e:Addr} {oe:Obj} {b:Bool} {Q:Bool→Shared→Prop}
 (hC:h.get? C=some (excClassObj nm q C N bs bm hdct sn sub ab col dd k0 k1 k2 k3 k5 newId))
 (hC':h.get? C'=some (excClassObj nm' q' C' N' bs' bm' hdct' sn' sub' ab' col' dd' k0' k1' k2' k3' k5' newId'))
 (he:h.get? e=some oe) (hcls:oe.cls=.ref C) (hb':bm'.contains (.type "BaseException")=true) (hb:(Value.ref C::bm).contains (.ref C')=b)
 (hq:Q b ⟨h,g,d,t,os⟩):wpAny M A (excMatches (.ref e) (.ref C')) Q E ⟨h,g,d,t,os⟩:=by
 have w1:(Value.ref C'::bm').contains (.type "BaseException")=true:=by
  rw[List.contains_cons,hb',Bool.or_true]
 have w2:=tc_notTuple
 unfold excMatches
 repeat (first
  | (with_reducible refine wpAny_loadPart_at he ?_
     rw[hcls])
  | with_reducible refine wpAny_loadPart_at hC' ?_
  | (with_reducible refine wpAny_isSubtype_exc hC' ?_
     rw[w1])
  | (with_reducible refine wpAny_isSubtype_exc hC ?_
     rw[hb])
  | wp_step)
 all_goals (cases b<;>first | exact hq | (wp_walk;exact hq))
end
section
variable {X:Cx} {pins:List (Addr×Obj)} {σ:L2.St} {H:Hp} {s:Shared}
theorem name_goes {M:Model} {A:Around} {E:Value→Shared→Prop} {j:Nat} {n:Str} {pos:Pos} {Q:Unit→Shared→Prop} (I:Inv X pins σ H s) (hN:X.N.Nodup) (hj:X.N[j]?=some n) (hk:X.env.scope.names.lookup n=some .local)
 (h:∀s',Inv X pins (σ.set j none) H s'→Q () s'):wpAny M A (do bindName X.env n .none;unbindBehindTheSuite X.env n pos) Q E s:=by
 obtain⟨m,hn,hl⟩:=id I.loc
 have hcls:(X.env.scope.kind==.class||(X.env.scope.kind==.module&&X.env.locals != X.env.globals))=false:=by rw[I.ok.kind];rfl
 have hjσ:j < σ.length:=by rw[I.len];exact (List.getElem?_eq_some_iff.mp hj).1
 refine wpAny_nameGoes_keeps hk hn hcls λh' v hn' hs=>?_
 obtain⟨oL,_,_,hoL,_⟩:=id hn
 have far:∀ {b:Addr} {o:Obj},X.s₀.heap.get? b=some o→b≠X.env.locals:=λe=>Nat.ne_of_lt (Nat.lt_of_lt_of_le (Heap.lt_size e) I.ok.above)
 refine h _ ⟨I.ok,I.os,I.bare,⟨λb o e n hb hx=>?_,λb o e n hb hx=>?_,I.base.free,λb o e hx=>?_,I.base.tups,I.base.frzs,I.base.tbls⟩,⟨_,hn',λi y v' e1 e2 e3=>?_⟩,λy c e=>?_,I.free,I.freeC,λp hp=>?_,?_,by simpa using I.len⟩
 ·exact (hs.2 b (far e)).trans (I.base.keep b o e n hb hx)
 ·obtain⟨sl,e1⟩:=I.base.slot b o e n hb hx
  exact⟨sl,(hs.2 b (far e)).trans e1⟩
 ·obtain⟨o',e1⟩:=I.base.there b o e hx
  exact⟨o',(hs.2 b (far e)).trans e1⟩
 ·by_cases hi:i=j
  ·subst hi
   rw[List.getElem?_set_self hjσ] at e2
   cases e2
  ·rw[List.getElem?_set_ne (Ne.symm hi)] at e2
   obtain⟨u',r',q⟩:=hl i y v' e1 e2 e3
   refine⟨u',r',?_⟩
   rcases q with ⟨k,e⟩ | ⟨k,c,e,z⟩
   ·refine .inl ⟨k,?_⟩
    have:y≠n:=λe=>hi (nodup_ix hN e1 (e▸hj))
    simp[this,e]
   ·exact .inr ⟨k,c,e,z.sameBut hs (I.cne y c e)⟩
 ·obtain⟨w',z⟩:=I.cell y c e
  exact⟨w',z.sameBut hs (I.cne y c e)⟩
 ·obtain⟨e,n,ne,nf,d⟩:=I.pin p hp
  exact⟨(hs.2 p.1 ne).trans e,n,ne,nf,d⟩
 ·refine hok_at I.hok λb u o q1 q2=>(hs.2 b λz=>?_).trans q2
  rw[z,I.free] at q1;cases q1
theorem track {a:Addr} {o:HO} {u:Obj} (I:Inv X pins σ H s) (hn:H a=none) (h0:X.s₀.heap.get? a=none) (ha:s.heap.get? a=some u) (hl:a≠X.env.locals) (hc:∀x c,X.env.cells.lookup x=some c→c≠a) (hp:∀p∈X.pn++pins,p.1≠a)
 (new:ObjOk X.prog X.w (L2.upd H a o) s.heap a o):Inv X pins σ (L2.upd H a o) s where
 ok:=I.ok
 os:=I.os
 bare:=I.bare
 base:=⟨I.base.keep,I.base.slot,λb v e n hx=>by
  rw[upd_ne (λz=>by rw[z,h0] at e;cases e)];exact I.base.free b v e n hx,I.base.there,
  λb xs q=>by
   have:=I.base.tups b xs q
   rw[upd_ne (ne_of_none this hn)];exact this,
  λb v w q=>by
   have:=I.base.frzs b v w q
   rw[upd_ne (ne_of_none this hn)];exact this,
  λb ps q=>by
   obtain⟨m,e⟩:=I.base.tbls b ps q
   exact⟨m,by rw[upd_ne (ne_of_none e hn)];exact e⟩⟩
 loc:=I.loc
 cell:=I.cell
 free:=by rw[upd_ne (Ne.symm hl)];exact I.free
 freeC:=λx c e=>by rw[upd_ne (hc x c e)];exact I.freeC x c e
 pin:=λp hq=>by
  obtain⟨e,n,r⟩:=I.pin p hq
  exact⟨e,by rw[upd_ne (hp p hq)];exact n,r⟩
 hok:=λb v q=>by
  by_cases hb:b=a
  ·subst hb;rw[upd_same] at q;cases q;exact new
  ·rw[upd_ne hb] at q
   exact (I.hok b v q).stay (λ_ _ _ r=>r) (λc r=>by rw[upd_ne (ne_of_none r hn)];exact r) λc xs r=>by rw[upd_ne (ne_of_none r hn)];exact r
 len:=I.len
noncomputable def marked (X:Cx) (v:Value):Cx:={ X with A:=X.A.mark (some v),calm:=false }
theorem inv_marked (I:Inv X pins σ H s) (v:Value):Inv (marked X v) pins σ H s where
 ok:=⟨I.ok.mod,I.ok.kind,I.ok.glob,I.ok.blt,I.ok.above,I.ok.inj,I.ok.has,I.ok.cab,(λz=>by cases z),I.ok.frames,I.ok.stk,I.ok.exf,I.ok.bs,I.ok.bsz,I.ok.noex,I.ok.exfs,I.ok.funs,I.ok.frf⟩
 os:=I.os
 bare:=I.bare
 base:=I.base
 loc:=I.loc
 cell:=I.cell
 free:=I.free
 freeC:=I.freeC
 pin:=I.pin
 hok:=I.hok
 len:=I.len
theorem inv_unmarked {v:Value} (I:Inv (marked X v) pins σ H s) (hd:X.calm=true→X.A.handled=none):Inv X pins σ H s where
 ok:=⟨I.ok.mod,I.ok.kind,I.ok.glob,I.ok.blt,I.ok.above,I.ok.inj,I.ok.has,I.ok.cab,hd,I.ok.frames,I.ok.stk,I.ok.exf,I.ok.bs,I.ok.bsz,I.ok.noex,I.ok.exfs,I.ok.funs,I.ok.frf⟩
 os:=I.os
 bare:=I.bare
 base:=I.base
 loc:=I.loc
 cell:=I.cell
 free:=I.free
 freeC:=I.freeC
 pin:=I.pin
 hok:=I.hok
 len:=I.len
theorem landed {E:XK} {s':Shared} {h6:Heap} {ea:Addr} {H':Hp} {B:Heap} (I:Inv X pins σ H s) (os:s'.os=s.os) (bare:AllBare s'.gens) (un:Un (frs X.stack) [] H H' s.heap s'.heap) (hok:HOk X.prog X.w H' s'.heap)
 (hB:∀b o,s.heap.get? b=some o→b∉frs X.stack→∃u,B.get? b=some u) (hT:∀b o,H' b=some o→∃u,B.get? b=some u) (k1:B.StaysIn s'.heap) (k6:B.StaysIn h6) (ff:s'.heap.FunFrames B X.stack) (up:s'.heap.UpToSlots h6):Inv X pins σ H' { s' with heap:=h6 }:=by
 have keepB:∀b u,s'.heap.get? b=some u→(∃v,B.get? b=some v)→h6.get? b=some u:=λb u q hz__=>by
  obtain⟨v,hv⟩:=hz__
  have:=k1 b v hv
  rw[q] at this;cases this
  exact k6 b u hv
 have slots:∀b u,s'.heap.get? b=some u→b∈frs X.stack→∃sl,h6.get? b=some { u with slots:=sl }:=λb u q hb=>by
  obtain⟨_,o',ho',hd⟩:=ff.mem hb
  rw[q] at ho';cases ho'
  exact up b u q hd
 refine I.call' (s':={ s' with heap:=h6 }) (ch:=[]) os ⟨?_,?_,un.free,?_,un.tups,un.frzs,un.tbls⟩ ?_ bare (λb z=>by cases z)
 ·exact λb o q n hb hx=>keepB b o (un.keep b o q n hb hx) (hB b o q hb)
 ·intro b o q n hb hx
  obtain⟨sl,e⟩:=un.slot b o q n hb hx
  obtain⟨sl2,e2⟩:=slots b _ e hb
  exact⟨sl2,e2⟩
 ·intro b o q hx
  obtain⟨o2,e⟩:=un.there b o q hx
  by_cases hb:b∈frs X.stack
  ·obtain⟨sl,e2⟩:=slots b o2 e hb
   exact⟨_,e2⟩
  ·exact⟨o2,keepB b o2 e (hB b o q hb)⟩
 ·exact hok_at hok λb u o q1 q2=>keepB b u q2 (hT b o q1)
end
structure OwnW (x:Str) (C:Addr) (mg:Str→Option Value) (h:Heap):Prop where
 bound:mg x=some (.ref C)
 obj:∃bm N nm q bs hdct sn sub ab col dd k0 k1 k2 k3 k5,h.get? C=some (excClassObj nm q C N bs bm hdct sn sub ab col dd k0 k1 k2 k3 k5 "ValueError.__new__")∧OwnTail h bmV bm
theorem OwnW.keeps {x:Str} {C:Addr} {mg:Str→Option Value} {h h':Heap} (O:OwnW x C mg h) (k:∀b o,h.get? b=some o→h'.get? b=some o):OwnW x C mg h':=by
 obtain⟨bm,N,nm,q,bs,hdct,sn,sub,ab,col,dd,k0,k1,k2,k3,k5,hC,T⟩:=O.obj
 exact⟨O.bound,bm,N,nm,q,bs,hdct,sn,sub,ab,col,dd,k0,k1,k2,k3,k5,k _ _ hC,T.keeps k⟩
theorem OwnW.of {x:Str} {C:Addr} {mg:Str→Option Value} {h:Heap} (O:OwnV x C mg h):OwnW x C mg h:=by
 obtain⟨bm,N,nm,q,bs,hdct,sn,sub,ab,col,dd,k0,k1,k2,k3,k5,_,hC,_,_,T⟩:=O.obj
 exact⟨O.bound,bm,N,nm,q,bs,hdct,sn,sub,ab,col,dd,k0,k1,k2,k3,k5,hC,T⟩
noncomputable def ExcAt (C a:Addr) (od:Option Addr):HO:=.ext λh=>∃o,h.get? a=some o∧o.cls=.ref C∧o.dict=od∧∀c,o.data≠.cls c
noncomputable def MroHas (h:Heap) (C CT:Addr):Prop:=∀nm q N bs bm hdct sn sub ab col dd k0 k1 k2 k3 k5 nid,h.get? C=some (excClassObj nm q C N bs bm hdct sn sub ab col dd k0 k1 k2 k3 k5 nid)→(Value.ref C::bm).contains (.ref CT)=true
theorem excAt_ok {P:Program} {w:World} {H:Hp} {h:Heap} {C a:Addr} {o:Obj} {od:Option Addr} (e:h.get? a=some o) (c:o.cls=.ref C) (d:o.dict=od) (n:∀c,o.data≠.cls c):ObjOk P w H h a (ExcAt C a od) :=
 ⟨⟨o,e,c,d,n⟩,⟨o,e⟩,λh1 h2 ⟨o,e,c⟩ k=>⟨o,k o e,c⟩⟩
section
variable {X:Cx} {pins:List (Addr×Obj)} {σ:L2.St} {H:Hp} {s s':Shared}
theorem catch_xe {Eh:XK} {ev:Value} {n cxn:Str} {j:Nat} {np hpos:Pos} {b₀:Stmt} {suite:List Stmt} {rest:List ExceptHandler} {Q:Flow→Shared→Prop} {EX:Value→Shared→Prop} {CT:Addr}
 (hex:X.ex=[]) (hst:X.stack=X.env::X.outer) (hfr:X.env.frame=some X.env.locals) (I:Inv X pins σ H s) (hc:CXE X.prog X.w X.stack H s Eh ev s') (OT:OwnW cxn CT X.mg X.base) (hg:Gl X cxn) (hdb:(cxn==("__debug__" : Str))=false)
 (hE:∀cls od H',Eh cls od H'→∃y C,cls=.ref C∧OwnW y C X.mg X.base∧MroHas X.base C CT) (hN:X.N.Nodup) (hj:X.N[j]?=some n) (hk:X.env.scope.names.lookup n=some .local)
 (k:∀(ea C:Addr) (od:Option Addr) (H':Hp) (s7:Shared),Eh (.ref C) od H'→Inv (marked X (.ref ea)) pins (σ.set j (some (.ref ea))) (L2.upd H' ea (ExcAt C ea od)) s7→H' ea=none →
  wpAny (model X.prog X.w) (X.A.mark (some (.ref ea))) (execs (b₀::suite) X.env) (λf s₃=>wpAny (model X.prog X.w) X.A (do bindName X.env n .none;unbindBehindTheSuite X.env n hpos) (λ_ s₄=>Q f s₄) EX s₃) (λ_ _=>False) s7) :
 wpAny (model X.prog X.w) X.A (noteFrame ev X.env) (λ_ s₂=>wpAny (model X.prog X.w) X.A (setFlight ev none) (λ_ s₃ =>
  wpAny (model X.prog X.w) X.A (handleBy ev X.env (.ExceptHandler (some (.Name cxn np)) (some n) (b₀::suite) hpos::rest)) Q EX s₃) EX s₂) EX s':=by
 obtain⟨ea,cls,a0,H',B,rfl,os,bare,un,hok,new,free,fl,hB,hT,od,dO,hE'⟩:=hc
 obtain⟨y,C,rfl,OC,mro⟩:=hE cls od H' hE'
 have fl0:=fl
 rw[hst] at fl
 have frm:X.A.frames=some (X.env::X.outer):=by rw[←hst];exact I.ok.frames
 have g4:=wpAny_looks_onW (M:=model X.prog X.w) (E:=EX) (Q:=λ_ s4=>∃h4,s4={ s' with heap:=h4 }∧Heap.HeldW B (X.env::X.outer) ea (.ref C) a0 X.env.locals h4∧s'.heap.UpToSlots h4) frm hfr fl λh4 y1 y2=>⟨h4,rfl,y1,y2⟩
 refine wpAny_mono (wpAny_dk (dk_noteFrame _ _) g4) (λ_ s4 hq4=>?_) λ_ _ z=>z.1
 obtain⟨⟨h4,rfl,held4,up4⟩,dk4⟩:=hq4
 have g5:=wpAny_landsW (M:=model X.prog X.w) (A:=X.A) (E:=EX) (s:={ s' with heap:=h4 }) (Q:=λ_ s5=>∃h5,s5={ s' with heap:=h5 }∧Heap.FlyingW B (X.env::X.outer) ea (.ref C) a0 h5∧h4.UpToSlots h5) held4 λh5 y1 y2=>⟨h5,rfl,y1,y2⟩
 refine wpAny_mono (wpAny_dk (dk_setFlight _ _) g5) (λ_ s5 hq5=>?_) λ_ _ z=>z.1
 obtain⟨⟨h5,rfl,fl5,up5⟩,dk5⟩:=hq5
 have up45:=up4.trans up5
 have stays:∀h6,B.StaysIn h6→∀b o,X.base.get? b=some o→h6.get? b=some o:=λh6 k6 b o q=>by
  have q1:=I.bk b o q
  have nf:b∉frs X.stack:=λz=>by
   have:=(fl0.2.2.1.mem z).1
   have n2:=(I.stack.mem z).1
   rw[n2] at q;cases q
  obtain⟨u,hu⟩:=hB b o q1 nf
  have q2:=un.keep b o q1 (I.bs b o q).2 nf (λz=>by cases z)
  have q3:=fl0.1 b u hu
  rw[q2] at q3;cases q3
  exact k6 b _ hu
 obtain⟨ob,hob,hobc⟩:=fl5.there
 obtain⟨bmT,NT,nmT,qT,bsT,hdT,snT,subT,abT,colT,ddT,t0,t1,t2,t3,t5,hCT,TT⟩:=(OT.keeps (stays h5 fl5.1)).obj
 obtain⟨bm,N,nm,q,bs,hdct,sn,sub,ab,col,dd,k0,k1,k2,k3,k5,hC0,TL⟩:=OC.obj
 have hC:=stays h5 fl5.1 _ _ hC0
 refine wpAny_handleBy_cons (codeAny_handlers_test ?_) (by intro z;cases z)
 refine Calls.Name_function_global I.ok.kind hg (Calls.loadGlobal_global (by rw[I.ok.glob];exact I.mod.glob.keeps (stays h5 fl5.1)) OT.bound ?_) hdb
 refine exc_matches_own hC hCT hob hobc (TT.hasType (by decide)) (mro _ _ _ _ _ _ _ _ _ _ _ _ _ _ _ _ _ hC0) ?_
 refine codeAny_handlers_suite_as ?_
 have g6:=λEZ=>lands_againW (M:=model X.prog X.w) (A:=X.A.mark (some (.ref ea))) (E:=EZ) (s:={ s' with heap:=h5 }) (Q:=λ_ s6=>∃h6,s6={ s' with heap:=h6 }∧Heap.FlyingW B (X.env::X.outer) ea (.ref C) a0 h6∧h5.UpToSlots h6) fl5 λh6 y1 y2=>⟨h6,rfl,y1,y2⟩
 refine wpAny_mono (wpAny_dk (dk_setFlight _ _) (g6 _)) (λ_ s6 hq6=>?_) λ_ _ z=>z.1
 obtain⟨⟨h6,rfl,fl6,up6⟩,dk6⟩:=hq6
 have up:=up45.trans up6
 have J:Inv X pins σ H' { s' with heap:=h6 }:=landed (E:=Eh) (ea:=ea) I os bare un hok hB hT fl0.1 fl6.1 fl0.2.2.1 up
 obtain⟨o6,v6,ho6,hc6,hf6,_⟩:=fl6.first
 have hd6:o6.dict=od:=by
  obtain⟨q0,y1,y2⟩:=dO
  obtain⟨q1,y3,y4⟩:=dk4 ea q0 y1
  obtain⟨q2,y5,y6⟩:=dk5 ea q1 y3
  obtain⟨q3,y7,y8⟩:=dk6 ea q2 y5
  have y9:h6.get? ea=some q3:=y7
  rw[ho6] at y9
  cases y9
  rw[y8,y6,y4,y2]
 have old:X.s₀.heap.get? ea=none:=by
  cases z:X.s₀.heap.get? ea with
  | none=>rfl
  | some o =>
   obtain⟨o',z2⟩:=I.base.there ea o z (λq=>by rw[hex] at q;cases q)
   rw[new] at z2;cases z2
 have nL:ea≠X.env.locals:=λz=>by
  obtain⟨m,⟨o,_,_,e,_⟩,_⟩:=I.loc
  rw[←z,new] at e;cases e
 have nC:∀x c,X.env.cells.lookup x=some c→c≠ea:=λx c e z=>by
  obtain⟨v,o,e2,_⟩:=I.cell x c e
  rw[z,new] at e2;cases e2
 have nP:∀p∈X.pn++pins,p.1≠ea:=λp hp z=>by
  have e:=(I.pin p hp).1
  rw[z,new] at e;cases e
 have J2:=track (o:=ExcAt C ea od) J free old ho6 nL nC nP (excAt_ok ho6 hc6 hd6 λc z=>by rw[hf6] at z;cases z)
 refine store_ok (X:=marked X (.ref ea)) (v:=.ref ea) (inv_marked J2 (.ref ea)) hN hj (.inl hk) rfl (λs7 J7=>?_) (.inr hk)
 exact wpAny_mono (k ea C od H' s7 hE' J7 free) (λf s₃ hq=>hq) λ_ _ z=>z.elim
end
noncomputable abbrev newV:String := "ValueError.__new__"
noncomputable def cvK (K:PySem.W.Frag) (c:Str):Value:=match nsIn K mainGlobals c with
 | some (some v)=>v
 | _=>.none
theorem ownObj {K:PySem.W.Frag} {h:Heap} {C:Addr} (Y:K.In h) (e:excIn K C bmV newV=true) :
 ∃bm N nm q bs hdct sn sub ab col dd k0 k1 k2 k3 k5 mN,h.get? C=some (excClassObj nm q C N bs bm hdct sn sub ab col dd k0 k1 k2 k3 k5 newV)∧h.Ns N mN∧mN "__init__" = none∧OwnTail h bmV bm:=by
 unfold excIn at e
 split at e
 ·rename_i dd cd sl ho
  split at e
  ·rename_i C' bm k0 k1 k2 k3 n k5 hm hs
   rw[Bool.and_eq_true,Bool.and_eq_true,Bool.and_eq_true,Bool.and_eq_true,Bool.and_eq_true,beq_iff_eq,beq_iff_eq,beq_iff_eq,Bool.not_eq_true'] at e
   obtain⟨⟨⟨⟨⟨e1,e2⟩,e3⟩,e4⟩,e5⟩,e6⟩:=e
   subst e1
   subst e2
   obtain⟨nm,bs,mro,ns,qn,hd,sn,sub,ab,col,del⟩:=cd
   have z1:mro=.ref C'::bm:=hm
   have z2:del=false:=e3
   subst z1
   subst z2
   have z3:sl=#[k0,k1,k2,k3,some (.builtin newV),k5]:=by
    cases sl
    exact congrArg Array.mk hs
   subst z3
   exact⟨bm,ns,nm,qn,bs,hd,sn,sub,ab,col,dd,k0,k1,k2,k3,k5,_,Y _ _ ho,.of_isNs (isNs_of_in Y e5),nsMap_none_of_in Y e5 e6,tail_of_in Y e4⟩
  ·cases e
 ·cases e
structure ClsIs (K:PySem.W.Frag) (mg:Str→Option Value) (c:Str) (C:Addr):Prop where
 bound:mg c=some (.ref C)
 cv:cvK K c=.ref C
 exc:excIn K C bmV newV=true
theorem ClsIs.own {K:PySem.W.Frag} {mg:Str→Option Value} {c:Str} {C:Addr} {h:Heap} (x:ClsIs K mg c C) (Y:K.In h):OwnV c C mg h:=⟨x.bound,ownObj Y x.exc⟩
noncomputable def mroIn (K:PySem.W.Frag) (C CT:Addr):Bool:=match K.lookup C with
 | some ⟨_,_,.cls cd,_⟩=>cd.mro.contains (.ref CT)
 | _=>false
theorem mroHas_of {K:PySem.W.Frag} {h:Heap} {C CT:Addr} (Y:K.In h) (e:mroIn K C CT=true):MroHas h C CT:=by
 intro nm q N bs bm hdct sn sub ab col dd k0 k1 k2 k3 k5 nid ho
 unfold mroIn at e
 split at e
 ·rename_i z
  have:=Y _ _ z
  rw[ho] at this
  cases this
  exact e
 ·cases e
end Tr
namespace Tr
open PySem PySem.Spec PyProof.Rows L2 PySem.W Builtin Builtin.ObjectAttr Builtin.Getset_descriptor
section
variable {prog:Program} {w:World} {A:Around} {E:Value→Shared→Prop} {K:PySem.W.Frag} {a C:Addr} {o:Obj}
structure ExcCls (K:PySem.W.Frag) (C:Addr):Prop where
 ga:findIn K (.ref C) "__getattribute__" = some (some (.builtin "BaseException.__getattribute__"))
 hook:findIn K (.ref C) "__getattr__" = some none
 cl:findIn K (.ref C) "__class__" = some (some (.builtin "object.__class__"))
 gt:specialIn K (.builtin "object.__class__") "__get__" = some (some (.builtin "getset_descriptor.__get__"))
 tk:takesIn K (.builtin "object.__class__")=some true
 ob:PySem.W.mroIn K C (.type "object")=some true
 be:PySem.W.mroIn K C (.type "BaseException")=some true
theorem exc_type {M:Model} {h:Heap} (hx:h.get? a=some o) (hc:o.cls=.ref C):Looks M h (typeOf (.ref a)) (.ref C):=hc▸(Looks.ld hx).andThen .now
theorem exc_get {s:Shared} {tp:Value} {R:Result→Shared→Prop} (Y:K.In s.heap) (Z:ExcCls K C) (hx:s.heap.get? a=some o) (hc:o.cls=.ref C) (h:R (.ok (.ret (.ref C))) s) :
 codeAny (model prog w) A (.call (.builtin "getset_descriptor.__get__") ⟨[.builtin "object.__class__", .ref a,tp],[]⟩) R s:=by
 obtain⟨hh,g,d,t,os⟩:=s
 have T0:=exc_type (M:=model prog w) hx hc
 have T1:=looks_mroIn (M:=model prog w) Y Z.ob
 refine codeAny_call_builtin KF.slot_gs.plain KF.entry_gs ?_
 refine KF.slot_gs.check _ _ _ _ _ _ _ _ KF.type_class (KF.args_gs _ _ _) ?_
 unfold Builtin.«getset_descriptor.__get__»
 unfold descrGet
 rw[dga_obj]
 refine wpAny_bind ?_
 refine wpAny_pure ?_
 unfold descrGetter descrCheckInstance
 unfold descrNameAndClass isInstance
 simp only[KF.owner_class]
 repeat lk
 refine⟨Code.quiet_builtin _ (by decide +kernel),?_⟩
 refine codeAny_builtin KF.entry_class ?_
 unfold Builtin.«object.__class__»
 unfold shownTypeOf
 repeat lk
 exact h
theorem exc_find {M:Model} {h:Heap} (Y:K.In h) (Z:ExcCls K C):Looks M h (find (.ref a) (.ref C) "__class__") (.bind (.builtin "getset_descriptor.__get__") (.builtin "object.__class__")):=by
 refine (looks_findIn (M:=M) Y Z.cl).andThen ?_
 refine (looks_specialIn (M:=M) Y Z.gt).andThen ?_
 have T3:=looks_takesIn (M:=M) Y Z.tk
 have T4:Looks M h (dataDescriptor? (some (.builtin "object.__class__")) (some (.builtin "getset_descriptor.__get__"))) (some (.builtin "getset_descriptor.__get__", .builtin "object.__class__")):=T3.andThen .now
 exact T4.andThen (Looks.tag .now)
theorem exc_check {M:Model} {s:Shared} {nv:Value} {Q:Unit→Shared→Prop} (Y:K.In s.heap) (Z:ExcCls K C) (hx:s.heap.get? a=some o) (hc:o.cls=.ref C) (h:Q () s) :
 wpAny M A (checkBuiltinCall "BaseException.__getattribute__" ⟨[.ref a,nv],[]⟩) Q E s:=by
 obtain⟨hh,g,d,t,os⟩:=s
 have T0:=exc_type (M:=M) hx hc
 have T1:=looks_mroIn (M:=M) Y Z.be
 have k1:builtinKind "BaseException.__getattribute__" = some .slot:=by decide +kernel
 have k2:splitId "BaseException.__getattribute__" = some ("BaseException", "__getattribute__"):=by decide +kernel
 have k3:=F.args_bexc_ga (.ref a) nv
 simp only[checkBuiltinCall,k1,k2]
 refine wpAny_bind ?_
 unfold isInstance
 repeat lk
 repeat (first | exact h | wp_step)
theorem exc_entry {s:Shared} {tk:Tok} {Q:Fin→Shared→Prop} (Y:K.In s.heap) (Z:ExcCls K C) (hx:s.heap.get? a=some o) (hc:o.cls=.ref C) (h:Q (.done (.ret (.ref C))) s) :
 wpAny (model prog w) A (Builtin.«object.__getattribute__» ⟨[.ref a,.str "__class__" tk],[]⟩) Q E s:=by
 obtain⟨hh,g,d,t,os⟩:=s
 have T0:=exc_type (M:=model prog w) hx hc
 have T1:=exc_find (M:=model prog w) (a:=a) Y Z
 repeat (first | with_reducible refine wpAny_call (exc_get Y Z hx hc ?_) | lk)
 exact h
theorem exc_class {s:Shared} {Q:Option Value→Shared→Prop} (Y:K.In s.heap) (Z:ExcCls K C) (hx:s.heap.get? a=some o) (hc:o.cls=.ref C) (h:Q (some (.ref C)) { s with toks:=s.toks+1 }) :
 wpAny (model prog w) A (getAttr? (.ref a) "__class__") Q E s:=by
 obtain⟨hh,g,d,t,os⟩:=s
 have T0:=exc_type (M:=model prog w) hx hc
 have T1:=looks_findIn (M:=model prog w) Y Z.ga
 have T2:=looks_findIn (M:=model prog w) Y Z.hook
 have hb:=PySem.F.excAttr_ValueError.ga.bind (.ref a)
 have n1:(onTheHeap (Value.ref C)&&Value.builtin "BaseException.__getattribute__" == Value.builtin "object.__getattribute__")=false:=by
  have:(Value.builtin "BaseException.__getattribute__" == Value.builtin "object.__getattribute__")=false:=by decide +kernel
  rw[this];rfl
 have n2:(false&&onTheHeap (Value.builtin "BaseException.__getattribute__"))=false:=rfl
 unfold getAttr? getAttrBy? getAttrBy
 refine wpAny_bind (wpAny_mkText (wpAny_bind (wpAny_attempt (wpAny_holding ?_))))
 refine wpAny_bind (T0.at (wpAny_bind (T1.at ?_)))
 dsimp only
 rw[n1]
 unfold getAttrByItsOwn hookBefore
 rw[if_neg Bool.false_ne_true]
 have n3:onTheHeap (Value.ref C)=true:=rfl
 rw[n3,if_pos rfl]
 refine wpAny_bind (T2.at (wpAny_bind (wpAny_attempt (wpAny_holding ?_))))
 unfold callGetattribute
 rw[n2,if_neg Bool.false_ne_true]
 unfold boundAndCalled
 rw[hb]
 refine wpAny_bind (wpAny_pure ?_)
 refine wpAny_call (codeAny_call_builtin PySem.F.excAttr_ValueError.ga.plain PySem.F.entry_bexc_ga ?_)
 refine exc_check Y Z hx hc ?_
 refine exc_entry Y Z hx hc ?_
 exact handed_on rfl (wpAny_pure h)
theorem kitx_exc (Z:ExcCls K C):KitX K (.ref a) (.ref C) (λh=>∃o,h.get? a=some o∧o.cls=.ref C) where
 ty:=λ_ _ _ ⟨_,hx,hc⟩=>exc_type hx hc
 it:=λM h Y _=>by
  obtain⟨cd,hcd,_⟩:=Option.bind_eq_some_iff.mp Z.ob
  unfold clsIn at hcd
  split at hcd
  ·rename_i ho
   intro A' Q' E' s' k q
   unfold isType loadHead
   exact wpAny_bind (wpAny_loadPart (k _ _ (Y _ _ ho)) (wpAny_pure q))
  ·cases hcd
 ne:=λh tp dd its n sl Y htp=>by
  obtain⟨cd,hcd,_⟩:=Option.bind_eq_some_iff.mp Z.ob
  cases e:(Value.ref C==Value.ref tp) with
  | false=>rfl
  | true =>
   obtain rfl:C=tp:=Value.ref.inj (beq_iff_eq.mp e)
   unfold clsIn at hcd
   split at hcd
   ·rename_i ho
    have z:=Y _ _ ho
    rw[htp] at z
    cases z
   ·cases hcd
 ca:=λ{_ _ _ _ _ s} Y ⟨_,hx,hc⟩ k=>exc_class Y Z hx hc k
end
end Tr
namespace Tr
open PySem PySem.Spec PyProof.Rows L2 PySem.W
section
variable {X:Cx} {pins:List (Addr×Obj)} {σ:L2.St} {H:Hp} {s:Shared}
noncomputable def tryCx (X:Cx) (pins:List (Addr×Obj)) (E:Value→Shared→Prop):Cx:={ X with pn:=X.pn++pins,xe:=E }
theorem inv_try {E:Value→Shared→Prop} (I:Inv X pins σ H s):Inv (tryCx X pins E) [] σ H s :=
 ⟨⟨I.ok.mod,I.ok.kind,I.ok.glob,I.ok.blt,I.ok.above,I.ok.inj,I.ok.has,I.ok.cab,I.ok.hd,I.ok.frames,I.ok.stk,I.ok.exf,I.ok.bs,I.ok.bsz,I.ok.noex,I.ok.exfs,I.ok.funs,I.ok.frf⟩,
  I.os,I.bare,I.base,I.loc,I.cell,I.free,I.freeC,λp hp=>I.pin p (by rw[List.append_nil] at hp;exact hp),I.hok,I.len⟩
theorem inv_untry {E:Value→Shared→Prop} {ps:List (Addr×Obj)} (I:Inv (tryCx X pins E) ps σ H s):Inv X pins σ H s :=
 ⟨⟨I.ok.mod,I.ok.kind,I.ok.glob,I.ok.blt,I.ok.above,I.ok.inj,I.ok.has,I.ok.cab,I.ok.hd,I.ok.frames,I.ok.stk,I.ok.exf,I.ok.bs,I.ok.bsz,I.ok.noex,I.ok.exfs,I.ok.funs,I.ok.frf⟩,
  I.os,I.bare,I.base,I.loc,I.cell,I.free,I.freeC,λp hp=>I.pin p (List.mem_append_left _ hp),I.hok,I.len⟩
end
section
variable {X:Cx} {body:List Stmt} {pos:Pos} {h₀:ExceptHandler} {hs:List ExceptHandler}
theorem ps_try_ok {t:TS} (h:PSs X.nox body t):PS X (.Try body (h₀::hs) [] [] pos) t:=λpins s σ H D I hw=>by
 refine wpAny_Try_except (wpAny_mono (h pins s σ H D (I.wish _) hw) (λf s1 q=>?_) λ_ _ z=>False.elim z)
 have q:=q.unwish
 cases f with
 | next=>exact wpAny_execs_nil q
 | brk=>exact q
 | cont=>exact q
 | ret u=>exact q
theorem ps_try_x {Eh:XK} {tb:TS} {n cxn wr:Str} {j jw:Nat} {CT:Addr} {np hpos p1 p2 p3:Pos} (hex:X.ex=[]) (hst:X.stack=X.env::X.outer) (hfr:X.env.frame=some X.env.locals)
 (hb:∀pins,PSs (tryCx X pins (λev s'=>∃σ' H1 s1,Inv X pins σ' H1 s1∧CXE X.prog X.w X.stack H1 s1 Eh ev s')) body tb)
 (OT:X.K.In X.base→OwnW cxn CT X.mg X.base) (hg:Gl X cxn) (hdb:(cxn==("__debug__" : Str))=false) (hE:X.K.In X.base→∀cls od H',Eh cls od H'→∃y C,cls=.ref C∧OwnW y C X.mg X.base∧MroHas X.base C CT)
 (hN:X.N.Nodup) (hj:X.N[j]?=some n) (hk:X.env.scope.names.lookup n=some .local) (hjw:X.N[jw]?=some wr) (hkw:X.env.scope.names.lookup wr=some .local) (hne:j≠jw)
 (nd1:(n==("__debug__" : Str))=false) (nd2:(n==("__classdict__" : Str))=false) (hsw:swapsWith (.Name n p2) (some (.Name wr p1)) p3.line X.env=pure false) :
 PS X (.Try body [.ExceptHandler (some (.Name cxn np)) (some n) [.Assign [.Name wr p1] (.Name n p2) p3] hpos] [] [] pos)
  (λD σ H=>tb { nx:=λ_ _=>False,rt:=λ_ _=>False } σ H∧∀(ea C:Addr) (od:Option Addr) (τ:L2.St) (H':Hp),Eh (.ref C) od H'→H' ea=none→τ[jw]?=some (some (.ref ea))→D.nx τ (L2.upd H' ea (ExcAt C ea od))):=by
 rintro pins s σ H D I ⟨hb0,hk0⟩
 refine wpAny_Try_except (wpAny_mono (hb pins [] s σ H _ (inv_try I) hb0) (λf s1 q=>?_) λev s1 z=>?_)
 ·cases f with
  | next=>obtain⟨_,_,_,z⟩:=q;exact z.elim
  | brk=>obtain⟨_,_,_,z⟩:=q;exact z.elim
  | cont=>obtain⟨_,_,_,z⟩:=q;exact z.elim
  | ret u=>obtain⟨_,_,_,_,_,z⟩:=q;exact z.elim
 ·obtain⟨σ',H1,s0,I1,hc⟩:=z
  refine catch_xe hex hst hfr I1 hc (OT I.mod.kin) hg hdb (λcls od H' z=>hE I.mod.kin cls od H' z) hN hj hk λea C od H' s7 hE' J free=>?_
  have pa:PS (marked X (.ref ea)).nox (.Assign [.Name wr p1] (.Name n p2) p3) (tAsg (tVar j) (gName jw)) :=
   ps_set (X:=(marked X (.ref ea)).nox) hN hjw (.inl hkw) (pe_var (X:=(marked X (.ref ea)).nox) hj (.inl hk) nd1 nd2) hsw (.inr hkw)
  have hjl:j < σ'.length:=by rw[I1.len];exact (List.getElem?_eq_some_iff.mp hj).1
  have hjwl:jw < σ'.length:=by rw[I1.len];exact (List.getElem?_eq_some_iff.mp hjw).1
  refine wpAny_execs_cons (wpAny_mono (pa pins s7 _ _ { nx:=λτ H2=>τ=(σ'.set j (some (.ref ea))).set jw (some (.ref ea))∧H2=L2.upd H' ea (ExcAt C ea od),rt:=λ_ _=>False } (J.wish _) ?_) (λf s3 q=>?_) λ_ _ z=>z)
  ·exact⟨.ref ea,by rw[List.getElem?_set_self hjl],rfl,rfl⟩
  ·cases f with
   | next =>
    obtain⟨τ,H2,I2,rfl,rfl⟩:=q
    have I3:=inv_unmarked I2.unwish I.ok.hd
    refine wpAny_execs_nil (name_goes I3 hN hj hk λs4 I4=>⟨_,_,I4,hk0 ea C od _ H' hE' free ?_⟩)
    rw[List.getElem?_set_ne hne,List.getElem?_set_self (by simpa using hjwl)]
   | brk=>obtain⟨_,_,_,z⟩:=q;exact z.elim
   | cont=>obtain⟨_,_,_,z⟩:=q;exact z.elim
   | ret u=>obtain⟨_,_,_,_,_,z⟩:=q;exact z.elim
theorem isi_exc {b:Bool} {C:Addr} {cv:V} {c:Value} (Z:ExcCls X.K C) (hcv:∀u,RelV cv u→u=c) (e:PySem.W.kitOne X.K (.ref C) c=some b) :
 CallR X (.builtin "isinstance") (λxs H Q=>∃a od,xs=[.ref a,cv]∧H a=some (ExcAt C a od)∧Q (.bl b) H):=by
 intro pins s σ H xs us Q I rv h
 obtain⟨a,od,rfl,ha,q⟩:=h
 obtain⟨u,w,rfl,r1,r2⟩:=vals2 rv
 cases (show u=Value.ref a from r1)
 cases hcv w r2
 obtain⟨⟨o,ho,hc,_⟩,_⟩:=I.hok a _ ha
 exact PySem.W.kia_one (kitx_exc Z) I.kIn ⟨o,ho,hc⟩ e (λz=>nomatch z) λtk=>⟨.bl b,H,I.tok tk,rfl,q⟩
end
noncomputable abbrev excO (C t:Addr) (dx:Option Addr):Obj:={ cls:=.ref C,dict:=dx,data:=.fields #[.ref t,.none,.none,.none,.bool false,.none] }
section
variable {prog:Program} {w:World} {A:Around} {E:Value→Shared→Prop} {h:Heap} {g:Array GenState} {d:Drawn} {t:Nat} {os:OsState}
variable {nm q:Str} {C N:Addr} {bs bm bmB:List Value} {hdct:Bool} {sn:List Str} {sub:List Value} {ab:Bool} {col:Option Bool} {dd:Option Addr} {k0 k1 k2 k3 k5:Option Value} {B Bn newId nid initId inN:String} {bmN:List Value}
theorem init_type (Fn:ExcBaseFacts Bn newId inN bmN) (hBn:bmB.contains (.type Bn)=true) (F:ExcBaseFacts B nid initId bmB) (T:OwnTail h bmB bm) {mN:Str→Option Value} {as:List Value} {fI:Addr} {oI:Obj} {Q:PySem.Fin→Shared→Prop}
 (hC:h.get? C=some (excClassObj nm q C N bs bm hdct sn sub ab col dd k0 k1 k2 k3 k5 newId)) (hn:h.Ns N mN) (hi:mN "__init__" = some (.ref fI)) (hf:h.get? fI=some oI) (hfc:oI.cls=.type "function") (ha:as.length≤sizeLine)
 (hq:∀h' e,Heap.MadeExcOf h h' e (.ref C) as →
  wpAny (model prog w) A (call (.ref fI) (.ref e::as)) (λr s'=>r=.none∧Q (.done (.ret (.ref e))) s') E ⟨h',g,d,t,os⟩) :
 wpAny (model prog w) A (Builtin.«type.__call__» ⟨.ref C::as,[]⟩) Q E ⟨h,g,d,t,os⟩:=by
 repeat (first
  | with_reducible refine wpAny_loadPart_at hC ?_
  | with_reducible refine wpAny_madeBy_exc hC ?_
  | wp_step)
 refine codeAny_call_builtin_code (Code.quiet_builtin _ Fn.quiet) (wpAny_check_new_subU Fn hBn T hC ?_)
 refine codeAny_exc_new_subU Fn hBn F T hC ?_ ha
 show wpAny _ _ _ _ _ _
 obtain⟨h1,e1⟩:∃h1:Heap,h1=(h.push { cls:=.type "tuple", data:=.seq as.toArray }).push (excO C h.objs.size none):=⟨_,rfl⟩
 have kp:∀b o,h.get? b=some o→h1.get? b=some o:=λb o x=>by
  rw[e1];exact Heap.get?_push_of_some _ (Heap.get?_push_of_some _ x)
 have at1:h1.get? (h.objs.size+1)=some (excO C h.objs.size none):=by
  rw[e1]
  have:=Heap.get?_push_size (h.push { cls:=.type "tuple", data:=.seq as.toArray }) (o:=excO C h.objs.size none) rfl
  rwa [Heap.size_push] at this
 have at0:h1.get? h.objs.size=some { cls:=.type "tuple", data:=.seq as.toArray }:=by
  rw[e1];exact Heap.get?_push_of_some _ (Heap.get?_push_size h rfl)
 change wpAny _ _ _ _ _ (⟨(h.push { cls:=.type "tuple", data:=.seq as.toArray }).push (excO C h.objs.size none),g,d,t,os⟩:Shared)
 rw[←e1]
 have own:(Value.ref C::bm).contains (.ref C)=true:=by simp
 unfold isInstance
 repeat (first
  | (with_reducible refine wpAny_loadPart_at at1 ?_
     rw[show (excO C h.objs.size none).cls=.ref C from rfl])
  | (with_reducible refine wpAny_isSubtype_exc (kp _ _ hC) ?_
     rw[own])
  | wp_step)
 show wpAny _ _ (typeLookup (.ref C) _) _ _ _
 refine wpAny_typeLookup_tail (kp _ _ hC) (hn.keeps kp) (T.keeps kp) F.mroIs F.init.lookup ?_
 rw[hi]
 refine wpAny_holding (wpAny_bind ?_)
 unfold bindSpecial
 refine wpAny_bind (wpAny_typeOf (T := "function") ⟨_,kp _ _ hf,hfc⟩ ?_)
 rw[if_pos (by decide)]
 have made:Heap.MadeExcOf h h1 (h.objs.size+1) (.ref C) as:=⟨kp,Heap.get?_none_of_le (Nat.le_succ _),h.objs.size,at1,Heap.get?_none_of_le (Nat.le_refl _),at0⟩
 refine wpAny_pure (wpAny_bind (wpAny_mono (hq h1 _ made) (λr s' hr=>?_) λ_ _ x=>x))
 obtain⟨rfl,hQ⟩:=hr
 wp_walk
 exact hQ
theorem init_call (Fn:ExcBaseFacts Bn newId inN bmN) (hBn:bmB.contains (.type Bn)=true) (F:ExcBaseFacts B nid initId bmB) (T:OwnTail h bmB bm) {mN:Str→Option Value} {as:List Value} {fI:Addr} {oI:Obj} {Q:Value→Shared→Prop}
 (hC:h.get? C=some (excClassObj nm q C N bs bm hdct sn sub ab col dd k0 k1 k2 k3 k5 newId)) (hn:h.Ns N mN) (hi:mN "__init__" = some (.ref fI)) (hf:h.get? fI=some oI) (hfc:oI.cls=.type "function") (ha:as.length≤sizeLine)
 (hq:∀h' e,Heap.MadeExcOf h h' e (.ref C) as →
  wpAny (model prog w) (A.under (.builtin "type.__call__" ⟨.ref C::as,[]⟩)) (call (.ref fI) (.ref e::as)) (λr s'=>r=.none∧Q (.ref e) s') E ⟨h',g,d,t,os⟩) :
 wpAny (model prog w) A (call (.ref C) as) Q E ⟨h,g,d,t,os⟩:=by
 have u1:=tc_lookup
 have u2:=tc_bind (.ref C)
 have ty:(⟨h,g,d,t,os⟩:Shared).TypeIs (.ref C) "type" := ⟨_,hC,rfl⟩
 refine wpAny_call (codeAny_of_tree ?_)
 show wpAny _ _ (callAny (.ref C) _) _ _ _
 repeat (any_goals (first
  | assumption
  | with_reducible refine wpAny_loadPart_at hC ?_
  | wp_step))
 refine⟨rfl,?_⟩
 refine codeAny_call_builtin_at (Code.quiet_builtin _ (by decide +kernel)) entry_typeCall (wpAny_check_type_call_sub hC ?_)
 exact init_type Fn hBn F T hC hn hi hf hfc ha λh' e hm=>hq h' e hm
end
section
variable {prog:Program} {w:World} {A:Around} {E:Value→Shared→Prop} {s:Shared} {env:Env}
variable {nm q:Str} {C N:Addr} {bs bm bmB:List Value} {hdct:Bool} {sn:List Str} {sub:List Value} {ab:Bool} {col:Option Bool} {dd:Option Addr} {k0 k1 k2 k3 k5:Option Value} {B Bn newId nid initId inN:String} {bmN:List Value}
theorem raise_made {x:Sem Value} {Q:Flow→Shared→Prop} (hb:bm.contains (.type "BaseException")=true) (hh:A.handled=none)
 (hx:wpAny (model prog w) A x (λv s1=>∃e t dx,v=.ref e∧s1.heap.get? C=some (excClassObj nm q C N bs bm hdct sn sub ab col dd k0 k1 k2 k3 k5 newId)∧s1.heap.get? e=some (excO C t dx)∧E (.ref e) s1) E s) :
 wpAny (model prog w) A (raiseStmt env (some x) none) Q E s:=by
 have cB:(Value.ref C::bm).contains (.type "BaseException")=true:=by
  rw[List.contains_cons,hb,Bool.or_true]
 unfold raiseStmt
 refine wpAny_bind (wpAny_mono hx (λv s1 hv=>?_) λ_ _ z=>z)
 obtain⟨e,t,dx,rfl,hC,he,hE⟩:=hv
 obtain⟨hp,g,d,tk,os⟩:=s1
 have cl:(excO C t dx).cls=.ref C:=rfl
 repeat (first
  | with_reducible refine wpAny_loadPart_at he ?_
  | rw[cl]
  | with_reducible refine wpAny_loadPart_at hC ?_
  | (with_reducible refine wpAny_isSubtype_exc hC ?_
     rw[cB])
  | wp_step)
 exact wpAny_raiseNew_none hh hE
theorem init_raise (Fn:ExcBaseFacts Bn newId inN bmN) (hBn:bmB.contains (.type Bn)=true) (F:ExcBaseFacts B nid initId bmB) {mN:Str→Option Value} {x:Str} {np cpos pos:Pos} {args:List Expr} {fI:Addr} {oI:Obj} {Q:Flow→Shared→Prop}
 (hbase:bm.contains (.type "BaseException")=true) (hh:A.handled=none) (hpl:(backTo cpos (starEach args env)).any (·.1)=false) (hi:mN "__init__" = some (.ref fI)) (hfc:oI.cls=.type "function")
 (hx:wpAny (model prog w) A (eval (.Name x np) env) (λf s1=>f=.ref C∧wpAny (model prog w) A (evalArgs (.ref C) true (backTo cpos (starEach args env)) [])
  (λa s2=>a.kw=[]∧a.pos.length≤sizeLine∧s2.heap.get? C=some (excClassObj nm q C N bs bm hdct sn sub ab col dd k0 k1 k2 k3 k5 newId)∧s2.heap.Ns N mN∧OwnTail s2.heap bmB bm∧s2.heap.get? fI=some oI ∧
   ∀h' e,Heap.MadeExcOf s2.heap h' e (.ref C) a.pos→wpAny (model prog w) (A.under (.builtin "type.__call__" ⟨.ref C::a.pos,[]⟩)) (call (.ref fI) (.ref e::a.pos))
    (λr s3=>r=.none∧∃t dx,s3.heap.get? C=some (excClassObj nm q C N bs bm hdct sn sub ab col dd k0 k1 k2 k3 k5 newId)∧s3.heap.get? e=some (excO C t dx)∧E (.ref e) s3) E { s2 with heap:=h' }) E s1) E s) :
 wpAny (model prog w) A (exec (.Raise (some (.Call (.Name x np) args [] cpos)) none pos) env) Q E s:=by
 rw[arm_exec_Raise]
 refine wpAny_bind (wpAny_standAt (raise_made (C:=C) (N:=N) (nm:=nm) (q:=q) (bs:=bs) (bm:=bm) (hdct:=hdct) (sn:=sn) (sub:=sub) (ab:=ab) (col:=col) (dd:=dd) (k0:=k0) (k1:=k1) (k2:=k2) (k3:=k3) (k5:=k5) (newId:=newId) hbase hh ?_))
 refine wpAny_bind (wpAny_mono (wpAny_Call_ofName (wpAny_mono hx (λf s1 hf=>?_) λ_ _ z=>z)) (λv s3 hv=>wpAny_bind (wpAny_standAt (wpAny_pure hv))) λ_ _ z=>z)
 obtain⟨rfl,hf⟩:=hf
 unfold callWith
 refine wpAny_bind (wpAny_holding (wpAny_mono hf (λa s2 ha=>wpAny_bind (wpAny_standAt ?_)) λ_ _ z=>z))
 obtain⟨apos,akw⟩:=a
 obtain⟨hkw,hlen,hC,hn,T,hfI,ha⟩:=ha
 obtain rfl:akw=[]:=hkw
 obtain⟨hp,g,d,tk,os⟩:=s2
 simp only[hpl]
 refine wpAny_bind (wpAny_keeperOf_exc hC ?_)
 refine wpAny_bind (init_call Fn hBn F T hC hn hi hfI hfc hlen λh' e hm=>wpAny_mono (ha h' e hm) (λr s3 hr=>?_) λ_ _ z=>z)
 obtain⟨rfl,t,dx,c1,c2,c3⟩:=hr
 exact⟨rfl,wpAny_bind (wpAny_holding (wpAny_point (wpAny_pure ⟨e,t,dx,rfl,c1,c2,c3⟩)))⟩
end
end Tr
namespace Tr
open PySem PySem.Spec PyProof.Rows L2 PySem.W Builtin Builtin.ObjectAttr
theorem refuse_own {h:Heap} {bm:List Value} (T:OwnTail h bmV bm) (self:Value):refuseLoop self "__setattr__" bm=pure ():=by
 induction T with
 | base=>exact PySem.F.store_ValueError.passes self
 | own _ _ _ _ ih=>rw[refuseLoop_ref];exact ih
section
variable {prog:Program} {w:World} {A:Around} {E:Value→Shared→Prop} {K:PySem.W.Frag} {h:Heap} {g:Array GenState} {d:Drawn} {tok:Nat} {os:OsState}
variable {nm q:Str} {C N x t:Addr} {bs bm:List Value} {sn:List Str} {sub:List Value} {ab:Bool} {col:Option Bool} {dd:Option Addr} {k0 k1 k2 k3 k5:Option Value} {newId:String} {name:Str} {v:Value}
theorem exc_sa_check {M:Model} {nv:Value} {Q:Unit→Shared→Prop} (hC:h.get? C=some (excClassObj nm q C N bs bm true sn sub ab col dd k0 k1 k2 k3 k5 newId)) (T:OwnTail h bmV bm) {o:Obj} (hx:h.get? x=some o) (hc:o.cls=.ref C) (hq:Q () ⟨h,g,d,tok,os⟩) :
 wpAny M A (checkBuiltinCall "object.__setattr__" ⟨[.ref x,nv,v],[]⟩) Q E ⟨h,g,d,tok,os⟩:=by
 have SF:=PySem.F.store_ValueError
 have cO:(Value.ref C::bm).contains (.type "object")=true:=by
  rw[List.contains_cons,T.hasType SF.hasOwner,Bool.or_true]
 have ar:=SF.args (.ref x) nv v
 simp only[checkBuiltinCall,SF.kind,SF.split]
 refine wpAny_bind ?_
 unfold isInstance
 repeat (first
  | (with_reducible refine wpAny_loadPart_at hx ?_
     rw[hc])
  | (with_reducible refine wpAny_isSubtype_exc hC ?_
     rw[cO])
  | wp_step)
 exact hq
theorem exc_sa_entry {tk:Tok} {o:Obj} {Q:PySem.Fin→Shared→Prop} (Y:K.In h) (hC:h.get? C=some (excClassObj nm q C N bs bm true sn sub ab col dd k0 k1 k2 k3 k5 newId)) (T:OwnTail h bmV bm) (Z:findIn K (.ref C) name=some none) (hx:h.get? x=some o) (hc:o.cls=.ref C) (hdn:o.dict=none) (hnc:∀c,o.data≠.cls c)
 (hq:∀h' tk',h'.get? x=some { o with dict:=some h.objs.size }→h'.Ns1 h.objs.size (λy=>if y=name then some v else none)→(∀b u,b≠x→h.get? b=some u→h'.get? b=some u)→Q (.done (.ret .none)) ⟨h',g,d,tk',os⟩) :
 wpAny (model prog w) A (Builtin.«object.__setattr__» ⟨[.ref x,.str name tk,v],[]⟩) Q E ⟨h,g,d,tok,os⟩:=by
 have T2:=looks_findIn (M:=model prog w) Y Z
 have rf:=refuse_own T (.ref x)
 unfold Builtin.«object.__setattr__»
 repeat (first
  | rw[refuse_eq]
  | (rw[refuseLoop_ref,rf])
  | (with_reducible refine wpAny_loadPart_at hx ?_
     rw[hc])
  | with_reducible refine wpAny_mroOf_exc hC ?_
  | with_reducible refine T2.at ?_
  | wp_step)
 rw[hdn,if_neg (by simp[typeHasDict])]
 split
 ·rename_i z;cases z
 split
 ·rename_i c z
  exact absurd z (hnc c)
 ·obtain⟨hA,eA⟩:∃hA:Heap,hA=h.push { cls:=.type "dict", data:=.dict #[] }:=⟨_,rfl⟩
  have x1:hA.get? x=some o:=by rw[eA];exact Heap.get?_push_of_some _ hx
  have ne:x≠h.objs.size:=Nat.ne_of_lt (Heap.lt_size hx)
  refine wpAny_bind (wpAny_alloc' ?_)
  rw[←eA]
  refine wpAny_bind (wpAny_update' x1 (wpAny_pure ?_))
  obtain⟨hB,eB⟩:∃hB:Heap,hB=hA.update x λu=>{ u with dict:=some h.objs.size }:=⟨_,rfl⟩
  have z1:hB.get? h.objs.size=some { cls:=.type "dict", data:=.dict #[] }:=by
   rw[eB,Heap.get?_update_ne _ _ _ _ (Ne.symm ne),eA]
   exact Heap.get?_push_at rfl rfl
  have z2:hB.get? x=some { o with dict:=some h.objs.size }:=by
   rw[eB]
   refine Heap.get?_update_self _ x1 ?_
   have al:=(Heap.get?_some_iff.mp hx).2
   obtain⟨a1,a2,a3,a4⟩:=o
   cases a3<;>first | rfl | exact al
  have z3:hB.Ns h.objs.size (λ_=>none):=⟨_,#[],_,z1,rfl,λu hu=>absurd hu (by simp),λ_=>rfl⟩
  have z4:∀b u,b≠x→h.get? b=some u→hB.get? b=some u:=λb u hb hu=>by
   rw[eB,Heap.get?_update_ne _ _ _ _ hb,eA]
   exact Heap.get?_push_of_some _ hu
  show wpAny _ _ (storeInDict h.objs.size (.str name tk) name v) _ _ (⟨hA.update x λu=>{ u with dict:=some h.objs.size },g,d,_,os⟩:Shared)
  rw[←eB]
  unfold storeInDict newKeyGuard
  refine wpAny_bind (wpAny_pure (wpAny_bind (wpAny_nsSet1 (Heap.Ns1.of_empty z3) λh' n1 sb=>?_)))
  obtain⟨oD,eD,pD,dO,dD,dC⟩:=n1.count (Within.cons name v Within.nil)
  refine wpAny_bind (wpAny_lookBehind dO (by
   rw[dD]
   exact pastItsLine_dict (Nat.le_trans dC (by rw[List.length_cons,List.length_nil,sizeLine_eq];lia))) ?_)
  wp_walk
  exact hq h' _ ((sb.2 x ne).trans z2) n1 λb u hb hu=>(sb.2 b (Nat.ne_of_lt (Heap.lt_size hu))).trans (z4 b u hb hu)
theorem exc_store {o:Obj} {Q:Unit→Shared→Prop} (Y:K.In h) (hC:h.get? C=some (excClassObj nm q C N bs bm true sn sub ab col dd k0 k1 k2 k3 k5 newId)) (T:OwnTail h bmV bm) (Zs:findIn K (.ref C) "__setattr__" = some (some (.builtin "object.__setattr__"))) (Z:findIn K (.ref C) name=some none) (hx:h.get? x=some o) (hc:o.cls=.ref C) (hdn:o.dict=none) (hnc:∀c,o.data≠.cls c)
 (hq:∀h' tk',h'.get? x=some { o with dict:=some h.objs.size }→h'.Ns1 h.objs.size (λy=>if y=name then some v else none)→(∀b u,b≠x→h.get? b=some u→h'.get? b=some u)→Q () ⟨h',g,d,tk',os⟩) :
 wpAny (model prog w) A (setAttr (.ref x) name v) Q E ⟨h,g,d,tok,os⟩:=by
 have b3:=PySem.F.store_ValueError.slot.bind (.ref x)
 have T1:=looks_findIn (M:=model prog w) Y Zs
 unfold setAttr callSpecial? specialOf
 repeat (any_goals (first
  | assumption
  | (with_reducible refine wpAny_loadPart_at hx ?_
     rw[hc])
  | with_reducible refine T1.at ?_
  | wp_step))
 refine codeAny_call_builtin PySem.F.store_ValueError.slot.plain PySem.F.store_ValueError.entry (exc_sa_check hC T hx hc ?_)
 refine exc_sa_entry Y hC T Z hx hc hdn hnc λh' tk' c1 c2 c3=>?_
 repeat (any_goals (first | assumption | wp_step))
 exact hq h' tk' c1 c2 c3
end
end Tr
namespace Tr
open PySem PySem.Spec PyProof.Rows L2 PySem.W Builtin Builtin.ObjectAttr Builtin.Getset_descriptor
section
variable {prog:Program} {w:World} {A:Around} {E:Value→Shared→Prop} {K:PySem.W.Frag} {a C dx:Addr} {o:Obj} {name:Str} {v:Value} {m:Str→Option Value}
variable {nm q:Str} {N:Addr} {bs bm:List Value} {sn:List Str} {sub:List Value} {ab:Bool} {col:Option Bool} {dd:Option Addr} {k0 k1 k2 k3 k5:Option Value} {newId:String}
theorem exc_own {s:Shared} {tk:Tok} {Q:PySem.Fin→Shared→Prop} (Y:K.In s.heap) (hC:s.heap.get? C=some (excClassObj nm q C N bs bm true sn sub ab col dd k0 k1 k2 k3 k5 newId)) (Zn:findIn K (.ref C) name=some none) (hx:s.heap.get? a=some o) (hc:o.cls=.ref C) (hnc:∀c,o.data≠.cls c) (hd:o.dict=some dx) (hn:s.heap.Ns dx m) (hv:m name=some v) (hh:handedOut v=pure v)
 (h:Q (.done (.ret v)) s):wpAny (model prog w) A (Builtin.«object.__getattribute__» ⟨[.ref a,.str name tk],[]⟩) Q E s:=by
 obtain⟨hp,g,d,t,os⟩:=s
 have T0:=exc_type (M:=model prog w) hx hc
 have T1:=looks_findIn (M:=model prog w) Y Zn
 unfold Builtin.«object.__getattribute__» find
 repeat (first
  | with_reducible refine T0.at ?_
  | with_reducible refine T1.at ?_
  | (with_reducible refine wpAny_loadPart_at hx ?_)
  | wp_step)
 split
 ·rename_i c z
  exact absurd z (hnc c)
 unfold instanceDict
 repeat (first
  | (with_reducible refine wpAny_loadPart_at hx ?_
     rw[hc])
  | with_reducible refine wpAny_loadPart_at hC ?_
  | wp_step)
 rw[hd]
 repeat (first
  | (with_reducible refine wpAny_nsGet hn ?_
     rw[hv])
  | wp_step)
 exact h
theorem exc_field {s:Shared} {expr:Bool} {Q:Value→Shared→Prop} (Y:K.In s.heap) (hC:s.heap.get? C=some (excClassObj nm q C N bs bm true sn sub ab col dd k0 k1 k2 k3 k5 newId)) (Z:ExcCls K C) (Zn:findIn K (.ref C) name=some none) (hx:s.heap.get? a=some o) (hc:o.cls=.ref C) (hnc:∀c,o.data≠.cls c) (hd:o.dict=some dx) (hn:s.heap.Ns dx m) (hv:m name=some v) (hh:handedOut v=pure v)
 (h:Q v { s with toks:=s.toks+1 }):wpAny (model prog w) A (getAttr (.ref a) name expr) Q E s:=by
 obtain⟨hp,g,d,t,os⟩:=s
 have T0:=exc_type (M:=model prog w) hx hc
 have T1:=looks_findIn (M:=model prog w) Y Z.ga
 have T2:=looks_findIn (M:=model prog w) Y Z.hook
 have hb:=PySem.F.excAttr_ValueError.ga.bind (.ref a)
 have n1:(onTheHeap (Value.ref C)&&Value.builtin "BaseException.__getattribute__" == Value.builtin "object.__getattribute__")=false:=by
  have:(Value.builtin "BaseException.__getattribute__" == Value.builtin "object.__getattribute__")=false:=by decide +kernel
  rw[this];rfl
 have n2:(expr&&onTheHeap (Value.builtin "BaseException.__getattribute__"))=false:=by
  rw[show onTheHeap (Value.builtin "BaseException.__getattribute__")=false from rfl,Bool.and_false]
 have n3:onTheHeap (Value.ref C)=true:=rfl
 unfold getAttr getAttrBy
 refine wpAny_bind (wpAny_mkText ?_)
 refine wpAny_holding (wpAny_bind (T0.at (wpAny_bind (T1.at ?_))))
 dsimp only
 rw[n1,if_neg Bool.false_ne_true]
 unfold getAttrByItsOwn hookBefore
 rw[n3,if_pos rfl]
 refine wpAny_bind (T2.at ?_)
 dsimp only
 refine wpAny_bind (wpAny_attempt (wpAny_holding ?_))
 unfold callGetattribute
 rw[n2,if_neg Bool.false_ne_true]
 unfold boundAndCalled
 rw[hb]
 refine wpAny_bind (wpAny_pure ?_)
 refine wpAny_call (codeAny_call_builtin PySem.F.excAttr_ValueError.ga.plain PySem.F.entry_bexc_ga ?_)
 refine exc_check Y Z hx hc ?_
 refine exc_own Y hC Zn hx hc hnc hd hn hv hh ?_
 show wpAny _ _ (handedOut v) _ _ _
 rw[hh]
 exact wpAny_pure h
end
end Tr
namespace Tr
open PySem PySem.Spec PyProof.Rows L2 PySem.W
noncomputable def initIn (K:PySem.W.Frag) (C fI:Addr):Bool:=match K.lookup C with
 | some ⟨.type "type", _,.cls cd,sl⟩=>(match cd.mro,sl.toList with
  | .ref C'::bm,[_,_,_,_,some (.builtin n),_]=>C'==C&&(n==newV&&(!cd.hasDel&&(tailIn K bmV bm&&(nsOkIn K cd.ns&&(nsIn K cd.ns "__init__" == some (some (.ref fI))&&cd.hasDict)))))
  | _,_=>false)
 | _=>false
theorem ns_some_in {K:PySem.W.Frag} {h:Heap} {N:Addr} {m:Str→Option Value} {n:Str} {v:Value} (Y:K.In h) (G:h.Ns N m) (e:nsIn K N n=some (some v)):m n=some v:=by
 obtain⟨o,es,ep,ho,hd,_,hf⟩:=G
 unfold nsIn at e
 split at e
 ·rename_i z
  have:=Y _ _ z
  rw[ho] at this
  cases this
  cases hd
  split at e
  ·rename_i y he
   cases e
   rw[←hf]
   unfold nsFind findBy
   rw[←Array.find?_toList,he]
   rfl
  ·split at e<;>cases e
 ·cases e
theorem initObj {K:PySem.W.Frag} {h:Heap} {C fI:Addr} (Y:K.In h) (e:initIn K C fI=true) :
 ∃bm N nm q bs sn sub ab col dd k0 k1 k2 k3 k5 mN,h.get? C=some (excClassObj nm q C N bs bm true sn sub ab col dd k0 k1 k2 k3 k5 newV)∧h.Ns N mN∧mN "__init__" = some (.ref fI)∧OwnTail h bmV bm:=by
 unfold initIn at e
 split at e
 ·rename_i dd cd sl ho
  split at e
  ·rename_i C' bm k0 k1 k2 k3 n k5 hm hs
   rw[Bool.and_eq_true,Bool.and_eq_true,Bool.and_eq_true,Bool.and_eq_true,Bool.and_eq_true,Bool.and_eq_true,beq_iff_eq,beq_iff_eq,beq_iff_eq,Bool.not_eq_true'] at e
   obtain⟨e1,e2,e3,e4,e5,e6,e7⟩:=e
   subst e1
   subst e2
   obtain⟨nm,bs,mro,ns,qn,hd,sn,sub,ab,col,del⟩:=cd
   have z1:mro=.ref C'::bm:=hm
   have z2:del=false:=e3
   have z4:hd=true:=e7
   subst z1
   subst z2
   subst z4
   have z3:sl=#[k0,k1,k2,k3,some (.builtin newV),k5]:=by
    cases sl
    exact congrArg Array.mk hs
   subst z3
   exact⟨bm,ns,nm,qn,bs,sn,sub,ab,col,dd,k0,k1,k2,k3,k5,_,Y _ _ ho,.of_isNs (isNs_of_in Y e5),ns_some_in Y (.of_isNs (isNs_of_in Y e5)) e6,tail_of_in Y e4⟩
  ·cases e
 ·cases e
structure InitCls (K:PySem.W.Frag) (C fI:Addr) (f:Str):Prop where
 obj:initIn K C fI=true
 sa:findIn K (.ref C) "__setattr__" = some (some (.builtin "object.__setattr__"))
 no:findIn K (.ref C) f=some none
noncomputable def ExcNew (C e t:Addr):HO:=.ext λh=>h.get? e=some (excO C t none)
noncomputable def ExcSet (C e t dx:Addr):HO:=.ext λh=>h.get? e=some (excO C t (some dx))
theorem excNew_ok {P:Program} {w:World} {H:Hp} {h:Heap} {C e t:Addr} (x:h.get? e=some (excO C t none)):ObjOk P w H h e (ExcNew C e t):=⟨x,⟨_,x⟩,λ_ _ p k=>k _ p⟩
theorem excSet_ok {P:Program} {w:World} {H:Hp} {h:Heap} {C e t dx:Addr} (x:h.get? e=some (excO C t (some dx))):ObjOk P w H h e (ExcSet C e t dx):=⟨x,⟨_,x⟩,λ_ _ p k=>k _ p⟩
theorem ps_xfld {X:Cx} {o value:Expr} {f:Str} {pos pos':Pos} {ta tv:TE} {C fI:Addr} (FC:InitCls X.K C fI f) (ha:PE X o ta) (hv:PE X value tv) (hs:swapsWith value (some (.Attribute o f pos')) pos.line X.env=pure false) :
 PS X (.Assign [.Attribute o f pos'] value pos) (λD σ H=>tv σ H λy H1=>ta σ H1 λx H2=>∃e t,x=.ref e∧H2 e=some (ExcNew C e t)∧∀dx,H2 dx=none→D.nx σ (L2.upd (L2.upd H2 dx (.xd [(f,y)])) e (ExcSet C e t dx))):=by
 intro pins s σ H D I h
 refine plainObj_wpAny_Assign_Attribute (thn (hv pins s σ H _ I h) λu s1 ⟨y,H1,I1,ry,q⟩=>thn (ha pins s1 σ H1 _ I1 q) λov s2 ⟨x,H2,I2,rx,e,t,ex,ee,q2⟩=>?_) hs
 subst ex
 obtain rfl:ov=Value.ref e:=rx
 have he:s2.heap.get? e=some (excO C t none):=(I2.hok e _ ee).1
 obtain⟨bm,N,nm,qn,bs,sn,sub,ab,col,dd,k0,k1,k2,k3,k5,mN,hC,hN,hi,T⟩:=initObj I2.kIn FC.obj
 obtain⟨hp,g,d,tk,os⟩:=s2
 refine exc_store I2.kIn hC T FC.sa FC.no he rfl rfl (λc z=>by cases z) λh' tk' c1 c2 c3=>?_
 have fr:H2 hp.objs.size=none:=I2.hok.fresh (Nat.le_refl _)
 have ne:hp.objs.size≠e:=Nat.ne_of_gt (Heap.lt_size he)
 have en:∀b,H2 b=none→b≠e:=λb z q=>by rw[q,ee] at z;cases z
 refine⟨σ,_,I2.step (g':=g) (d':=d) (t':=tk') (ch:=[]) (λb hb=>by cases hb) (λb u _ _ _ x1 x2=>c3 b u (en b x2) x1) (λb u _ _ _ x1 x2=>⟨u.slots,c3 b u (en b x2) x1⟩) (λb u _ x1 x2=>?_) (λb u _ x1=>?_) (λb xs x1=>?_) (λb v w x1=>?_) (λb ps x1=>⟨#[],?_⟩) (λm x1=>?_) (λb v x1=>?_) I2.bare,q2 _ fr⟩
 ·rw[upd_ne (en b x2),upd_ne (Nat.ne_of_lt (Heap.lt_size x1))];exact x2
 ·by_cases z:b=e
  ·rw[z];exact⟨_,c1⟩
  ·exact⟨u,c3 b u z x1⟩
 ·rw[upd_ne (λz=>by rw[z,ee] at x1;cases x1),upd_ne (λz=>by rw[z,fr] at x1;cases x1)];exact x1
 ·rw[upd_ne (λz=>by rw[z,ee] at x1;cases x1),upd_ne (λz=>by rw[z,fr] at x1;cases x1)];exact x1
 ·rw[upd_ne (λz=>by rw[z,ee] at x1;cases x1),upd_ne (λz=>by rw[z,fr] at x1;cases x1)];simpa using x1
 ·obtain⟨o',es,ep,y1,y2⟩:=x1
  exact⟨o',es,ep,c3 _ _ (en _ I2.free) y1,y2⟩
 ·by_cases z:b=e
  ·subst z
   rw[upd_same] at x1
   cases x1
   exact excSet_ok c1
  ·rw[upd_ne z] at x1
   by_cases z2:b=hp.objs.size
   ·subst z2
    rw[upd_same] at x1
    cases x1
    refine⟨_,c2,λg=>?_⟩
    by_cases hg:g=f
    ·subst hg
     rw[if_pos rfl]
     show RelO (List.lookup g [(g,y)]) _
     rw[List.lookup_cons,beq_self_eq_true]
     exact ry
    ·rw[if_neg hg]
     show RelO (List.lookup g [(f,y)]) none
     rw[List.lookup_cons,show (g==f)=false from beq_eq_false_iff_ne.mpr hg]
     exact trivial
   ·rw[upd_ne z2] at x1
    refine (I2.hok b v x1).stay (λc u hc y1=>?_) (λc y1=>?_) λc xs y1=>?_
    ·refine c3 c u ?_ y1
     rcases hc with hc | hc
     ·rw[hc];exact z
     ·exact λz3=>by rw[z3,ee] at hc;cases hc
    ·rw[upd_ne (λz3=>by rw[z3,ee] at y1;cases y1),upd_ne (λz3=>by rw[z3,fr] at y1;cases y1)];exact y1
    ·rw[upd_ne (λz3=>by rw[z3,ee] at y1;cases y1),upd_ne (λz3=>by rw[z3,fr] at y1;cases y1)];exact y1
theorem fn_obj {K:PySem.W.Frag} {h:Heap} {f:Addr} (Y:K.In h) (e:PySem.W.isFn K (.ref f)=true):∃o,h.get? f=some o∧o.cls=.type "function" := by
 have e:(K.lookup f).map (·.cls)=some (.type "function"):=beq_iff_eq.mp e
 cases q:K.lookup f with
 | none=>rw[q] at e;cases e
 | some o=>rw[q] at e;exact⟨o,Y _ _ q,Option.some.inj e⟩
noncomputable def spI (C:Addr) (f:Str):Sp:=λvs H Q _=>∃e t y,vs=[.ref e,y]∧H e=some (ExcNew C e t)∧∀dx,H dx=none→Q .non (L2.upd (L2.upd H dx (.xd [(f,y)])) e (ExcSet C e t dx))
noncomputable def hide (H:Hp) (e:Addr):Hp:=λb=>if b=e then none else H b
theorem hide_ne {H:Hp} {e b:Addr} (h:b≠e):hide H e b=H b:=if_neg h
theorem hide_same {H:Hp} {e:Addr}:hide H e e=none:=if_pos rfl
theorem forget {X:Cx} {pins:List (Addr×Obj)} {σ:L2.St} {H:Hp} {s:Shared} {e C t dx:Addr} (I:Inv X pins σ H s) (h:H e=some (ExcSet C e t dx)):Inv X pins σ (hide H e) s:=by
 refine I.step (h':=s.heap) (g':=s.gens) (d':=s.drawn) (t':=s.toks) (ch:=[]) (λb hb=>by cases hb) (λb u _ _ _ x1 _=>x1) (λb u _ _ _ x1 _=>⟨u.slots,x1⟩) (λb u _ x1 x2=>?_) (λb u _ x1=>⟨u,x1⟩) (λb xs x1=>?_) (λb v w x1=>?_) (λb ps x1=>⟨#[],?_⟩) (λm x1=>x1) (λb v x1=>?_) I.bare
 ·unfold hide;split
  ·rfl
  ·exact x2
 ·rw[hide_ne (λz=>by rw[z,h] at x1;cases x1)];exact x1
 ·rw[hide_ne (λz=>by rw[z,h] at x1;cases x1)];exact x1
 ·rw[hide_ne (λz=>by rw[z,h] at x1;cases x1)];simpa using x1
 ·by_cases z:b=e
  ·rw[z,hide_same] at x1;cases x1
  ·rw[hide_ne z] at x1
   exact (I.hok b v x1).stay (λc u _ y1=>y1) (λc y1=>by rw[hide_ne (λz3=>by rw[z3,h] at y1;cases y1)];exact y1) λc xs y1=>by rw[hide_ne (λz3=>by rw[z3,h] at y1;cases y1)];exact y1
theorem ps_raiseI {X:Cx} {x f:Str} {C fI:Addr} {np cpos pos:Pos} {e:Expr} {es:List Expr} {t:TA} {k:Nat} {fd:FuncData} {ps:List Str} {ER:Option Addr→Hp→Prop} (FC:InitCls X.K C fI f) (hm:X.mg x=some (.ref C)) (hg:Gl X x) (hc:X.calm=true) (hex:X.ex=[])
 (F:FnOk X.prog X.w X.K X.mg X.base (CXE X.prog X.w) k fI fd ps (spI C f)) (hr:Room (k+1) X.A) (hb:Binds X.K fd ps []) (hfn:PySem.W.isFn X.K (.ref fI)=true) (ha:PA X (e::es) t)
 (hxe:∀(pins:List (Addr×Obj)) (σ:L2.St) (H:Hp) (s:Shared) (a t dx:Addr),Inv X pins σ H s→s.heap.get? a=some (excO C t (some dx))→H a=none→X.s₀.heap.get? a=none→ER (some dx) H→X.xe (.ref a) s)
 (hdb:(x==("__debug__" : Str))=false) (he:starEach (e::es) X.env=(false,eval e X.env)::starEach es X.env) (hpl:(backTo cpos (starEach es X.env)).any (·.1)=false) :
 PS X (.Raise (some (.Call (.Name x np) (e::es) [] cpos)) none pos) (λ_ σ H=>t σ H λvs H1=>∃y,vs=[y]∧∀dx H2,(∀b o,H1 b=some o→H2 b=some o)→H2 dx=some (.xd [(f,y)])→ER (some dx) H2):=by
 intro pins s σ H D I h
 obtain⟨bm,N,nm,q,bs,sn,sub,ab,col,dd,k0,k1,k2,k3,k5,mN,hC,hN,hi,TL⟩:=initObj I.mod.kin FC.obj
 obtain⟨oI,hoI,hfc⟩:∃oI,X.base.get? fI=some oI∧oI.cls=.type "function" := fn_obj I.mod.kin hfn
 refine init_raise (C:=C) (N:=N) (nm:=nm) (q:=q) (bs:=bs) (bm:=bm) (hdct:=true) (sn:=sn) (sub:=sub) (ab:=ab) (col:=col) (dd:=dd) (k0:=k0) (k1:=k1) (k2:=k2) (k3:=k3) (k5:=k5) (mN:=mN) (fI:=fI) (oI:=oI) (bmB:=bmV) PySem.F.excBase_ValueError (by decide) PySem.F.excBase_ValueError (TL.hasType (by decide)) (I.ok.hd hc) ?_ hi hfc ?_
 ·rw[he]
  show (false||(backTo cpos (starEach es X.env)).any (·.1))=false
  rw[hpl];rfl
 ·refine ld_glob I hg hm ⟨rfl,?_⟩ hdb
  have hA:=ha cpos pins s σ H _ I h
  rw[he] at hA ⊢
  refine Calls.evalArgs_plain (thn hA λus s1 hz__=>?_)
  obtain⟨vs,H1,I1,r,y,hv,hE⟩:=hz__
  subst hv
  refine⟨rfl,by rw[←r.length];exact (by decide:1≤sizeLine),I1.bk _ _ hC,hN.keeps I1.bk,TL.keeps I1.bk,I1.bk _ _ hoI,λh' a hx=>?_⟩
  obtain⟨t0,ht,_,_⟩:=hx.there
  have fr:H1 a=none:=by
   cases q:H1 a with
   | none=>rfl
   | some o=>obtain⟨u,q2⟩:=objOk_obj (I1.hok a o q);rw[hx.new] at q2;cases q2
  have n0:X.s₀.heap.get? a=none:=by
   cases q:X.s₀.heap.get? a with
   | none=>rfl
   | some o=>obtain⟨o',q2⟩:=I1.base.there a o q (λz=>by rw[hex] at z;cases z);rw[hx.new] at q2;cases q2
  have I2:Inv X pins σ (L2.upd H1 a (ExcNew C a t0)) { s1 with heap:=h' }:=by
   have en:∀b o,s1.heap.get? b=some o→b≠a:=λb o q z=>by rw[z,hx.new] at q;cases q
   have ne:∀b o,H1 b=some o→b≠a:=λb o q z=>by rw[z,fr] at q;cases q
   refine I1.step (h':=h') (g':=s1.gens) (d':=s1.drawn) (t':=s1.toks) (ch:=[]) (λb hb=>by cases hb) (λb u _ _ _ x1 _=>hx.keeps b u x1) (λb u _ _ _ x1 _=>⟨u.slots,hx.keeps b u x1⟩) (λb u _ x1 x2=>by rw[upd_ne (en b u x1)];exact x2) (λb u _ x1=>⟨u,hx.keeps b u x1⟩) (λb xs x1=>by rw[upd_ne (ne _ _ x1)];exact x1) (λb v w x1=>by rw[upd_ne (ne _ _ x1)];exact x1) (λb ps x1=>⟨#[],by rw[upd_ne (ne _ _ x1)];simpa using x1⟩) (λm x1=>?_) (λb v x1=>?_) I1.bare
   ·obtain⟨o',es,ep,y1,y2⟩:=x1
    exact⟨o',es,ep,hx.keeps _ _ y1,y2⟩
   ·by_cases z:b=a
    ·subst z
     rw[upd_same] at x1
     cases x1
     exact excNew_ok ht
    ·rw[upd_ne z] at x1
     exact (I1.hok b v x1).stay (λc u _ y1=>hx.keeps c u y1) (λc y1=>by rw[upd_ne (ne _ _ y1)];exact y1) λc xs y1=>by rw[upd_ne (ne _ _ y1)];exact y1
  have hl:(Value.ref a::us++[]).length=ps.length:=by
   have e1:=F.len [.ref a,y] (L2.upd H1 a (ExcNew C a t0)) (λ_ _=>True) E0 ⟨a,t0,y,rfl,upd_same,λ_ _=>trivial⟩
   have e2:=r.length
   rw[←e1,List.append_nil,List.length_cons,←e2];rfl
  refine wpAny_call (codeAny_mono (F.run _ X.stack _ _ ⟨Value.ref a::us,[]⟩ (Value.ref a::us) [.ref a,y] (λv H3=>v=.non∧∃dx,L2.upd H1 a (ExcNew C a t0) dx=none∧H3=L2.upd (L2.upd (L2.upd H1 a (ExcNew C a t0)) dx (.xd [(f,y)])) a (ExcSet C a t0 dx)) E0 (hr.make C us []) (I2.env0.make C us [])
   (by simpa using hb _ (Value.ref a::us) I2.kIn hl) (.cons rfl r) ⟨a,t0,y,rfl,upd_same,λdx hdx=>⟨rfl,dx,hdx,rfl⟩⟩) λr s' hq=>?_)
  cases r with
  | error e=>obtain⟨_,_,_,_,_,_,_,_,_,_,_,_,_,_,_,_,_,z⟩:=hq;exact z.elim
  | ok fl =>
   cases fl with
   | ret u =>
    obtain⟨v,H3,I3,rv,ev,dx,hdx,rfl⟩:=I2.after hq
    subst ev
    have dn:dx≠a:=λz=>by rw[z,upd_same] at hdx;cases hdx
    have hset:(L2.upd (L2.upd (L2.upd H1 a (ExcNew C a t0)) dx (.xd [(f,y)])) a (ExcSet C a t0 dx)) a=some (ExcSet C a t0 dx):=upd_same
    refine⟨rv,t0,some dx,I3.bk _ _ hC,(I3.hok a _ hset).1,hxe pins σ _ s' a t0 dx (forget I3 hset) (I3.hok a _ hset).1 hide_same n0 (hE dx _ (λb o hb=>?_) ?_)⟩
    ·have b1:b≠a:=λz=>by rw[z,fr] at hb;cases hb
     have b2:b≠dx:=λz=>by rw[z] at b1 hb;rw[upd_ne b1,hb] at hdx;cases hdx
     rw[hide_ne b1,upd_ne b1,upd_ne b2,upd_ne b1];exact hb
    ·rw[hide_ne dn,upd_ne dn,upd_same]
   | next=>exact False.elim hq
   | brk=>exact False.elim hq
   | cont=>exact False.elim hq
section
variable {X:Cx}
theorem initW {K:PySem.W.Frag} {mg:Str→Option Value} {h:Heap} {C fI:Addr} {c:Str} (Y:K.In h) (m:mg c=some (.ref C)) (e:initIn K C fI=true):OwnW c C mg h:=by
 obtain⟨bm,N,nm,q,bs,sn,sub,ab,col,dd,k0,k1,k2,k3,k5,_,hC,_,_,T⟩:=initObj Y e
 exact⟨m,bm,N,nm,q,bs,true,sn,sub,ab,col,dd,k0,k1,k2,k3,k5,hC,T⟩
theorem pe_xat {n fld:Str} {j:Nat} {p2 p4:Pos} {C fI:Addr} {y:Int} (Z:ExcCls X.K C) (FC:InitCls X.K C fI fld) (hj:X.N[j]?=some n) (hv:Vis X.env.scope n) (nd1:(n==("__debug__" : Str))=false) (nd2:(n==("__classdict__" : Str))=false)
 (hb:attributeBase (.Name n p2) fld X.env (eval (.Name n p2) X.env)=eval (.Name n p2) X.env) :
 PE X (.Attribute (.Name n p2) fld p4) (λσ H Q=>∃a dx,σ[j]?=some (some (.ref a))∧H a=some (ExcAt C a (some dx))∧H dx=some (.xd [(fld,.int y)])∧Q (.int y) H):=by
 intro pins s σ H Q I h
 obtain⟨a,dx,h1,h2,h3,q⟩:=h
 refine attr_of hb (thn (pe_var (X:=X) hj hv nd1 nd2 pins s σ H (λv H1=>v=.ref a∧H1=H) I ⟨.ref a,h1,rfl,rfl⟩) λu s1 hz__=>?_)
 obtain⟨x,H1,I1,rx,ex,eH⟩:=hz__
 subst ex
 subst eH
 obtain rfl:u=Value.ref a:=rx
 obtain⟨⟨o,ho,hc,hd,hnc⟩,_⟩:=I1.hok a _ h2
 obtain⟨mA,hn,hm⟩:=I1.hok dx _ h3
 obtain⟨bm,N,nm,qn,bs,sn,sub,ab,col,dd,k0,k1,k2,k3,k5,mN,hC,hN,hi,T⟩:=initObj I1.kIn FC.obj
 have r:=hm fld
 rw[List.lookup_cons,beq_self_eq_true] at r
 cases hA:mA fld with
 | none=>rw[hA] at r;exact r.elim
 | some u =>
  rw[hA] at r
  obtain⟨tk,rfl⟩:=(show ∃t,u=Value.int y t from r)
  exact exc_field I1.kIn hC Z FC.no ho hc hnc hd hn.ns hA rfl ⟨.int y,_,I1.tok _,⟨tk,rfl⟩,q⟩
end
end Tr
namespace Tr
open PySem PySem.Spec PyProof.Rows L2
noncomputable def ModL (K:PySem.W.Frag) (a:Addr) (xs:List V):Prop :=
 ∃(o:Obj) (its:Array Value) (n:Nat),K.lookup a=some o∧o.cls=.type "list" ∧ o.dict=none∧o.data=.seq its n∧its.size≤sizeLine∧Vals xs its.toList
noncomputable def DicO:HO→Prop
 | .dK _=>True
 | .dT _=>True
 | _=>False
mutual
noncomputable def RD (K:PySem.W.Frag) (H:Hp) (O:Addr→Prop):D→V→Prop
 | .non,v=>v=.non
 | .bl b,v=>v=.bl b
 | .int i,v=>v=.int i
 | .str x,v=>v=.str x
 | .tup ds,v=>∃a xs,v=.ref a∧SqT K H a xs∧RDs K H O ds xs
 | .lst ds,v=>∃a xs,v=.ref a∧((¬O a∧Rd H a (.lst xs))∨ModL K a xs)∧RDs K H O ds xs
noncomputable def RDs (K:PySem.W.Frag) (H:Hp) (O:Addr→Prop):List D→List V→Prop
 | [],xs=>xs=[]
 | d::ds,xs=>∃v r,xs=v::r∧RD K H O d v∧RDs K H O ds r
end
noncomputable def OwnAt (K:PySem.W.Frag) (H:Hp) (O:Addr→Prop) (a:Addr):D→Prop
 | .lst ds=>∃xs,H a=some (.lst xs)∧RDs K H O ds xs
 | _=>False
noncomputable def RR (K:PySem.W.Frag) (H:Hp) (O:Addr→Prop) (d:D) (v:V):Prop :=
 RD K H O d v∨∃a,v=.ref a∧OwnAt K H O a d
noncomputable def RRs (K:PySem.W.Frag) (H:Hp) (O:Addr→Prop):List D→List V→Prop
 | [],xs=>xs=[]
 | d::ds,xs=>∃v r,xs=v::r∧RR K H O d v∧RRs K H O ds r
section
variable {K:PySem.W.Frag} {H H':Hp} {O O':Addr→Prop}
mutual
theorem RD.map (ht:∀a xs,SqT K H a xs→SqT K H' a xs) (hl:∀a xs,¬O a→Rd H a (.lst xs)→¬O' a∧Rd H' a (.lst xs)) (hd:∀a o,DicO o→¬O a→H a=some o→¬O' a∧H' a=some o):∀ {d:D} {v:V},RD K H O d v→RD K H' O' d v
 | .non,_,h=>h
 | .bl _,_,h=>h
 | .int _,_,h=>h
 | .str _,_,h=>h
 | .tup ds,v,h=>by
  obtain⟨a,xs,e,s,r⟩:=h
  exact⟨a,xs,e,ht a xs s,RDs.map ht hl hd r⟩
 | .lst ds,v,h=>by
  obtain⟨a,xs,e,s,r⟩:=h
  refine⟨a,xs,e,?_,RDs.map ht hl hd r⟩
  rcases s with ⟨s1,s2⟩ | s
  ·exact .inl (hl a xs s1 s2)
  ·exact .inr s
theorem RDs.map (ht:∀a xs,SqT K H a xs→SqT K H' a xs) (hl:∀a xs,¬O a→Rd H a (.lst xs)→¬O' a∧Rd H' a (.lst xs)) (hd:∀a o,DicO o→¬O a→H a=some o→¬O' a∧H' a=some o):∀ {ds:List D} {vs:List V},RDs K H O ds vs→RDs K H' O' ds vs
 | [],_,h=>h
 | d::ds,vs,h=>by
  obtain⟨v,r,e,h1,h2⟩:=h
  exact⟨v,r,e,RD.map ht hl hd h1,RDs.map ht hl hd h2⟩
end
theorem Rd.same (s:Same H H') {a:Addr} {u:HO} (h:Rd H a u):Rd H' a u:=by
 rcases h with h | ⟨o,h⟩
 ·exact .inl (s _ _ h)
 ·exact .inr ⟨o,s _ _ h⟩
theorem SqT.same (s:Same H H') {a:Addr} {xs:List V} (h:SqT K H a xs):SqT K H' a xs:=by
 rcases h with h | h
 ·exact .inl (Rd.same s h)
 ·exact .inr h
theorem RD.same (s:Same H H') {d:D} {v:V} (h:RD K H O d v):RD K H' O d v:=RD.map (λ_ _ q=>SqT.same s q) (λ_ _ n q=>⟨n,Rd.same s q⟩) (λ_ _ _ n q=>⟨n,s _ _ q⟩) h
theorem RDs.same (s:Same H H') {d:List D} {v:List V} (h:RDs K H O d v):RDs K H' O d v:=RDs.map (λ_ _ q=>SqT.same s q) (λ_ _ n q=>⟨n,Rd.same s q⟩) (λ_ _ _ n q=>⟨n,s _ _ q⟩) h
theorem RD.weak (s:∀a,O' a→O a) {d:D} {v:V} (h:RD K H O d v):RD K H O' d v:=RD.map (λ_ _ q=>q) (λa _ n q=>⟨λz=>n (s a z),q⟩) (λa _ _ n q=>⟨λz=>n (s a z),q⟩) h
theorem RDs.weak (s:∀a,O' a→O a) {d:List D} {v:List V} (h:RDs K H O d v):RDs K H O' d v:=RDs.map (λ_ _ q=>q) (λa _ n q=>⟨λz=>n (s a z),q⟩) (λa _ _ n q=>⟨λz=>n (s a z),q⟩) h
noncomputable def plus (O:Addr→Prop) (p:Addr):Addr→Prop:=λa=>O a∨a=p
noncomputable def minus (O:Addr→Prop) (p:Addr):Addr→Prop:=λa=>O a∧a≠p
theorem Rd.ne {p a:Addr} {u:HO} (hp:H p=none) (h:Rd H a u):a≠p:=by
 rcases h with h | ⟨o,h⟩<;>exact ne_of_none h hp
theorem RD.new {p:Addr} (hp:H p=none) {d:D} {v:V} (h:RD K H O d v):RD K H (plus O p) d v :=
 RD.map (λ_ _ q=>q) (λa _ n q=>⟨λz=>z.elim n (Rd.ne hp q),q⟩) (λa _ _ n q=>⟨λz=>z.elim n (ne_of_none q hp),q⟩) h
theorem RDs.new {p:Addr} (hp:H p=none) {d:List D} {v:List V} (h:RDs K H O d v):RDs K H (plus O p) d v :=
 RDs.map (λ_ _ q=>q) (λa _ n q=>⟨λz=>z.elim n (Rd.ne hp q),q⟩) (λa _ _ n q=>⟨λz=>z.elim n (ne_of_none q hp),q⟩) h
noncomputable def MutO:HO→Prop
 | .lst _=>True
 | .dK _=>True
 | .dT _=>True
 | _=>False
theorem Rd.upd_mut {p a:Addr} {u o o':HO} (hp:H p=some o) (hm:MutO o) (hu:u≠o) (h:Rd H a u):Rd (upd H p o') a u:=by
 rcases h with h | ⟨o1,h⟩
 ·exact .inl (by rw[upd_ne (ne_of h hp hu)];exact h)
 ·exact .inr ⟨o1,by rw[upd_ne (ne_of h hp (by intro z;subst z;exact hm))];exact h⟩
theorem upd_map {p:Addr} {o o':HO} (hO:O p) (hp:H p=some o) (hm:MutO o):(∀a xs,SqT K H a xs→SqT K (upd H p o') a xs)∧(∀a xs,¬O a→Rd H a (.lst xs)→¬O a∧Rd (upd H p o') a (.lst xs))∧∀a o1,DicO o1→¬O a→H a=some o1→¬O a∧upd H p o' a=some o1:=by
 refine⟨λa xs h=>?_,λa xs n h=>⟨n,?_⟩,λa ps _ n h=>⟨n,?_⟩⟩
 ·rcases h with h | h
  ·exact .inl (Rd.upd_mut hp hm (by intro z;subst z;exact hm) h)
  ·exact .inr h
 ·have e:a≠p:=λz=>n (z▸hO)
  rcases h with h | ⟨o,h⟩
  ·exact .inl (by rw[upd_ne e];exact h)
  ·exact .inr ⟨o,by rw[upd_ne e];exact h⟩
 ·have e:a≠p:=λz=>n (z▸hO)
  rw[upd_ne e];exact h
theorem RD.updM {p:Addr} {o o':HO} (hO:O p) (hp:H p=some o) (hm:MutO o) {d:D} {v:V} (h:RD K H O d v):RD K (L2.upd H p o') O d v:=RD.map (upd_map (K:=K) hO hp hm).1 (upd_map (K:=K) hO hp hm).2.1 (upd_map (K:=K) hO hp hm).2.2 h
theorem RDs.updM {p:Addr} {o o':HO} (hO:O p) (hp:H p=some o) (hm:MutO o) {d:List D} {v:List V} (h:RDs K H O d v):RDs K (L2.upd H p o') O d v:=RDs.map (upd_map (K:=K) hO hp hm).1 (upd_map (K:=K) hO hp hm).2.1 (upd_map (K:=K) hO hp hm).2.2 h
theorem RD.upd {p:Addr} {ys zs:List V} (hO:O p) (hp:H p=some (.lst ys)) {d:D} {v:V} (h:RD K H O d v):RD K (L2.upd H p (.lst zs)) O d v:=RD.updM hO hp trivial h
theorem RDs.upd {p:Addr} {ys zs:List V} (hO:O p) (hp:H p=some (.lst ys)) {d:List D} {v:List V} (h:RDs K H O d v):RDs K (L2.upd H p (.lst zs)) O d v:=RDs.updM hO hp trivial h
mutual
theorem RD.flat:∀ {d:D} {v:V},d.flat=true→RD K H O d v→RD K H O' d v
 | .non,_,_,h=>h
 | .bl _,_,_,h=>h
 | .int _,_,_,h=>h
 | .str _,_,_,h=>h
 | .tup ds,v,f,h=>by
  obtain⟨a,xs,e,s,r⟩:=h
  rw[D.flat] at f
  exact⟨a,xs,e,s,RDs.flat f r⟩
 | .lst ds,v,f,_=>by rw[D.flat] at f;cases f
theorem RDs.flat:∀ {ds:List D} {vs:List V},D.flats ds=true→RDs K H O ds vs→RDs K H O' ds vs
 | [],_,_,h=>h
 | d::ds,vs,f,h=>by
  obtain⟨v,r,e,h1,h2⟩:=h
  rw[D.flats,Bool.and_eq_true] at f
  exact⟨v,r,e,RD.flat f.1 h1,RDs.flat f.2 h2⟩
end
theorem RDs.length:∀ {ds:List D} {vs:List V},RDs K H O ds vs→vs.length=ds.length
 | [],_,h=>by rw[RDs] at h;rw[h];rfl
 | d::ds,vs,h=>by
  obtain⟨v,r,e,_,h2⟩:=h
  rw[e,List.length_cons,List.length_cons,RDs.length h2]
theorem RDs.get:∀ {ds:List D} {vs:List V} {i:Nat} {d:D},RDs K H O ds vs→ds[i]?=some d→∃v,vs[i]?=some v∧RD K H O d v
 | [],_,_,_,_,e=>by simp at e
 | d::ds,vs,0,d',h,e=>by
  obtain⟨v,r,rfl,h1,_⟩:=h
  simp at e;subst e
  exact⟨v,rfl,h1⟩
 | d::ds,vs,i+1,d',h,e=>by
  obtain⟨v,r,rfl,_,h2⟩:=h
  obtain⟨w,h3,h4⟩:=RDs.get (i:=i) h2 (by simpa using e)
  exact⟨w,by simpa using h3,h4⟩
theorem RDs.append:∀ {ds es:List D} {vs ws:List V},RDs K H O ds vs→RDs K H O es ws→RDs K H O (ds++es) (vs++ws)
 | [],_,_,_,h,g=>by rw[RDs] at h;subst h;exact g
 | d::ds,es,vs,ws,h,g=>by
  obtain⟨v,r,rfl,h1,h2⟩:=h
  exact⟨v,r++ws,rfl,h1,RDs.append h2 g⟩
theorem RDs.drop:∀ {ds:List D} {vs:List V} (n:Nat),RDs K H O ds vs→RDs K H O (ds.drop n) (vs.drop n)
 | _,_,0,h=>h
 | [],_,n+1,h=>by rw[RDs] at h;subst h;exact rfl
 | d::ds,vs,n+1,h=>by
  obtain⟨v,r,rfl,_,h2⟩:=h
  exact RDs.drop n h2
theorem RDs.take:∀ {ds:List D} {vs:List V} (n:Nat),RDs K H O ds vs→RDs K H O (ds.take n) (vs.take n)
 | _,_,0,_=>by simp[RDs]
 | [],_,n+1,h=>by rw[RDs] at h;subst h;simp[RDs]
 | d::ds,vs,n+1,h=>by
  obtain⟨v,r,rfl,h1,h2⟩:=h
  exact⟨v,r.take n,rfl,h1,RDs.take n h2⟩
theorem RDs.cut {ds:List D} {vs:List V} (lo hi:Option Int) (h:RDs K H O ds vs):RDs K H O (Tr.cut ds lo hi) (cutV vs lo hi):=by
 have e:=RDs.length h
 unfold Tr.cut cutV
 rw[e]
 exact RDs.take _ (RDs.drop _ h)
theorem RDs.cons {d:D} {v:V} {ds:List D} {vs:List V} (h:RD K H O d v) (r:RDs K H O ds vs):RDs K H O (d::ds) (v::vs):=⟨v,vs,rfl,h,r⟩
theorem RDs.nil:RDs K H O [] []:=rfl
theorem RD.rr {d:D} {v:V} (h:RD K H O d v):RR K H O d v:=.inl h
theorem RDs.rr:∀ {ds:List D} {vs:List V},RDs K H O ds vs→RRs K H O ds vs
 | [],_,h=>h
 | d::ds,vs,h=>by
  obtain⟨v,r,e,h1,h2⟩:=h
  exact⟨v,r,e,.inl h1,RDs.rr h2⟩
theorem OwnAt.map (hs:∀ {d v},RDs K H O d v→RDs K H' O' d v) {a:Addr} (ho:∀o,MutO o→H a=some o→H' a=some o):∀ {d:D},OwnAt K H O a d→OwnAt K H' O' a d
 | .lst ds,⟨xs,h1,h2⟩=>⟨xs,ho _ trivial h1,hs h2⟩
 | .non,h | .bl _,h | .int _,h | .str _,h | .tup _,h=>h.elim
theorem OwnAt.same (s:Same H H') {a:Addr} {d:D} (h:OwnAt K H O a d):OwnAt K H' O a d:=OwnAt.map (λq=>q.same s) (λ_ _ q=>s _ _ q) h
theorem OwnAt.new {p:Addr} (hp:H p=none) {a:Addr} {d:D} (h:OwnAt K H O a d):OwnAt K H (plus O p) a d:=OwnAt.map (λq=>q.new hp) (λ_ _ q=>q) h
theorem OwnAt.weak (s:∀a,O' a→O a) {a:Addr} {d:D} (h:OwnAt K H O a d):OwnAt K H O' a d:=OwnAt.map (λq=>q.weak s) (λ_ _ q=>q) h
theorem OwnAt.updM {p:Addr} {o o':HO} (hO:O p) (hp:H p=some o) (hm:MutO o) {a:Addr} (hne:a≠p) {d:D} (h:OwnAt K H O a d):OwnAt K (L2.upd H p o') O a d:=OwnAt.map (λq=>q.updM hO hp hm) (λ_ _ q=>by rw[upd_ne hne];exact q) h
theorem OwnAt.obj {a:Addr}:∀ {d:D},OwnAt K H O a d→∃o,H a=some o∧MutO o
 | .lst ds,⟨xs,h1,h2⟩=>⟨_,h1,trivial⟩
 | .non,h | .bl _,h | .int _,h | .str _,h | .tup _,h=>h.elim
theorem OwnAt.rd {a:Addr} (hn:¬O a):∀ {d:D},OwnAt K H O a d→RD K H O d (.ref a)
 | .lst ds,⟨xs,h1,h2⟩=>⟨a,xs,rfl,.inl ⟨hn,.inl h1⟩,h2⟩
 | .non,h | .bl _,h | .int _,h | .str _,h | .tup _,h=>h.elim
theorem RR.same (s:Same H H') {d:D} {v:V} (h:RR K H O d v):RR K H' O d v:=by
 rcases h with h | ⟨a,e,h⟩
 ·exact .inl (h.same s)
 ·exact .inr ⟨a,e,h.same s⟩
theorem RR.bare {d:D} {v:V} (h:RR K H O d v):RD K H (λ_=>False) d v:=by
 rcases h with h | ⟨a,rfl,h⟩
 ·exact h.weak λ_ z=>z.elim
 ·exact OwnAt.rd (λz=>z) (h.weak λ_ z=>z.elim)
theorem RR.lst {ds:List D} {v:V} (h:RR K H O (.lst ds) v):∃a xs,v=.ref a∧SqL K H a xs∧RDs K H O ds xs:=by
 rcases h with ⟨a,xs,e,s,r⟩ | ⟨a,e,xs,h1,h2⟩
 ·refine⟨a,xs,e,?_,r⟩
  rcases s with ⟨_,s⟩ | s
  ·exact .inl s
  ·exact .inr s
 ·exact⟨a,xs,e,.of h1,h2⟩
theorem RR.tup {ds:List D} {v:V} (h:RR K H O (.tup ds) v):∃a xs,v=.ref a∧SqT K H a xs∧RDs K H O ds xs:=by
 rcases h with h | ⟨a,e,h⟩
 ·exact h
 ·exact h.elim
noncomputable def D.still:D→Bool
 | .lst _=>false
 | _=>true
theorem RR.rd {d:D} {v:V} (h:RR K H O d v) (n:d.still=true):RD K H O d v:=by
 rcases h with h | ⟨a,e,h⟩
 ·exact h
 ·cases d with
  | lst _=>cases n
  | non=>exact h.elim
  | bl _=>exact h.elim
  | int _=>exact h.elim
  | str _=>exact h.elim
  | tup _=>exact h.elim
end
noncomputable def RS (K:PySem.W.Frag) (H:Hp) (O:Addr→Prop) (own:Option Addr):Sl→Option V→Prop
 | .no,_=>True
 | .v d,ov=>∃v,ov=some v∧RD K H O d v
 | .o d,ov=>∃a,own=some a∧ov=some (.ref a)∧OwnAt K H O a d
 | .t ds,ov=>∃t p ys vs a r,own=some p∧ov=some (.ref t)∧ds=.lst a::r∧SqT K H t (.ref p::vs)∧H p=some (.lst ys)∧RDs K H O a ys∧RDs K H O r vs
noncomputable def stAt (σ:L2.St) (i:Nat):Option V:=(σ[i]?).join
set_option genInjectivity false in
structure Fm (K:PySem.W.Frag) (H₀:Hp) (O₀:Addr→Prop) (H:Hp) (O:Addr→Prop) (own:Nat→Option Addr) (e:Nv) (σ:L2.St):Prop where
 len:e.length=σ.length
 sl:∀i,RS K H O (own i) (e.at i) (stAt σ i)
 inj:∀i j a,own i=some a→own j=some a→i=j
 same:Same H₀ H
 sub:∀a,O₀ a→O a
 trk0:∀a,O₀ a→∃o,H₀ a=some o
 trk:∀a,O a→∃o,H a=some o
 new:∀i a,own i=some a→O a∧H₀ a=none
section
variable {K:PySem.W.Frag} {H₀ H H':Hp} {O₀ O O':Addr→Prop} {own:Nat→Option Addr} {e:Nv} {σ:L2.St}
theorem RS.same (s:Same H H') {o:Option Addr} {x:Sl} {ov:Option V} (h:RS K H O o x ov):RS K H' O o x ov:=by
 cases x with
 | no=>trivial
 | v d=>obtain⟨v,e,r⟩:=h;exact⟨v,e,r.same s⟩
 | o d=>obtain⟨a,e1,e2,h⟩:=h;exact⟨a,e1,e2,h.same s⟩
 | t ds=>obtain⟨t,p,ys,vs,a,r,e1,e2,e3,h1,h2,h3,h4⟩:=h;exact⟨t,p,ys,vs,a,r,e1,e2,e3,SqT.same s h1,s _ _ h2,h3.same s,h4.same s⟩
theorem Fm.grow (F:Fm K H₀ O₀ H O own e σ) (s:Same H H'):Fm K H₀ O₀ H' O own e σ :=
 ⟨F.len,λi=>(F.sl i).same s,F.inj,F.same.trans s,F.sub,F.trk0,λa h=>let ⟨xs,q⟩:=F.trk a h;⟨xs,s _ _ q⟩,F.new⟩
end
section
variable {K:PySem.W.Frag} {H₀ H H':Hp} {O₀ O O':Addr→Prop} {own:Nat→Option Addr} {e:Nv} {σ:L2.St}
theorem at_set_same {e:Nv} {i:Nat} {x:Sl} (h:i < e.length):Nv.at (e.set i x) i=x:=by
 unfold Nv.at;rw[List.getElem?_set_self h];rfl
theorem at_set_ne {e:Nv} {i j:Nat} {x:Sl} (h:i≠j):Nv.at (e.set i x) j=Nv.at e j:=by
 unfold Nv.at;rw[List.getElem?_set_ne h]
theorem at_out {e:Nv} {i:Nat} (h:¬i < e.length):Nv.at e i=.no:=by
 unfold Nv.at;rw[List.getElem?_eq_none (by lia)];rfl
theorem st_set_same {σ:L2.St} {i:Nat} {v:V} (h:i < σ.length):stAt (σ.set i (some v)) i=some v:=by
 unfold stAt;rw[List.getElem?_set_self h];rfl
theorem st_set_ne {σ:L2.St} {i j:Nat} {v:Option V} (h:i≠j):stAt (σ.set i v) j=stAt σ j:=by
 unfold stAt;rw[List.getElem?_set_ne h]
theorem st_get {σ:L2.St} {i:Nat} {v:V} (h:stAt σ i=some v):σ[i]?=some (some v):=by
 unfold stAt at h
 cases q:σ[i]? with
 | none=>rw[q] at h;cases h
 | some o=>rw[q] at h;cases o with
  | none=>cases h
  | some w=>cases h;rfl
theorem RS.map (ht:∀ {d v},RD K H O d v→RD K H' O' d v) (hs:∀ {d v},RDs K H O d v→RDs K H' O' d v) {o:Option Addr} (ho:∀a u,o=some a→MutO u→H a=some u→H' a=some u) {x:Sl} {ov:Option V} (h:RS K H O o x ov) (hq:∀a xs,SqT K H a xs→SqT K H' a xs:=by first | exact λ_ _ q=>q | exact λ_ _ q=>SqT.same (by assumption) q):RS K H' O' o x ov:=by
 cases x with
 | no=>trivial
 | v d=>obtain⟨v,e,r⟩:=h;exact⟨v,e,ht r⟩
 | o d=>obtain⟨a,e1,e2,h⟩:=h;exact⟨a,e1,e2,h.map hs λu hm q=>ho a u e1 hm q⟩
 | t ds=>obtain⟨t,p,ys,vs,a,r,e1,e2,e3,h1,h2,h3,h4⟩:=h;exact⟨t,p,ys,vs,a,r,e1,e2,e3,hq _ _ h1,ho p _ e1 trivial h2,hs h3,hs h4⟩
theorem Fm.setV (F:Fm K H₀ O₀ H O own e σ) (i:Nat) {d:D} {v:V} (r:RD K H O d v):Fm K H₀ O₀ H O (λj=>if j=i then none else own j) (e.set i (.v d)) (σ.set i (some v)) where
 len:=by rw[List.length_set,List.length_set];exact F.len
 sl:=λj=>by
  by_cases h:i=j
  ·subst h
   by_cases hi:i < e.length
   ·rw[at_set_same hi,st_set_same (by rw[←F.len];exact hi)];exact⟨v,rfl,r⟩
   ·rw[at_out (by rw[List.length_set];exact hi)];trivial
  ·rw[at_set_ne h,st_set_ne h,if_neg (Ne.symm h)];exact F.sl j
 inj:=λj k a h1 h2=>by
  by_cases h:j=i
  ·rw[if_pos h] at h1;cases h1
  ·by_cases h':k=i
   ·rw[if_pos h'] at h2;cases h2
   ·rw[if_neg h] at h1;rw[if_neg h'] at h2;exact F.inj j k a h1 h2
 same:=F.same
 sub:=F.sub
 trk0:=F.trk0
 trk:=F.trk
 new:=λj a h1=>by
  by_cases h:j=i
  ·rw[if_pos h] at h1;cases h1
  ·rw[if_neg h] at h1;exact F.new j a h1
theorem Fm.setO (F:Fm K H₀ O₀ H O own e σ) (s:Same H H') (i:Nat) {d:D} {p:Addr} (hp:H p=none) (r:OwnAt K H' (plus O p) p d) :
 Fm K H₀ O₀ H' (plus O p) (λj=>if j=i then some p else own j) (e.set i (.o d)) (σ.set i (some (.ref p))) where
 len:=by rw[List.length_set,List.length_set];exact F.len
 sl:=λj=>by
  by_cases h:i=j
  ·subst h
   rw[if_pos rfl]
   by_cases hi:i < e.length
   ·rw[at_set_same hi,st_set_same (by rw[←F.len];exact hi)];exact⟨p,rfl,rfl,r⟩
   ·rw[at_out (by rw[List.length_set];exact hi)];trivial
  ·rw[at_set_ne h,st_set_ne h,if_neg (Ne.symm h)]
   exact RS.map (λq=>(q.new hp).same s) (λq=>(q.new hp).same s) (λa u _ _ q=>s _ _ q) (F.sl j)
 inj:=λj k a h1 h2=>by
  have no:∀j,own j≠some p:=λj q=>by
   obtain⟨xs,w⟩:=F.trk p (F.new j p q).1
   rw[hp] at w;cases w
  by_cases h:j=i
  ·rw[if_pos h] at h1
   cases h1
   by_cases h':k=i
   ·rw[h,h']
   ·rw[if_neg h'] at h2;exact absurd h2 (no k)
  ·rw[if_neg h] at h1
   by_cases h':k=i
   ·rw[if_pos h'] at h2;cases h2;exact absurd h1 (no j)
   ·rw[if_neg h'] at h2;exact F.inj j k a h1 h2
 same:=F.same.trans s
 sub:=λa h=>.inl (F.sub a h)
 trk0:=F.trk0
 trk:=λa h=>by
  rcases h with h | h
  ·obtain⟨ys,q⟩:=F.trk a h
   exact⟨ys,s _ _ q⟩
  ·subst h
   obtain⟨o,h1,_⟩:=r.obj
   exact⟨o,h1⟩
 new:=λj a h1=>by
  by_cases h:j=i
  ·rw[if_pos h] at h1;cases h1;exact⟨.inr rfl,F.same.free hp⟩
  ·rw[if_neg h] at h1;exact⟨.inl (F.new j a h1).1,(F.new j a h1).2⟩
theorem Fm.mutA (F:Fm K H₀ O₀ H O own e σ) (i:Nat) {d:D} (hi:e.at i=.o d):∃p,stAt σ i=some (.ref p)∧OwnAt K H O p d∧O p ∧
 ∀d' o',(∀o,H p=some o→OwnAt K (upd H p o') O p d')→Fm K H₀ O₀ (upd H p o') O own (e.set i (.o d')) σ:=by
 have q:=F.sl i
 rw[hi] at q
 obtain⟨p,e1,e2,h1⟩:=q
 obtain⟨o,ho,hm⟩:=h1.obj
 have hn:=F.new i p e1
 refine⟨p,e2,h1,hn.1,λd' o' r=>?_⟩
 have hlen:i < e.length:=by
  by_cases h:i < e.length
  ·exact h
  ·rw[at_out h] at hi;cases hi
 refine⟨by rw[List.length_set];exact F.len,λj=>?_,F.inj,λb u hb=>?_,F.sub,F.trk0,λa ha=>?_,F.new⟩
 ·by_cases h:i=j
  ·subst h
   rw[at_set_same hlen,e2]
   exact⟨p,e1,rfl,r o ho⟩
  ·rw[at_set_ne h]
   refine RS.map (λq=>q.updM hn.1 ho hm) (λq=>q.updM hn.1 ho hm) (λa u ea _ q=>?_) (F.sl j) (upd_map (K:=K) hn.1 ho hm).1
   have:a≠p:=λz=>h (F.inj i j p e1 (z▸ea))
   rw[upd_ne this];exact q
 ·rw[upd_ne (λz=>by rw[z,hn.2] at hb;cases hb)];exact F.same b u hb
 ·by_cases h:a=p
  ·subst h;exact⟨_,upd_same⟩
  ·obtain⟨ys,q⟩:=F.trk a ha
   exact⟨ys,by rw[upd_ne h];exact q⟩
theorem Fm.mut (F:Fm K H₀ O₀ H O own e σ) (i:Nat) {ds:List D} (hi:e.at i=.o (.lst ds)):∃p xs,stAt σ i=some (.ref p)∧H p=some (.lst xs)∧RDs K H O ds xs∧O p ∧
 ∀ds' xs',RDs K H O ds' xs'→Fm K H₀ O₀ (upd H p (.lst xs')) O own (e.set i (.o (.lst ds'))) σ:=by
 obtain⟨p,e2,⟨xs,h1,h2⟩,hO,k⟩:=F.mutA i hi
 exact⟨p,xs,e2,h1,h2,hO,λds' xs' r=>k (.lst ds') (.lst xs') λ_ _=>⟨xs',upd_same,r.upd hO h1⟩⟩
theorem Fm.seal (F:Fm K H₀ O₀ H O own e σ) (i:Nat) {d:D} (hi:e.at i=.o d):∃O' own',Fm K H₀ O₀ H O' own' (e.set i (.v d)) σ∧∀a,O' a→O a:=by
 have q:=F.sl i
 rw[hi] at q
 obtain⟨p,e1,e2,h1⟩:=q
 have hn:=F.new i p e1
 have hlen:i < e.length:=by
  by_cases h:i < e.length
  ·exact h
  ·rw[at_out h] at hi;cases hi
 refine⟨minus O p,λj=>if j=i then none else own j,⟨by rw[List.length_set];exact F.len,λj=>?_,λj k a q1 q2=>?_,F.same,λa ha=>⟨F.sub a ha,λz=>?_⟩,F.trk0,λa ha=>F.trk a ha.1,λj a q1=>?_⟩,λa ha=>ha.1⟩
 ·by_cases h:i=j
  ·subst h
   rw[at_set_same hlen,e2]
   exact⟨.ref p,rfl,OwnAt.rd (λz=>z.2 rfl) (h1.weak λ_ z=>z.1)⟩
  ·rw[at_set_ne h,if_neg (Ne.symm h)]
   exact RS.map (λq=>q.weak λ_ z=>z.1) (λq=>q.weak λ_ z=>z.1) (λa ys _ _ q=>q) (F.sl j)
 ·by_cases h:j=i
  ·rw[if_pos h] at q1;cases q1
  ·by_cases h':k=i
   ·rw[if_pos h'] at q2;cases q2
   ·rw[if_neg h] at q1;rw[if_neg h'] at q2;exact F.inj j k a q1 q2
 ·obtain⟨o,w⟩:=F.trk0 a ha
  rw[z,hn.2] at w;cases w
 ·by_cases h:j=i
  ·rw[if_pos h] at q1;cases q1
  ·rw[if_neg h] at q1
   exact⟨⟨(F.new j a q1).1,λz=>h (F.inj j i p (z▸q1) e1)⟩,(F.new j a q1).2⟩
theorem Fm.val (F:Fm K H₀ O₀ H O own e σ) {i:Nat} {d:D} (h:(e.at i).val=.ok d):∃v,σ[i]?=some (some v)∧RD K H O d v:=by
 have q:=F.sl i
 cases z:e.at i with
 | no=>rw[z] at h;cases h
 | o d=>rw[z] at h;cases h
 | t d=>rw[z] at h;cases h
 | v d' =>
  rw[z] at h q
  cases h
  obtain⟨v,e1,r⟩:=q
  exact⟨v,st_get e1,r⟩
theorem Fm.any (F:Fm K H₀ O₀ H O own e σ) {i:Nat} {d:D} (h:(e.at i).any=.ok d):∃v,σ[i]?=some (some v)∧RR K H O d v:=by
 have q:=F.sl i
 cases z:e.at i with
 | no=>rw[z] at h;cases h
 | t d=>rw[z] at h;cases h
 | o d' =>
  rw[z] at h q
  cases h
  obtain⟨a,e1,e2,h1⟩:=q
  exact⟨.ref a,st_get e2,.inr ⟨a,rfl,h1⟩⟩
 | v d' =>
  rw[z] at h q
  cases h
  obtain⟨v,e1,r⟩:=q
  exact⟨v,st_get e1,.inl r⟩
theorem Sl.own_ok {x:Sl} {a:List D} (h:x.own=.ok a):x=.o (.lst a):=by
 unfold Sl.own at h
 split at h
 ·cases h;rfl
 ·cases h
theorem Sl.ownA_ok {x:Sl} {a:D} (h:x.ownA=.ok a):x=.o a:=by
 unfold Sl.ownA at h
 split at h
 ·cases h;rfl
 ·cases h
end
noncomputable def NewL (K:PySem.W.Frag) (H H':Hp) (O:Addr→Prop) (d:D) (v:V):Prop:=d.still=false→∃a,v=.ref a∧H a=none∧OwnAt K H' (plus O a) a d
theorem NewL.back {K:PySem.W.Frag} {H1 H H':Hp} {O:Addr→Prop} {d:D} {v:V} (s:Same H1 H) (n:NewL K H H' O d v):NewL K H1 H' O d v:=λz=>by
 obtain⟨a,h1,h2,h3⟩:=n z
 exact⟨a,h1,s.free h2,h3⟩
theorem NewL.weak {K:PySem.W.Frag} {H H':Hp} {O O':Addr→Prop} {d:D} {v:V} (s:∀a,O' a→O a) (n:NewL K H H' O d v):NewL K H H' O' d v:=λz=>by
 obtain⟨a,h1,h2,h3⟩:=n z
 exact⟨a,h1,h2,h3.weak λb hb=>hb.imp (s b) id⟩
theorem NewL.still {K:PySem.W.Frag} {H H':Hp} {O:Addr→Prop} {d:D} {v:V} (h:d.still=true):NewL K H H' O d v:=λz=>by rw[h] at z;cases z
noncomputable def NewR (K:PySem.W.Frag) (H H':Hp) (O:Addr→Prop) (d:D) (v:V):Prop:=NewL K H H' O d v∧∀a r,d=.tup (.lst a::r)→∃t p ys vs,v=.ref t∧SqT K H' t (.ref p::vs)∧H p=none∧H' p=some (.lst ys)∧RDs K H' (plus O p) a ys∧RDs K H' (plus O p) r vs
theorem NewR.of {K:PySem.W.Frag} {H H':Hp} {O:Addr→Prop} {d:D} {v:V} (n:NewL K H H' O d v) (h:tupL d=false):NewR K H H' O d v:=⟨n,λa r z=>by subst z;cases h⟩
section
variable (T:Tab) (cf:Nat→List D→Res D) (K:PySem.W.Frag) (H₀:Hp) (O₀:Addr→Prop)
noncomputable def tE (x:E):TE:=λσ H Q=>∃O own e d,Fm K H₀ O₀ H O own e σ∧evE T cf x e=.ok d∧∀v H',Same H H'→RD K H' O d v→(freshE T x=true→NewL K H H' O d v)→Q v H'
noncomputable def tR (x:E):TE:=λσ H Q=>∃O own e d,Fm K H₀ O₀ H O own e σ∧evE T cf x e=.ok d∧∀v H',Same H H'→RR K H' O d v→Q v H'
noncomputable def tT (x:E):TT:=λσ H Q=>∃O own e d k,Fm K H₀ O₀ H O own e σ∧evE T cf x e=.ok d∧d.truth=.ok k∧∀H',Same H H'→Q k H'
noncomputable def tAv (x:E):TA:=λσ H Q=>∃O own e ds,Fm K H₀ O₀ H O own e σ∧evA T cf x e=.ok ds∧∀vs H',Same H H'→RDs K H' O ds vs→Q vs H'
noncomputable def tAr (x:E):TA:=λσ H Q=>∃O own e ds,Fm K H₀ O₀ H O own e σ∧evA T cf x e=.ok ds∧∀vs H',Same H H'→RRs K H' O ds vs→Q vs H'
end
section
variable (T:Tab) (cf:Nat→List D→Res D) (X:Cx)
noncomputable def SE (x:E) (p:Expr):Prop:=∀H₀ O₀,PE X p (tE T cf X.K H₀ O₀ x)
noncomputable def SR (x:E) (p:Expr):Prop:=∀H₀ O₀,PE X p (tR T cf X.K H₀ O₀ x)
noncomputable def ST (x:E) (p:Expr):Prop:=∀H₀ O₀,PT X p (tT T cf X.K H₀ O₀ x)
noncomputable def SAv (x:E) (p:List Expr):Prop:=∀H₀ O₀,PA X p (tAv T cf X.K H₀ O₀ x)
noncomputable def SAr (x:E) (p:List Expr):Prop:=∀H₀ O₀,PA X p (tAr T cf X.K H₀ O₀ x)
end
section
variable {T:Tab} {cf:Nat→List D→Res D} {X:Cx} {x y z:E} {p q r:Expr} {pos:Pos}
theorem PE.imp {t t':TE} (h:∀σ H Q,t' σ H Q→t σ H Q) (hp:PE X p t):PE X p t':=λpins s σ H Q I q=>hp pins s σ H Q I (h σ H Q q)
theorem PT.imp {t t':TT} (h:∀σ H Q,t' σ H Q→t σ H Q) (hp:PT X p t):PT X p t':=λpins s σ H Q I q=>hp pins s σ H Q I (h σ H Q q)
theorem SE.sr (h:SE T cf X x p):SR T cf X x p:=λH₀ O₀=>PE.imp (λσ H Q ⟨O,own,e,d,F,ev,q⟩=>⟨O,own,e,d,F,ev,λv H' s r _=>q v H' s r.rr⟩) (h H₀ O₀)
theorem SAv.sr {ps:List Expr} (h:SAv T cf X x ps):SAr T cf X x ps:=λH₀ O₀ pos pins s σ H Q I ⟨O,own,e,ds,F,ev,q⟩=>h H₀ O₀ pos pins s σ H Q I ⟨O,own,e,ds,F,ev,λvs H' s r=>q vs H' s r.rr⟩
theorem se_var {i:Nat} {n:Str} (hN:X.N[i]?=some n) (hv:Vis X.env.scope n) (hd:(n==("__debug__" : Str))=false) (hc:(n==("__classdict__" : Str))=false):SE T cf X (.var i) (.Name n pos):=λH₀ O₀ =>
 PE.imp (λσ H Q hz__=>by
  obtain⟨O,own,e,d,F,ev,q⟩:=hz__
  obtain⟨v,h1,h2⟩:=F.val (i:=i) (by rw[xE_var] at ev;exact ev)
  exact⟨v,h1,q v H (Same.refl H) h2 (λz=>by cases z)⟩) (pe_var hN hv hd hc)
theorem sr_rd {i:Nat} {n:Str} (hN:X.N[i]?=some n) (hv:Vis X.env.scope n) (hd:(n==("__debug__" : Str))=false) (hc:(n==("__classdict__" : Str))=false):SR T cf X (.rd i) (.Name n pos):=λH₀ O₀ =>
 PE.imp (λσ H Q hz__=>by
  obtain⟨O,own,e,d,F,ev,q⟩:=hz__
  obtain⟨v,h1,h2⟩:=F.any (i:=i) (by rw[xE_rd] at ev;exact ev)
  exact⟨v,h1,q v H (Same.refl H) h2⟩) (pe_var hN hv hd hc)
noncomputable def cstIs:D→Const→Bool
 | .non,.none=>true
 | .bl a,.bool b=>a==b
 | .int i,.int j=>i==j
 | .str a,.str b=>a==b
 | _,_=>false
theorem se_con {d:D} {c:Const} {k:Nat} (h:cstIs d c=true):SE T cf X (.con d) (.Constant c k pos):=λH₀ O₀=>by
 have fin:∀ {v:V} {σ:L2.St} {H:Hp} {Q:VK},(∀H O,RD X.K H O d v)→tE T cf X.K H₀ O₀ (.con d) σ H Q→Q v H:=λhv hz__=>by
  obtain⟨O,own,e,d',F,ev,q⟩:=hz__
  rw[xE_con] at ev;cases ev
  exact q _ _ (Same.refl _) (hv _ _) (λz=>by cases z)
 cases d<;>cases c<;>first
  | (exact absurd (show false=true from h) Bool.false_ne_true)
  | (exact PE.imp (λσ H Q w=>fin (v:=.non) (λ_ _=>rfl) w) pe_non)
  | (have e:=eq_of_beq (show _==_ from h);subst e;first
   | exact PE.imp (λσ H Q w=>fin (λ_ _=>rfl) w) pe_bl
   | exact PE.imp (λσ H Q w=>fin (λ_ _=>rfl) w) pe_int
   | exact PE.imp (λσ H Q w=>fin (λ_ _=>rfl) w) pe_str)
noncomputable def GlobIs (X:Cx) (n:Str) (d:D):Prop:=∃v u,X.mg n=some u∧RelV v u∧∀H O,RD X.K H O d v
theorem se_glob {g:Nat} {n:Str} (hg:Gl X n) (h:GlobIs X n (T.glob g)) (hd:(n==("__debug__" : Str))=false):SE T cf X (.glob g) (.Name n pos):=λH₀ O₀=>by
 obtain⟨v,u,hm,r,hv⟩:=h
 refine PE.imp (λσ H Q hq=>?_) (pe_glob (v:=v) hg hm r hd)
 obtain⟨O,own,e,d,F,ev,q⟩:=hq
 rw[xE_glob] at ev;cases ev
 exact q v H (Same.refl H) (hv H O) (λz=>by cases z)
noncomputable def rD2 (K:PySem.W.Frag) (f:D→D→Res D) (fr:Bool):R2:=λx y H Q=>∃O d1 d2 d,RR K H O d1 x∧RR K H O d2 y∧f d1 d2=.ok d∧(∀a,O a→∃o,H a=some o)∧∀v H',Same H H'→RD K H' O d v→(fr=true→NewL K H H' O d v)→Q v H'
theorem se_op2 {w:E} {pe:Expr} {f:D→D→Res D} (hw:∀e,evE T cf w e=(do let a ←evE T cf x e;let b ←evE T cf y e;f a b))
 (hop:∀ {ta tb:TE},PE X p ta→PE X q tb→PE X pe (tOp (rD2 X.K f (freshE T w)) ta tb)) (ha:SR T cf X x p) (hb:SR T cf X y q):SE T cf X w pe:=λH₀ O₀=>by
 refine PE.imp (λσ H Q hq=>?_) (hop (ha H₀ O₀) (hb H₀ O₀))
 obtain⟨O,own,e,d,F,ev,k⟩:=hq
 rw[hw] at ev
 obtain⟨d1,e1,ev⟩:=Res.bind_ok ev
 obtain⟨d2,e2,ev⟩:=Res.bind_ok ev
 refine⟨O,own,e,d1,F,e1,λv1 H1 s1 r1=>?_⟩
 refine⟨O,own,e,d2,F.grow s1,e2,λv2 H2 s2 r2=>?_⟩
 refine⟨O,d1,d2,d,r1.same s2,r2,ev,λa ha=>?_,λv H' s3 r3 n3=>?_⟩
 ·exact (F.grow (s1.trans s2)).trk a ha
 ·exact k v H' ((s1.trans s2).trans s3) r3 λfr=>(n3 fr).back (s1.trans s2)
end
noncomputable abbrev no:Addr→Prop:=λ_=>False
section
variable {X:Cx} {pins:List (Addr×Obj)} {σ:L2.St} {H:Hp} {s:Shared}
theorem sq_apart (I:Inv X pins σ H s) {a:Addr} {xs ys:List V} (h1:SqL X.K H a xs) (h2:SqT X.K H a ys):False:=by
 obtain⟨its,_,pl,_⟩:=I.list h1
 obtain⟨its',_,pt,_⟩:=I.tuple h2
 exact SeqAt.ne_of_list_tuple pl.isList pt rfl
theorem RD.sql {K:PySem.W.Frag} {O:Addr→Prop} {ds:List D} {v:V} (h:RD K H O (.lst ds) v):∃a xs,v=.ref a∧SqL K H a xs∧RDs K H O ds xs:=RR.lst (.inl h)
mutual
theorem RD.inj (I:Inv X pins σ H s):∀ {d d':D} {v:V},RD X.K H no d v→RD X.K H no d' v→d=d'
 | .non,d',v,h,h'=>by cases (show v=.non from h);cases d'<;>first | (obtain⟨a,xs,e,_⟩:=h';cases e;done) | rfl | (cases h';done)
 | .bl b,d',v,h,h'=>by cases (show v=.bl b from h);cases d'<;>first | (obtain⟨a,xs,e,_⟩:=h';cases e;done) | rfl | (cases h';rfl) | (cases h';done)
 | .int b,d',v,h,h'=>by cases (show v=.int b from h);cases d'<;>first | (obtain⟨a,xs,e,_⟩:=h';cases e;done) | rfl | (cases h';rfl) | (cases h';done)
 | .str b,d',v,h,h'=>by cases (show v=.str b from h);cases d'<;>first | (obtain⟨a,xs,e,_⟩:=h';cases e;done) | rfl | (cases h';rfl) | (cases h';done)
 | .tup ds,d',v,h,h'=>by
  obtain⟨a,xs,e,q,r⟩:=h
  subst e
  cases d' with
  | tup ds' =>
   obtain⟨a',xs',e,q',r'⟩:=h'
   cases e
   have:=I.tuple_inj q q'
   subst this
   rw[RDs.inj I r r']
  | lst ds' =>
   obtain⟨a',xs',e,q',r'⟩:=RD.sql h'
   cases e
   exact (sq_apart I q' q).elim
  | non=>cases h'
  | bl _=>cases h'
  | int _=>cases h'
  | str _=>cases h'
 | .lst ds,d',v,h,h'=>by
  obtain⟨a,xs,e,q,r⟩:=RD.sql h
  subst e
  cases d' with
  | lst ds' =>
   obtain⟨a',xs',e,q',r'⟩:=RD.sql h'
   cases e
   have:=I.list_inj q q'
   subst this
   rw[RDs.inj I r r']
  | tup ds' =>
   obtain⟨a',xs',e,q',r'⟩:=h'
   cases e
   exact (sq_apart I q q').elim
  | non=>cases h'
  | bl _=>cases h'
  | int _=>cases h'
  | str _=>cases h'
theorem RDs.inj (I:Inv X pins σ H s):∀ {ds ds':List D} {vs:List V},RDs X.K H no ds vs→RDs X.K H no ds' vs→ds=ds'
 | [],[],_,_,_=>rfl
 | [],_::_,_,h,h'=>by
  rw[RDs] at h;subst h
  obtain⟨_,_,e,_⟩:=h';cases e
 | _::_,[],_,h,h'=>by
  rw[RDs] at h';subst h'
  obtain⟨_,_,e,_⟩:=h;cases e
 | d::ds,d'::ds',vs,h,h'=>by
  obtain⟨v,r,rfl,h1,h2⟩:=h
  obtain⟨v',r',e,h1',h2'⟩:=h'
  cases e
  rw[RD.inj I h1 h1',RDs.inj I h2 h2']
end
noncomputable def pairEq (xs ys:List D) (j:Nat):Bool:=match xs[j]?,ys[j]? with
 | some x,some y=>D.eqb x y
 | _,_=>false
theorem pairEq_succ (x y:D) (xs ys:List D) (j:Nat):pairEq (x::xs) (y::ys) (j+1)=pairEq xs ys j:=by simp[pairEq]
theorem eqs_all:∀xs ys:List D,xs.length=ys.length→(List.range xs.length).all (pairEq xs ys)=D.eqs xs ys
 | [],[],_=>by simp[D.eqs]
 | [],_::_,h=>by simp at h
 | _::_,[],h=>by simp at h
 | x::xs,y::ys,h=>by
  rw[List.length_cons,List.range_succ_eq_map,List.all_cons,List.all_map,D.eqs,←eqs_all xs ys (by simpa using h)]
  congr 1
theorem eqs_len:∀xs ys:List D,xs.length≠ys.length→D.eqs xs ys=false
 | [],[],h=>by simp at h
 | [],_::_,_=>by simp[D.eqs]
 | _::_,[],_=>by simp[D.eqs]
 | x::xs,y::ys,h=>by rw[D.eqs,eqs_len xs ys (by simpa using h),Bool.and_false]
theorem min_len {xs ys:List D}:((List.range (min xs.length ys.length)).all (pairEq xs ys)&&xs.length==ys.length)=D.eqs xs ys:=by
 by_cases h:xs.length=ys.length
 ·rw[←eqs_all xs ys h,h,Nat.min_self];simp
 ·rw[eqs_len xs ys h];simp[h]
inductive Sees (X:Cx) (H:Hp) (s:Shared):D→Value→Prop
 | non:Sees X H s .non .none
 | bl (b):Sees X H s (.bl b) (.bool b)
 | int (i t):Sees X H s (.int i) (.int i t)
 | str (x t):Sees X H s (.str x) (.str x t)
 | tup (ds:List D) (a:Addr) (xs:List V) (its:List Value):SqT X.K H a xs→RDs X.K H no ds xs→Vals xs its→IsTup s.heap a its.toArray→Sees X H s (.tup ds) (.ref a)
 | lst (ds:List D) (a:Addr) (xs:List V) (its:List Value):SqL X.K H a xs→RDs X.K H no ds xs→Vals xs its→PlainL s.heap a its.toArray→Sees X H s (.lst ds) (.ref a)
theorem sees (I:Inv X pins σ H s) {d:D} {v:V} {u:Value} (h:RD X.K H no d v) (r:RelV v u):Sees X H s d u:=by
 cases d with
 | non=>cases (show v=.non from h);cases r;exact .non
 | bl b=>cases (show v=.bl b from h);cases r;exact .bl b
 | int i=>cases (show v=.int i from h);obtain⟨t,rfl⟩:=r;exact .int i t
 | str x=>cases (show v=.str x from h);obtain⟨t,rfl⟩:=r;exact .str x t
 | tup ds =>
  obtain⟨a,xs,rfl,q,w⟩:=h
  cases r
  obtain⟨its,r1,p1,_⟩:=I.tuple q
  exact .tup ds a xs its q w r1 p1
 | lst ds =>
  obtain⟨a,xs,rfl,q,w⟩:=RD.sql h
  cases r
  obtain⟨its,r1,p1,_⟩:=I.list q
  exact .lst ds a xs its q w r1 p1
theorem rds_at {ds:List D} {xs:List V} {its:List Value} (w:RDs X.K H no ds xs) (r:Vals xs its):its.length=ds.length:=by rw[←r.length,w.length]
noncomputable def EqItems (X:Cx) (H:Hp) (s:Shared) (n:Nat):Prop:=∀(ds1 ds2:List D) (A:Around) (us1 us2:List Value) (xs1 xs2:List V),RDs X.K H no ds1 xs1→Vals xs1 us1→RDs X.K H no ds2 xs2→Vals xs2 us2→D.pls n ds1=true→D.pls n ds2=true→A.units+n < cLine →
 ∀j (h1:j < us1.length) (h2:j < us2.length),SeqAt.EqAt A.in1 s us1[j] us2[j] (pairEq ds1 ds2 j)
noncomputable def EqData (X:Cx) (H:Hp) (s:Shared) (n:Nat):Prop:=∀(d1 d2:D) (A:Around) (u1 u2:Value),Sees X H s d1 u1→Sees X H s d2 u2→D.pl n d1=true→D.pl n d2=true→A.units+n < cLine→SeqAt.EqAt A s u1 u2 (D.eqb d1 d2)
theorem eqData_of (I:Inv X pins σ H s) {n:Nat} (it:EqItems X H s n):EqData X H s n:=by
 intro d1 d2 A u1 u2 h1 h2 f1 f2 hu
 have hu':A.units < cLine:=by lia
 cases h1 with
 | non=>cases h2 with
  | non=>exact SeqAt.EqAt.same _
  | bl b=>exact SeqAt.EqAt.none_bool b
  | int b t=>exact SeqAt.EqAt.none_int b t
  | str b t=>exact SeqAt.EqAt.none_str b t
  | tup ds a xs its q w r p=>exact SeqAt.EqAt.none_tuple p hu'
  | lst ds a xs its q w r p=>exact SeqAt.EqAt.none_list p.isList hu'
 | bl x=>cases h2 with
  | non=>exact SeqAt.EqAt.bool_none x
  | bl b=>exact SeqAt.EqAt.bool_bool x b
  | int b t=>exact SeqAt.EqAt.bool_int x b t
  | str b t=>exact SeqAt.EqAt.bool_str x b t
  | tup ds a xs its q w r p=>exact SeqAt.EqAt.bool_tuple x p hu'
  | lst ds a xs its q w r p=>exact SeqAt.EqAt.bool_list x p.isList hu'
 | int x t'=>cases h2 with
  | non=>exact SeqAt.EqAt.int_none x t'
  | bl b=>exact SeqAt.EqAt.int_bool x t' b
  | int b t=>exact SeqAt.EqAt.int_int x t' b t
  | str b t=>exact SeqAt.EqAt.int_str x t' b t
  | tup ds a xs its q w r p=>exact SeqAt.EqAt.int_tuple x t' p hu'
  | lst ds a xs its q w r p=>exact SeqAt.EqAt.int_list x t' p.isList hu'
 | str x t'=>cases h2 with
  | non=>exact SeqAt.EqAt.str_none x t'
  | bl b=>exact SeqAt.EqAt.str_bool x t' b
  | int b t=>exact SeqAt.EqAt.str_int x t' b t
  | str b t=>exact SeqAt.EqAt.str_str x t' b t
  | tup ds a xs its q w r p=>exact SeqAt.EqAt.str_tuple x t' p hu'
  | lst ds a xs its q w r p=>exact SeqAt.EqAt.str_list x t' p.isList hu'
 | tup ds1 a1 xs1 its1 q1 w1 r1 p1=>cases h2 with
  | non=>exact SeqAt.EqAt.tuple_none p1 hu'
  | bl b=>exact SeqAt.EqAt.tuple_bool b p1 hu'
  | int b t=>exact SeqAt.EqAt.tuple_int b t p1 hu'
  | str b t=>exact SeqAt.EqAt.tuple_str b t p1 hu'
  | lst ds a xs its q w r p=>exact SeqAt.EqAt.tuple_list p1 p.isList hu'
  | tup ds2 a2 xs2 its2 q2 w2 r2 p2 =>
   by_cases ha:a1=a2
   ·subst ha
    have:=I.tuple_inj q1 q2
    subst this
    have:=RDs.inj I w1 w2
    subst this
    rw[D.eqb_refl n _ f1]
    exact SeqAt.EqAt.same _
   ·rw[D.eqb,←min_len,←rds_at w1 r1,←rds_at w2 r2]
    have z:=SeqAt.EqAt.of_refs ha (SeqAt.RcAt.tuples (A:=A) (e:=pairEq ds1 ds2) p1 p2 hu' λj j1 j2=>by
     have:=it ds1 ds2 A its1 its2 xs1 xs2 w1 r1 w2 r2 (by rw[D.pl] at f1;exact f1) (by rw[D.pl] at f2;exact f2) hu j (by simpa using j1) (by simpa using j2)
     simpa using this)
    simpa using z
 | lst ds1 a1 xs1 its1 q1 w1 r1 p1=>cases h2 with
  | non=>exact SeqAt.EqAt.list_none p1.isList hu'
  | bl b=>exact SeqAt.EqAt.list_bool b p1.isList hu'
  | int b t=>exact SeqAt.EqAt.list_int b t p1.isList hu'
  | str b t=>exact SeqAt.EqAt.list_str b t p1.isList hu'
  | tup ds a xs its q w r p=>exact SeqAt.EqAt.list_tuple p1.isList p hu'
  | lst ds2 a2 xs2 its2 q2 w2 r2 p2 =>
   by_cases ha:a1=a2
   ·subst ha
    have:=I.list_inj q1 q2
    subst this
    have:=RDs.inj I w1 w2
    subst this
    rw[D.eqb_refl n _ f1]
    exact SeqAt.EqAt.same _
   ·have l1:=rds_at w1 r1
    have l2:=rds_at w2 r2
    rw[D.eqb]
    by_cases hl:ds1.length=ds2.length
    ·rw[←eqs_all ds1 ds2 hl,←l1]
     have z:=SeqAt.EqAt.of_refs ha (SeqAt.RcAt.lists (A:=A) (e:=pairEq ds1 ds2) p1.isList p2.isList (by simp only[List.size_toArray];lia) hu' λj j1 j2=>by
      have:=it ds1 ds2 A its1 its2 xs1 xs2 w1 r1 w2 r2 (by rw[D.pl] at f1;exact f1) (by rw[D.pl] at f2;exact f2) hu j (by simpa using j1) (by simpa using j2)
      simpa using this)
     simpa using z
    ·rw[eqs_len ds1 ds2 hl]
     exact SeqAt.EqAt.of_refs ha (SeqAt.RcAt.lists_lengths p1.isList p2.isList (by simp only[List.size_toArray,bne_iff_ne,ne_eq];lia) hu')
theorem eqItems_zero:EqItems X H s 0:=by
 intro ds1 ds2 A us1 us2 xs1 xs2 w1 r1 w2 r2 f1 f2 hu j h1 h2
 cases ds1 with
 | nil =>
  rw[RDs] at w1;subst w1
  cases r1
  exact absurd h1 (Nat.not_lt_zero _)
 | cons d ds=>rw[D.pls] at f1;cases f1
theorem eqItems_succ (I:Inv X pins σ H s) {n:Nat} (ih:EqData X H s n):EqItems X H s (n+1):=by
 intro ds1
 induction ds1 with
 | nil =>
  intro ds2 A us1 us2 xs1 xs2 w1 r1 w2 r2 f1 f2 hu j h1 h2
  rw[RDs] at w1;subst w1
  cases r1
  exact absurd h1 (Nat.not_lt_zero _)
 | cons d1 ds1 ih2 =>
  intro ds2 A us1 us2 xs1 xs2 w1 r1 w2 r2 f1 f2 hu j h1 h2
  cases ds2 with
  | nil =>
   rw[RDs] at w2;subst w2
   cases r2
   exact absurd h2 (Nat.not_lt_zero _)
  | cons d2 ds2 =>
   obtain⟨v1,y1,rfl,e1,w1⟩:=w1
   obtain⟨v2,y2,rfl,e2,w2⟩:=w2
   cases r1 with
   | cons a1 r1 =>
    cases r2 with
    | cons a2 r2 =>
     rw[D.pls,Bool.and_eq_true] at f1 f2
     cases j with
     | zero=>exact ih d1 d2 A.in1 _ _ (sees I e1 a1) (sees I e2 a2) f1.1 f2.1 (by show A.units+1+n < cLine;lia)
     | succ j =>
      rw[pairEq_succ]
      exact ih2 ds2 A _ _ _ _ w1 r1 w2 r2 f1.2 f2.2 hu j (Nat.lt_of_succ_lt_succ h1) (Nat.lt_of_succ_lt_succ h2)
theorem eqItems (I:Inv X pins σ H s):∀n,EqItems X H s n
 | 0=>eqItems_zero
 | n+1=>eqItems_succ I (eqData_of I (eqItems I n))
theorem eqAt_D (I:Inv X pins σ H s) (n:Nat):EqData X H s n:=eqData_of I (eqItems I n)
theorem eqAt_Ds (I:Inv X pins σ H s) (n:Nat):EqItems X H s n:=eqItems I n
end
theorem same_upd {H:Hp} {p:Addr} (h:H p=none) (o:HO):Same H (upd H p o):=λb u q=>by rw[upd_ne (ne_of_none q h)];exact q
section
variable {K:PySem.W.Frag} {H:Hp} {O:Addr→Prop} {p:Addr} {ds:List D} {xs:List V}
theorem new_lst (w:RDs K H O ds xs) (hp:H p=none) (tr:∀a,O a→∃o,H a=some o):RD K (upd H p (.lst xs)) O (.lst ds) (.ref p)∧NewL K H (upd H p (.lst xs)) O (.lst ds) (.ref p):=by
 have nO:¬O p:=λz=>by
  obtain⟨o,q⟩:=tr p z
  rw[hp] at q;cases q
 exact⟨⟨p,xs,rfl,.inl ⟨nO,.inl upd_same⟩,w.same (same_upd hp _)⟩,λ_=>⟨p,rfl,hp,xs,upd_same,(w.new hp).same (same_upd hp _)⟩⟩
theorem new_tup (w:RDs K H O ds xs) (hp:H p=none):RD K (upd H p (.tup xs)) O (.tup ds) (.ref p):=⟨p,xs,rfl,.of upd_same,w.same (same_upd hp _)⟩
end
section
variable {X:Cx} {pins:List (Addr×Obj)} {σ:L2.St} {H:Hp} {s:Shared}
theorem rcAt_D (I:Inv X pins σ H s) {n:Nat} {d1 d2:D} {A:Around} {u1 u2:Value} (h1:Sees X H s d1 u1) (h2:Sees X H s d2 u2) (f1:D.pl n d1=true) (f2:D.pl n d2=true) (hu:A.units+n < cLine):SeqAt.RcAt A s u1 u2 (D.eqb d1 d2):=by
 have hu':A.units < cLine:=by lia
 cases h1 with
 | non=>cases h2 with
  | non=>exact SeqAt.RcAt.none_none
  | bl b=>exact SeqAt.RcAt.none_bool b
  | int b t=>exact SeqAt.RcAt.none_int b t
  | str b t=>exact SeqAt.RcAt.none_str b t
  | tup ds a xs its q w r p=>exact SeqAt.RcAt.none_tuple p hu'
  | lst ds a xs its q w r p=>exact SeqAt.RcAt.none_list p.isList hu'
 | bl x=>cases h2 with
  | non=>exact SeqAt.RcAt.bool_none x
  | bl b=>exact SeqAt.RcAt.bool_bool x b
  | int b t=>exact SeqAt.RcAt.bool_int x b t
  | str b t=>exact SeqAt.RcAt.bool_str x b t
  | tup ds a xs its q w r p=>exact SeqAt.RcAt.bool_tuple x p hu'
  | lst ds a xs its q w r p=>exact SeqAt.RcAt.bool_list x p.isList hu'
 | int x t'=>cases h2 with
  | non=>exact SeqAt.RcAt.int_none x t'
  | bl b=>exact SeqAt.RcAt.int_bool x t' b
  | int b t=>exact SeqAt.RcAt.int_int x t' b t
  | str b t=>exact SeqAt.RcAt.int_str x t' b t
  | tup ds a xs its q w r p=>exact SeqAt.RcAt.int_tuple x t' p hu'
  | lst ds a xs its q w r p=>exact SeqAt.RcAt.int_list x t' p.isList hu'
 | str x t'=>cases h2 with
  | non=>exact SeqAt.RcAt.str_none x t'
  | bl b=>exact SeqAt.RcAt.str_bool x t' b
  | int b t=>exact SeqAt.RcAt.str_int x t' b t
  | str b t=>exact SeqAt.RcAt.str_str x t' b t
  | tup ds a xs its q w r p=>exact SeqAt.RcAt.str_tuple x t' p hu'
  | lst ds a xs its q w r p=>exact SeqAt.RcAt.str_list x t' p.isList hu'
 | tup ds1 a1 xs1 its1 q1 w1 r1 p1=>cases h2 with
  | non=>exact SeqAt.RcAt.tuple_none p1 hu'
  | bl b=>exact SeqAt.RcAt.tuple_bool b p1 hu'
  | int b t=>exact SeqAt.RcAt.tuple_int b t p1 hu'
  | str b t=>exact SeqAt.RcAt.tuple_str b t p1 hu'
  | lst ds a xs its q w r p=>exact SeqAt.RcAt.tuple_list p1 p.isList hu'
  | tup ds2 a2 xs2 its2 q2 w2 r2 p2 =>
   rw[D.eqb,←min_len,←rds_at w1 r1,←rds_at w2 r2]
   have z:=SeqAt.RcAt.tuples (A:=A) (e:=pairEq ds1 ds2) p1 p2 hu' λj j1 j2=>by
    have:=eqAt_Ds I n ds1 ds2 A its1 its2 xs1 xs2 w1 r1 w2 r2 (by rw[D.pl] at f1;exact f1) (by rw[D.pl] at f2;exact f2) hu j (by simpa using j1) (by simpa using j2)
    simpa using this
   simpa using z
 | lst ds1 a1 xs1 its1 q1 w1 r1 p1=>cases h2 with
  | non=>exact SeqAt.RcAt.list_none p1.isList hu'
  | bl b=>exact SeqAt.RcAt.list_bool b p1.isList hu'
  | int b t=>exact SeqAt.RcAt.list_int b t p1.isList hu'
  | str b t=>exact SeqAt.RcAt.list_str b t p1.isList hu'
  | tup ds a xs its q w r p=>exact SeqAt.RcAt.list_tuple p1.isList p hu'
  | lst ds2 a2 xs2 its2 q2 w2 r2 p2 =>
   have l1:=rds_at w1 r1
   have l2:=rds_at w2 r2
   rw[D.eqb]
   by_cases hl:ds1.length=ds2.length
   ·rw[←eqs_all ds1 ds2 hl,←l1]
    have z:=SeqAt.RcAt.lists (A:=A) (e:=pairEq ds1 ds2) p1.isList p2.isList (by simp only[List.size_toArray];lia) hu' λj j1 j2=>by
     have:=eqAt_Ds I n ds1 ds2 A its1 its2 xs1 xs2 w1 r1 w2 r2 (by rw[D.pl] at f1;exact f1) (by rw[D.pl] at f2;exact f2) hu j (by simpa using j1) (by simpa using j2)
     simpa using this
    simpa using z
   ·rw[eqs_len ds1 ds2 hl]
    exact SeqAt.RcAt.lists_lengths p1.isList p2.isList (by simp only[List.size_toArray,bne_iff_ne,ne_eq];lia) hu'
theorem rcNeAt_D (I:Inv X pins σ H s) {n:Nat} {d1 d2:D} {A:Around} {u1 u2:Value} (h1:Sees X H s d1 u1) (h2:Sees X H s d2 u2) (f1:D.pl n d1=true) (f2:D.pl n d2=true) (hu:A.units+n < cLine):SeqAt.RcNeAt A s u1 u2 (!D.eqb d1 d2):=by
 have hu':A.units < cLine:=by lia
 cases h1 with
 | non=>cases h2 with
  | non=>exact SeqAt.RcNeAt.none_none
  | bl b=>exact SeqAt.RcNeAt.none_bool b
  | int b t=>exact SeqAt.RcNeAt.none_int b t
  | str b t=>exact SeqAt.RcNeAt.none_str b t
  | tup ds a xs its q w r p=>exact SeqAt.RcNeAt.none_tuple p hu'
  | lst ds a xs its q w r p=>exact SeqAt.RcNeAt.none_list p.isList hu'
 | bl x=>cases h2 with
  | non=>exact SeqAt.RcNeAt.bool_none x
  | bl b=>exact SeqAt.RcNeAt.bool_bool x b
  | int b t=>exact SeqAt.RcNeAt.bool_int x b t
  | str b t=>exact SeqAt.RcNeAt.bool_str x b t
  | tup ds a xs its q w r p=>exact SeqAt.RcNeAt.bool_tuple x p hu'
  | lst ds a xs its q w r p=>exact SeqAt.RcNeAt.bool_list x p.isList hu'
 | int x t'=>cases h2 with
  | non=>exact SeqAt.RcNeAt.int_none x t'
  | bl b=>exact SeqAt.RcNeAt.int_bool x t' b
  | int b t=>exact SeqAt.RcNeAt.int_int x t' b t
  | str b t=>exact SeqAt.RcNeAt.int_str x t' b t
  | tup ds a xs its q w r p=>exact SeqAt.RcNeAt.int_tuple x t' p hu'
  | lst ds a xs its q w r p=>exact SeqAt.RcNeAt.int_list x t' p.isList hu'
 | str x t'=>cases h2 with
  | non=>exact SeqAt.RcNeAt.str_none x t'
  | bl b=>exact SeqAt.RcNeAt.str_bool x t' b
  | int b t=>exact SeqAt.RcNeAt.str_int x t' b t
  | str b t=>exact SeqAt.RcNeAt.str_str x t' b t
  | tup ds a xs its q w r p=>exact SeqAt.RcNeAt.str_tuple x t' p hu'
  | lst ds a xs its q w r p=>exact SeqAt.RcNeAt.str_list x t' p.isList hu'
 | tup ds1 a1 xs1 its1 q1 w1 r1 p1=>cases h2 with
  | non=>exact SeqAt.RcNeAt.tuple_none p1 hu'
  | bl b=>exact SeqAt.RcNeAt.tuple_bool b p1 hu'
  | int b t=>exact SeqAt.RcNeAt.tuple_int b t p1 hu'
  | str b t=>exact SeqAt.RcNeAt.tuple_str b t p1 hu'
  | lst ds a xs its q w r p=>exact SeqAt.RcNeAt.tuple_list p1 p.isList hu'
  | tup ds2 a2 xs2 its2 q2 w2 r2 p2 =>
   rw[D.eqb,←min_len,←rds_at w1 r1,←rds_at w2 r2]
   have z:=SeqAt.RcNeAt.tuples (A:=A) (e:=pairEq ds1 ds2) p1 p2 hu' λj j1 j2=>by
    have:=eqAt_Ds I n ds1 ds2 A its1 its2 xs1 xs2 w1 r1 w2 r2 (by rw[D.pl] at f1;exact f1) (by rw[D.pl] at f2;exact f2) hu j (by simpa using j1) (by simpa using j2)
    simpa using this
   simpa using z
 | lst ds1 a1 xs1 its1 q1 w1 r1 p1=>cases h2 with
  | non=>exact SeqAt.RcNeAt.list_none p1.isList hu'
  | bl b=>exact SeqAt.RcNeAt.list_bool b p1.isList hu'
  | int b t=>exact SeqAt.RcNeAt.list_int b t p1.isList hu'
  | str b t=>exact SeqAt.RcNeAt.list_str b t p1.isList hu'
  | tup ds a xs its q w r p=>exact SeqAt.RcNeAt.list_tuple p1.isList p hu'
  | lst ds2 a2 xs2 its2 q2 w2 r2 p2 =>
   have l1:=rds_at w1 r1
   have l2:=rds_at w2 r2
   rw[D.eqb]
   by_cases hl:ds1.length=ds2.length
   ·rw[←eqs_all ds1 ds2 hl,←l1]
    have z:=SeqAt.RcNeAt.lists (A:=A) (e:=pairEq ds1 ds2) p1.isList p2.isList (by simp only[List.size_toArray];lia) hu' λj j1 j2=>by
     have:=eqAt_Ds I n ds1 ds2 A its1 its2 xs1 xs2 w1 r1 w2 r2 (by rw[D.pl] at f1;exact f1) (by rw[D.pl] at f2;exact f2) hu j (by simpa using j1) (by simpa using j2)
     simpa using this
    simpa using z
   ·rw[eqs_len ds1 ds2 hl]
    exact SeqAt.RcNeAt.lists_lengths p1.isList p2.isList (by simp only[List.size_toArray,bne_iff_ne,ne_eq];lia) hu'
end
section
variable {X:Cx}
theorem big_line:big=sizeLine:=by rw[sizeLine_eq];rfl
theorem op_catS:OpR X (binaryOp .Add) (λx y H Q=>∃l b xs zs,x=.ref l∧y=.ref b∧SqL X.K H l xs∧SqL X.K H b zs∧xs.length+zs.length≤sizeLine∧∀p,H p=none→Q (.ref p) (upd H p (.lst (xs++zs)))):=by
 intro pins s σ H x y v u Q I rx ry h
 obtain⟨l,b,xs,zs,rfl,rfl,hH,hB,hz,q⟩:=h
 cases rx
 cases ry
 obtain⟨its,r,pl,z⟩:=I.list hH
 obtain⟨its2,r2,pl2,z2⟩:=I.list hB
 have hl:=r.length
 have hl2:=r2.length
 obtain⟨⟨cls,dd,data,sl⟩,ho,hc,n,hd⟩:=pl.isList
 obtain⟨⟨cls2,dd2,data2,sl2⟩,ho2,hc2,n2,hd2⟩:=pl2.isList
 simp only at hc hd hc2 hd2
 subst hc hd hc2 hd2
 have ea:its.toArray++its2.toArray=(its++its2).toArray:=by simp
 refine concat_meets ⟨_,ho,rfl⟩ ⟨_,ho2,rfl⟩ noFill_list_add seq_list_add PySem.F.slot_list_add PySem.F.entry_list_add (PySem.F.args_list_add_2 _ _) (list_addW l b its.toArray its2.toArray n n2 dd dd2 sl sl2 (by simp only[List.size_toArray];lia)) ⟨ho,ho2,?_⟩
 rw[ea]
 exact⟨.ref _,_,I.lnew (t':=s.toks) (r.append r2) (by rw[List.length_append];lia),rfl,q _ I.fresh⟩
theorem op_catT0:OpR X (binaryOp .Add) (λx y H Q=>∃a b xs ys,x=.ref a∧y=.ref b∧SqT X.K H a xs∧SqT X.K H b ys∧xs.length+ys.length≤sizeLine ∧
 (xs=[]→Q (.ref b) H)∧(ys=[]→Q (.ref a) H)∧∀p,H p=none→Q (.ref p) (upd H p (.tup (xs++ys)))):=by
 intro pins s σ H x y v u Q I rx ry h
 obtain⟨a,b,xs,ys,rfl,rfl,ha,hb,hz,q0,q1,q2⟩:=h
 by_cases hx:xs=[]
 ·cases rx
  cases ry
  obtain⟨its,r1,p1,_⟩:=I.tuple ha
  obtain⟨its2,r2,p2,_⟩:=I.tuple hb
  obtain⟨⟨cls,dd,data,sl⟩,ho,hc,n,hd⟩:=id p1
  obtain⟨⟨cls2,dd2,data2,sl2⟩,ho2,hc2,n2,hd2⟩:=id p2
  simp only at hc hd hc2 hd2
  subst hc hd hc2 hd2
  have hv:its=[]:=r1.nil_iff.mpr hx
  exact concat_meets ⟨_,ho,rfl⟩ ⟨_,ho2,rfl⟩ noFill_tuple_add seq_tuple_add PySem.F.slot_tuple_add PySem.F.entry_tuple_add (PySem.F.args_tuple_add_2 _ _)
   (tuple_addW0 a b its.toArray its2.toArray n n2 dd dd2 sl sl2 (by simp[hv])) ⟨ho,ho2,⟨.ref b,H,I,rfl,q0 hx⟩⟩
 ·exact op_catT pins s σ H _ _ v u Q I rx ry ⟨a,b,xs,ys,rfl,rfl,ha,hb,hx,hz,q1,λ_=>q2⟩
end
section
variable {X:Cx}
noncomputable def Roomy (X:Cx):Prop:=X.A.units+64 < cLine
theorem opr_bin (o:Operator) (fr:Bool) (hfr:fr=true→o=.Add):OpR X (binaryOp o) (rD2 X.K (D.bin o) fr):=by
 intro pins s σ H x y v u Q I rx ry h
 obtain⟨O,d1,d2,d,r1,r2,ev,tr,k⟩:=h
 have kk:∀w,d.still=true→RD X.K H O d w→Q w H:=λw n r=>k w H (Same.refl H) r λ_=>NewL.still n
 unfold D.bin at ev
 split at ev
 ·cases ev
  cases (show x=_ from r1.rd rfl)
  cases (show y=_ from r2.rd rfl)
  exact op_add pins s σ H _ _ v u Q I rx ry ⟨_,_,rfl,rfl,kk _ rfl rfl⟩
 ·obtain⟨c,ev⟩:=when_ok ev
  cases ev
  cases (show x=_ from r1.rd rfl)
  cases (show y=_ from r2.rd rfl)
  exact op_add_str pins s σ H _ _ v u Q I rx ry ⟨_,_,rfl,rfl,by rw[←big_line];exact of_decide_eq_true c,kk _ rfl rfl⟩
 ·obtain⟨c,ev⟩:=when_ok ev
  cases ev
  obtain⟨a1,xs1,rfl,q1,w1⟩:=r1.lst
  obtain⟨a2,xs2,rfl,q2,w2⟩:=r2.lst
  refine op_catS pins s σ H _ _ v u Q I rx ry ⟨a1,a2,xs1,xs2,rfl,rfl,q1,q2,by rw[←big_line,w1.length,w2.length];exact of_decide_eq_true c,λp hp=>?_⟩
  have z:=new_lst (w1.append w2) hp tr
  exact k _ _ (same_upd hp _) z.1 λ_=>z.2
 ·obtain⟨c,ev⟩:=when_ok ev
  cases ev
  obtain⟨a1,xs1,rfl,q1,w1⟩:=r1.tup
  obtain⟨a2,xs2,rfl,q2,w2⟩:=r2.tup
  refine op_catT0 pins s σ H _ _ v u Q I rx ry ⟨a1,a2,xs1,xs2,rfl,rfl,q1,q2,by rw[←big_line,w1.length,w2.length];exact of_decide_eq_true c,λz=>?_,λz=>?_,λp hp=>?_⟩
  ·subst z
   have e:=w1.length
   have e':_=[]:=List.eq_nil_of_length_eq_zero e.symm
   subst e'
   exact kk _ rfl ⟨a2,xs2,rfl,q2,by simpa using w2⟩
  ·subst z
   have e:=w2.length
   have e':_=[]:=List.eq_nil_of_length_eq_zero e.symm
   subst e'
   exact kk _ rfl ⟨a1,xs1,rfl,q1,by simpa using w1⟩
  ·have z:=new_tup (w1.append w2) hp
   exact k _ _ (same_upd hp _) z λ_=>NewL.still rfl
 ·cases ev
  cases (show x=_ from r1.rd rfl)
  cases (show y=_ from r2.rd rfl)
  exact op_sub pins s σ H _ _ v u Q I rx ry ⟨_,_,rfl,rfl,kk _ rfl rfl⟩
 ·obtain⟨c,ev⟩:=when_ok ev
  cases ev
  cases (show x=_ from r1.rd rfl)
  cases (show y=_ from r2.rd rfl)
  refine op_mul pins s σ H _ _ v u Q I rx ry ⟨_,_,rfl,rfl,?_,kk _ rfl rfl⟩
  simp only[small64,Bool.or_eq_true,Bool.and_eq_true,decide_eq_true_eq] at c
  exact c
 ·obtain⟨c,ev⟩:=when_ok ev
  cases ev
  cases (show x=_ from r1.rd rfl)
  cases (show y=_ from r2.rd rfl)
  refine op_fdiv pins s σ H _ _ v u Q I rx ry ⟨_,_,rfl,rfl,?_,kk _ rfl rfl⟩
  simp only[Bool.and_eq_true,decide_eq_true_eq] at c
  exact c
 ·obtain⟨c,ev⟩:=when_ok ev
  cases ev
  cases (show x=_ from r1.rd rfl)
  cases (show y=_ from r2.rd rfl)
  exact op_mod pins s σ H _ _ v u Q I rx ry ⟨_,_,rfl,rfl,of_decide_eq_true c,kk _ rfl rfl⟩
 ·obtain⟨c,ev⟩:=when_ok ev
  cases ev
  cases (show x=_ from r1.rd rfl)
  cases (show y=_ from r2.rd rfl)
  refine op_pow pins s σ H _ _ v u Q I rx ry ⟨_,_,rfl,rfl,?_,kk _ rfl rfl⟩
  simp only[Bool.and_eq_true,decide_eq_true_eq] at c
  exact⟨c.1.1,c.1.2,c.2⟩
 ·cases ev
theorem of_ok {α:Type} {o:Option α} {a:α} (h:Res.of o=.ok a):o=some a:=by
 cases o with
 | none=>cases h
 | some b=>cases h;rfl
theorem Sees.inj {H:Hp} {s:Shared} {pins:List (Addr×Obj)} {σ:L2.St} (I:Inv X pins σ H s) {d d':D} {w:Value} (h:Sees X H s d w) (h':Sees X H s d' w):d=d':=by
 cases h with
 | non=>cases h';rfl
 | bl b=>cases h';rfl
 | int i t=>cases h';rfl
 | str x t=>cases h';rfl
 | tup ds a xs its q w r p =>
  cases h' with
  | tup ds' _ xs' its' q' w' r' p'=>have:=I.tuple_inj q q';subst this;rw[RDs.inj I w w']
  | lst ds' _ xs' its' q' w' r' p'=>exact (sq_apart I q' q).elim
 | lst ds a xs its q w r p =>
  cases h' with
  | lst ds' _ xs' its' q' w' r' p'=>have:=I.list_inj q q';subst this;rw[RDs.inj I w w']
  | tup ds' _ xs' its' q' w' r' p'=>exact (sq_apart I q q').elim
open Classical in
noncomputable def seen (X:Cx) (H:Hp) (s:Shared) (x:D) (w:Value):Bool:=decide (∃d,Sees X H s d w∧D.eqb d x=true)
theorem seen_eq {H:Hp} {s:Shared} {pins:List (Addr×Obj)} {σ:L2.St} (I:Inv X pins σ H s) {d x:D} {w:Value} (sd:Sees X H s d w):seen X H s x w=D.eqb d x:=by
 classical
 unfold seen
 by_cases h:D.eqb d x=true
 ·rw[h];simp only[decide_eq_true_eq];exact⟨d,sd,h⟩
 ·have h':D.eqb d x=false:=by simpa using h
  rw[h']
  simp only[decide_eq_false_iff_not]
  rintro⟨d',sd',h''⟩
  rw[Sees.inj I sd' sd] at h''
  exact h h''
theorem in_tab {H:Hp} {s:Shared} {pins:List (Addr×Obj)} {σ:L2.St} (I:Inv X pins σ H s) {x:D} {ux:Value} {n:Nat} {A:Around} (hx:Sees X H s x ux) (fx:D.pl n x=true) (hu:A.units+n < cLine) :
 ∀ {ds:List D} {xs:List V} {us:List Value},RDs X.K H no ds xs→Vals xs us→D.pls (n+1) ds=true→(∀w∈us,SeqAt.EqAt A s w ux (seen X H s x w))∧us.any (seen X H s x)=D.mem x ds
 | [],xs,us,w,r,f=>by
  rw[RDs] at w;subst w;cases r
  exact⟨λw h=>absurd h List.not_mem_nil,rfl⟩
 | d::ds,xs,us,w,r,f=>by
  obtain⟨v,ys,rfl,e1,e2⟩:=w
  rw[D.pls,Bool.and_eq_true] at f
  cases r with
  | cons a1 r1 =>
   have ih:=in_tab I hx fx hu e2 r1 f.2
   have sd:=sees I e1 a1
   refine⟨λw hw=>?_,?_⟩
   ·rcases List.mem_cons.mp hw with rfl | hw
    ·rw[seen_eq I sd]
     exact eqAt_D I n d x A w ux sd hx f.1 fx hu
    ·exact ih.1 w hw
   ·rw[List.any_cons,D.mem,ih.2,seen_eq I sd]
theorem isNon_eq {K:PySem.W.Frag} {H:Hp} {d:D} {x:V} (r:RD K H no d x):decide (x=.non)=D.isNon d:=by
 cases d with
 | non=>cases (show x=.non from r);rfl
 | bl b=>cases (show x=.bl b from r);rfl
 | int b=>cases (show x=.int b from r);rfl
 | str b=>cases (show x=.str b from r);rfl
 | tup ds=>obtain⟨a,xs,rfl,_⟩:=r;rfl
 | lst ds=>obtain⟨a,xs,rfl,_⟩:=r;rfl
theorem opr_cmp (o:CmpOp) (hroom:Roomy X):OpR X (compareOp o) (rD2 X.K (D.cmp o) false):=by
 intro pins s σ H x y v u Q I rx ry h
 obtain⟨O,d1,d2,d,r1,r2,ev,tr,k⟩:=h
 have hroom':X.A.units+64 < cLine:=hroom
 have kk:∀b,d=.bl b→Q (.bl b) H:=λb e=>k _ H (Same.refl H) (by subst e;exact rfl) λz=>by cases z
 have s1:=sees I r1.bare rx
 have s2:=sees I r2.bare ry
 unfold D.cmp at ev
 split at ev
 ·obtain⟨c,ev⟩:=when_ok ev
  cases ev
  unfold D.eqOk at c
  rw[Bool.and_eq_true] at c
  exact rcAt_D I s1 s2 c.1 c.2 (by lia) X.prog X.w X.xe _ ⟨.bl _,H,I,rfl,kk _ rfl⟩
 ·obtain⟨c,ev⟩:=when_ok ev
  cases ev
  unfold D.eqOk at c
  rw[Bool.and_eq_true] at c
  exact rcNeAt_D I s1 s2 c.1 c.2 (by lia) X.prog X.w X.xe _ ⟨.bl _,H,I,rfl,kk _ rfl⟩
 ·cases ev
  cases (show x=_ from r1.rd rfl)
  cases (show y=_ from r2.rd rfl)
  exact op_lt pins s σ H _ _ v u Q I rx ry ⟨_,_,rfl,rfl,kk _ rfl⟩
 ·cases ev
  cases (show x=_ from r1.rd rfl)
  cases (show y=_ from r2.rd rfl)
  exact op_le pins s σ H _ _ v u Q I rx ry ⟨_,_,rfl,rfl,kk _ rfl⟩
 ·cases ev
  cases (show y=_ from r2.rd rfl)
  have e:decide (x=.non)=D.isNon d1:=isNon_eq r1.bare
  exact op_isN pins s σ H _ _ v u Q I rx ry ⟨rfl,by rw[e];exact kk _ rfl⟩
 ·cases ev
  cases (show x=_ from r1.rd rfl)
  cases (show y=_ from r2.rd rfl)
  cases rx
  cases ry
  exact is_bool (fin_bl I (kk _ rfl) rfl)
 ·obtain⟨b,e1,ev⟩:=Res.bind_ok ev
  cases ev
  unfold D.inn at e1
  split at e1
  ·obtain⟨c,e1⟩:=when_ok e1
   cases e1
   rw[Bool.and_eq_true] at c
   cases s2 with
   | lst ds a xs its q w r p =>
    have t:=in_tab I (n:=29) (A:=X.A.in1) s1 c.2 (by show X.A.units+1+29 < cLine;lia) w r c.1
    refine SeqAt.in_listAt (seen X H s d1) p.isList (λw hw=>t.1 w (by simpa using hw)) ⟨.bl _,H,I,rfl,?_⟩
    rw[show its.toArray.any (seen X H s d1)=its.any (seen X H s d1) by simp,t.2]
    exact kk _ rfl
  ·obtain⟨c,e1⟩:=when_ok e1
   cases e1
   rw[Bool.and_eq_true] at c
   cases s2 with
   | tup ds a xs its q w r p =>
    have t:=in_tab I (n:=29) (A:=X.A.in1) s1 c.2 (by show X.A.units+1+29 < cLine;lia) w r c.1
    refine SeqAt.in_tupleAt (seen X H s d1) p (λw hw=>t.1 w (by simpa using hw)) ⟨.bl _,H,I,rfl,?_⟩
    rw[show its.toArray.any (seen X H s d1)=its.any (seen X H s d1) by simp,t.2]
    exact kk _ rfl
  ·split at e1
   ·cases (show x=_ from r1.rd rfl)
    cases (show y=_ from r2.rd rfl)
    exact op_in_str pins s σ H _ _ v u Q I rx ry ⟨_,_,rfl,rfl,by rw[oneIn_ok e1];exact kk _ rfl⟩
   ·cases e1
  ·cases e1
 ·obtain⟨b,e1,ev⟩:=Res.bind_ok ev
  cases ev
  unfold D.inn at e1
  split at e1
  ·obtain⟨c,e1⟩:=when_ok e1
   cases e1
   rw[Bool.and_eq_true] at c
   cases s2 with
   | lst ds a xs its q w r p =>
    have t:=in_tab I (n:=29) (A:=X.A.in1) s1 c.2 (by show X.A.units+1+29 < cLine;lia) w r c.1
    refine SeqAt.notIn_listAt (seen X H s d1) p.isList (λw hw=>t.1 w (by simpa using hw)) ⟨.bl _,H,I,rfl,?_⟩
    rw[show its.toArray.any (seen X H s d1)=its.any (seen X H s d1) by simp,t.2]
    exact kk _ rfl
  ·obtain⟨c,e1⟩:=when_ok e1
   cases e1
   rw[Bool.and_eq_true] at c
   cases s2 with
   | tup ds a xs its q w r p =>
    have t:=in_tab I (n:=29) (A:=X.A.in1) s1 c.2 (by show X.A.units+1+29 < cLine;lia) w r c.1
    refine SeqAt.notIn_tupleAt (seen X H s d1) p (λw hw=>t.1 w (by simpa using hw)) ⟨.bl _,H,I,rfl,?_⟩
    rw[show its.toArray.any (seen X H s d1)=its.any (seen X H s d1) by simp,t.2]
    exact kk _ rfl
  ·split at e1
   ·cases (show x=_ from r1.rd rfl)
    cases (show y=_ from r2.rd rfl)
    exact op_notin_str pins s σ H _ _ v u Q I rx ry ⟨_,_,rfl,rfl,by rw[oneIn_ok e1];exact kk _ rfl⟩
   ·cases e1
  ·cases e1
 ·cases ev
theorem ixN_eq (n:Nat) (i:Int):Tr.ixN n i=L2.ixN n i:=rfl
theorem rds_atI {K:PySem.W.Frag} {H:Hp} {O:Addr→Prop} {ds:List D} {xs:List V} {i:Int} {d:D} (w:RDs K H O ds xs) (h:Tr.atI ds i=some d):∃v,L2.atI xs i=some v∧RD K H O d v:=by
 unfold Tr.atI at h
 unfold L2.atI
 rw[w.length]
 rw[ixN_eq] at h
 cases e:L2.ixN ds.length i with
 | none=>rw[e] at h;cases h
 | some j =>
  rw[e] at h
  exact w.get h
theorem ixr (hroom:Roomy X):IxR X (rD2 X.K D.ix false):=by
 intro value slice pins s σ H x y v u Q I rx ry h hs
 obtain⟨O,d1,d2,d,r1,r2,ev,tr,k⟩:=h
 have kk:∀w,RD X.K H O d w→Q w H:=λw r=>k w H (Same.refl H) r λz=>by cases z
 unfold D.ix at ev
 split at ev
 ·obtain⟨a1,xs1,rfl,q1,w1⟩:=r1.lst
  cases (show y=_ from r2.rd rfl)
  rename_i ds i
  cases e:Tr.atI ds i with
  | none=>rw[e] at ev;cases ev
  | some d0 =>
   rw[e] at ev;cases ev
   obtain⟨w,h1,h2⟩:=rds_atI w1 e
   exact ix_list value slice pins s σ H _ _ v u Q I rx ry ⟨a1,xs1,_,w,rfl,rfl,q1,h1,kk w h2⟩ hs
 ·obtain⟨a1,xs1,rfl,q1,w1⟩:=r1.tup
  cases (show y=_ from r2.rd rfl)
  rename_i ds i
  cases e:Tr.atI ds i with
  | none=>rw[e] at ev;cases ev
  | some d0 =>
   rw[e] at ev;cases ev
   obtain⟨w,h1,h2⟩:=rds_atI w1 e
   exact ix_tup value slice pins s σ H _ _ v u Q I rx ry ⟨a1,xs1,_,w,rfl,rfl,q1,h1,kk w h2⟩ hs
 ·rename_i z i
  obtain⟨c,ev⟩:=when_ok ev
  cases (show x=.str z from r1.rd rfl)
  cases (show y=.int i from r2.rd rfl)
  cases e:Tr.atI z.cps.toList i with
  | none=>rw[e] at ev;cases ev
  | some c0 =>
   rw[e] at ev;cases ev
   exact ix_str value slice pins s σ H _ _ v u Q I rx ry ⟨z,i,c0,rfl,rfl,by rw[←big_line];exact of_decide_eq_true c,e,kk _ rfl⟩ hs
 ·cases ev
end
noncomputable def plainX:Expr→Bool
 | .Starred _ _=>false
 | .Slice _ _ _ _=>false
 | .Set _ _ _=>false
 | _=>true
theorem plain_ix {e:Expr} (h:plainX e=true):PlainIx e:=by
 intro o i
 cases e<;>first | rfl | (cases h)
theorem plain_star {e:Expr} {es:List Expr} {env:Env} (h:plainX e=true):starEach (e::es) env=(false,eval e env)::starEach es env:=by
 cases e<;>first | rfl | (cases h)
theorem plain_any {pos:Pos} {env:Env}:∀ {es:List Expr},es.all plainX=true→(backTo pos (starEach es env)).any (·.1)=false
 | [],_=>rfl
 | e::es,h=>by
  rw[List.all_cons,Bool.and_eq_true] at h
  have ih:=plain_any (pos:=pos) (env:=env) h.2
  rw[plain_star h.1]
  show (false||(backTo pos (starEach es env)).any (·.1))=false
  rw[ih];rfl
theorem plain_mark {o:CmpOp} {e:Expr} (h:plainX e=true):behindInMarks o e=false:=by
 cases e<;>first | rfl | (cases h)
theorem plain_fold {e:Expr} {env:Env} (h:plainX e=true):∀x,foldedSetIterable e env x=pure x:=by
 intro x
 cases e<;>first | rfl | (cases h)
section
variable {T:Tab} {cf:Nat→List D→Res D} {X:Cx} {x y z:E} {p q r:Expr} {pos:Pos} {es:List Expr}
theorem se_bin {o:Operator} (ha:SR T cf X x p) (hb:SR T cf X y q):SE T cf X (.bin o x y) (.BinOp p o q pos) :=
 se_op2 (f:=D.bin o) (λe=>rfl) (λh1 h2=>pe_op (opr_bin o _ (by cases o<;>first | (intro _;rfl) | (intro z;cases z))) h1 h2) ha hb
theorem se_cmp {o:CmpOp} (hR:Roomy X) (hm:plainX q=true) (ha:SR T cf X x p) (hb:SR T cf X y q):SE T cf X (.cmp o x y) (.Compare p [o] [q] pos) :=
 se_op2 (f:=D.cmp o) (λe=>rfl) (λh1 h2=>pe_cmpR (opr_cmp o hR) h1 h2 (plain_mark hm)) ha hb
theorem se_ix (hR:Roomy X) (hm:plainX q=true) (ha:SR T cf X x p) (hb:SR T cf X y q):SE T cf X (.ix x y) (.Subscript p q pos) :=
 se_op2 (f:=D.ix) (λe=>rfl) (λh1 h2=>pe_ix (ixr hR) h1 h2 (plain_ix hm)) ha hb
theorem sl_whole {X:Cx}:SlR X (λx lo hi H Q=>∃a xs,x=.ref a∧SqT X.K H a xs∧(HT.sIx xs.length 0 lo=0∧HT.sIx xs.length xs.length hi=xs.length)∧Q (.ref a) H):=by
 intro pins s σ H x v vl vu lo hi sl Q I rx hs pl pu h
 obtain⟨a,xs,rfl,hx,hw,q⟩:=h
 cases rx
 obtain⟨its,r,ht,hz⟩:=I.tuple hx
 have hlen:its.toArray.size=xs.length:=by rw[List.size_toArray];exact r.length.symm
 refine⟨"tuple", _,PyProof.Rows.slot_tuple_getitem.lookup,ht.typeIs,?_⟩
 obtain⟨os,hos,hcs,hds⟩:=id hs
 have hTs:s.TypeIs (.ref sl) "slice" := ⟨os,hos,hcs⟩
 have fin:EP X pins σ Q (.ref a) s:=⟨.ref a,H,I,rfl,q⟩
 unfold getItem
 try with_reducible refine wpAny_holding ?_
 first | refine wpAny_bind (wpAny_pure ?_) | skip
 refine wpAny_bind (wpAny_sequenceKey ht.typeIs (by decide) ?_)
 refine wpAny_bind (wpAny_callSpecial?_slot (name:=Str.ofString "__getitem__") ht.typeIs PyProof.Rows.slot_tuple_getitem
  (wpAny_call_entry PyProof.Rows.slot_tuple_getitem ht.typeIs entry_tuple_getitem ?_ (args_tuple_getitem _ _)))
 show wpAny _ _ (Builtin.Tuple.tupleItemsOf (.ref a)>>=_) _ _ s
 refine wpAny_bind (tupleItemsOf_ ht ?_)
 refine wpAny_bind (wpAny_typeOf hTs ?_)
 rw[if_pos (by decide)]
 refine wpAny_bind (HT.sliceApplied_gen hs pl pu ?_)
 have hyes:(((HT.sIx its.toArray.size 0 lo:Nat):Int)==0&&(1:Int)==1&&(HT.sIx its.toArray.size its.toArray.size hi - HT.sIx its.toArray.size 0 lo)==its.toArray.size)=true:=by
  rw[hlen,hw.1,hw.2];simp
 show wpAny _ _ (if (((HT.sIx its.toArray.size 0 lo:Nat):Int)==0&&(1:Int)==1&&(HT.sIx its.toArray.size its.toArray.size hi - HT.sIx its.toArray.size 0 lo)==its.toArray.size)=true then _ else _) _ _ s
 rw[if_pos hyes]
 refine wpAny_bind (m:=Builtin.Tuple.tupleIsExact (.ref a)) ?_
 unfold Builtin.Tuple.tupleIsExact
 refine wpAny_bind (wpAny_typeOf ht.typeIs (wpAny_pure ?_))
 rw[if_pos (by decide)]
 refine wpAny_bind (wpAny_rule ?_)
 first
  | exact wpAny_pure ⟨_,rfl,wpAny_pure fin⟩
  | exact wpAny_bind (wpAny_pure ⟨_,rfl,wpAny_pure fin⟩)
  | exact wpAny_bind (wpAny_pure (wpAny_pure ⟨_,rfl,wpAny_pure fin⟩))
  | trace_state
end
section
variable {T:Tab} {cf:Nat→List D→Res D} {X:Cx} {x y z:E} {p q r:Expr} {pos pos':Pos} {es:List Expr}
theorem sIx_eq (n d:Nat) (o:Option Int):Tr.sIx n d o=HT.sIx n d o:=by cases o<;>rfl
theorem slr:SlR X (λv lo hi H Q=>∃O d0 d,RR X.K H O d0 v∧D.sl d0 lo hi=.ok d∧(∀a,O a→∃o,H a=some o)∧∀w H',Same H H'→RD X.K H' O d w→NewL X.K H H' O d w→Q w H'):=by
 intro pins s σ H x v vl vu lo hi sl Q I rx hs pl pu h
 obtain⟨O,d0,d,r0,ev,tr,k⟩:=h
 unfold D.sl at ev
 split at ev
 ·cases ev
  obtain⟨a,xs,rfl,q0,w0⟩:=r0.lst
  refine sl_list pins s σ H _ v vl vu _ _ sl Q I rx hs pl pu ⟨a,xs,rfl,q0,λp hp=>?_⟩
  have z:=new_lst (w0.cut lo hi) hp tr
  exact k _ _ (same_upd hp _) z.1 z.2
 ·cases ev
  obtain⟨a,xs,rfl,q0,w0⟩:=r0.tup
  by_cases hw:HT.sIx xs.length 0 lo=0∧HT.sIx xs.length xs.length hi=xs.length
  ·refine sl_whole pins s σ H _ v vl vu _ _ sl Q I rx hs pl pu ⟨a,xs,rfl,q0,hw,?_⟩
   refine k _ _ (Same.refl H) ⟨a,xs,rfl,q0,?_⟩ (NewL.still rfl)
   unfold Tr.cut
   rw[←w0.length,sIx_eq,sIx_eq,hw.1,hw.2,List.drop_zero,Nat.sub_zero,List.take_of_length_le (by rw[w0.length];exact Nat.le_refl _)]
   exact w0
  ·refine sl_tup pins s σ H _ v vl vu _ _ sl Q I rx hs pl pu ⟨a,xs,rfl,q0,hw,λp hp=>?_⟩
   exact k _ _ (same_upd hp _) (new_tup (w0.cut lo hi) hp) (NewL.still rfl)
 ·obtain⟨c,ev⟩:=when_ok ev
  cases ev
  cases (show x=_ from r0.rd rfl)
  exact sl_str pins s σ H _ v vl vu _ _ sl Q I rx hs pl pu ⟨_,rfl,by rw[←big_line];exact of_decide_eq_true c,k _ H (Same.refl H) rfl (NewL.still rfl)⟩
 ·cases ev
noncomputable def SO (T:Tab) (cf:Nat→List D→Res D) (X:Cx) (x:E) (p:Option Expr):Prop:=∀H₀ O₀,PO X p (λσ H Q=>∃O own e d o,Fm X.K H₀ O₀ H O own e σ∧evE T cf x e=.ok d∧d.part=.ok o∧∀H',Same H H'→Q o H')
theorem so_omit:SO T cf X .omit none:=λH₀ O₀ pins s σ H Q I hz__=>by
 obtain⟨O,own,e,d,o,F,ev,ep,k⟩:=hz__
 rw[xE_omit] at ev;cases ev;cases ep
 exact po_none pins s σ H Q I (k H (Same.refl H))
theorem so_some (h:SE T cf X x p):SO T cf X x (some p):=λH₀ O₀ pins s σ H Q I hz__=>by
 obtain⟨O,own,e,d,o,F,ev,ep,k⟩:=hz__
 rw[evalPart_some]
 refine thn (h H₀ O₀ pins s σ H (λv H'=>Same H H'∧RD X.K H' O d v) I ⟨O,own,e,d,F,ev,λv H' s' r _=>⟨s',r⟩⟩) λu s1 hz__=>?_
 obtain⟨v,H1,I1,r1,s',r⟩:=hz__
 unfold D.part at ep
 split at ep
 ·cases ep
  cases (show v=_ from r)
  cases r1
  exact⟨none,H1,I1,.none,k H1 s'⟩
 ·cases ep
  cases (show v=_ from r)
  obtain⟨t,rfl⟩:=r1
  exact⟨_,H1,I1,.int _ t,k H1 s'⟩
 ·cases ep
theorem se_sl {lo hi:Option Expr} (ha:SR T cf X x p) (hl:SO T cf X y lo) (hh:SO T cf X z hi):SE T cf X (.sl x y z) (.Subscript p (.Slice lo hi none pos') pos):=λH₀ O₀=>by
 refine PE.imp (λσ H Q hq=>?_) (pe_slice slr (ha H₀ O₀) (hl H₀ O₀) (hh H₀ O₀))
 obtain⟨O,own,e,d,F,ev,k⟩:=hq
 rw[xE_sl] at ev
 obtain⟨d1,e1,ev⟩:=Res.bind_ok ev
 obtain⟨d2,e2,ev⟩:=Res.bind_ok ev
 obtain⟨o2,e2',ev⟩:=Res.bind_ok ev
 obtain⟨d3,e3,ev⟩:=Res.bind_ok ev
 obtain⟨o3,e3',ev⟩:=Res.bind_ok ev
 refine⟨O,own,e,d1,F,e1,λv1 H1 s1 r1=>⟨O,own,e,d2,o2,F.grow s1,e2,e2',λH2 s2=>⟨O,own,e,d3,o3,(F.grow s1).grow s2,e3,e3',λH3 s3=>?_⟩⟩⟩
 refine⟨O,d1,d,(r1.same s2).same s3,ev,((F.grow s1).grow (s2.trans s3)).trk,λw H' s4 r4 n4=>?_⟩
 exact k w H' ((s1.trans (s2.trans s3)).trans s4) r4 λ_=>n4.back (s1.trans (s2.trans s3))
theorem evA_len {a:E} {e:Nv} {ds:List D} (h:evA T cf a e=.ok ds):ds.length≤1000:=by
 cases a with
 | anil=>(first | rw[xA_anil] at h | rw[xA_acons] at h);cases h;exact Nat.zero_le _
 | acons a r =>
  (first | rw[xA_anil] at h | rw[xA_acons] at h)
  obtain⟨d1,e1,h⟩:=Res.bind_ok h
  obtain⟨d2,e2,h⟩:=Res.bind_ok h
  obtain⟨c,h⟩:=when_ok h
  cases h
  have:=of_decide_eq_true c
  rw[List.length_cons];lia
 | _=>exact absurd (show (Res.no:Res (List D))=Res.ok ds from h) (λz=>by cases z)
theorem sav_nil:SAv T cf X .anil []:=λH₀ O₀ pos pins s σ H Q I hz__=>by
 obtain⟨O,own,e,ds,F,ev,k⟩:=hz__
 rw[xA_anil] at ev;cases ev
 exact pa_nil pos pins s σ H Q I (k [] H (Same.refl H) rfl)
theorem sav_cons (hp:plainX p=true) (ha:SE T cf X x p) (hr:SAv T cf X y es):SAv T cf X (.acons x y) (p::es):=λH₀ O₀ pos pins s σ H Q I hz__=>by
 obtain⟨O,own,e,ds,F,ev,k⟩:=hz__
 rw[xA_acons] at ev
 obtain⟨d1,e1,ev⟩:=Res.bind_ok ev
 obtain⟨d2,e2,ev⟩:=Res.bind_ok ev
 obtain⟨c,ev⟩:=when_ok ev
 cases ev
 refine pa_cons (ha H₀ O₀) (hr H₀ O₀) (plain_star hp) pos pins s σ H Q I ⟨O,own,e,d1,F,e1,λv1 H1 s1 r1 _=>⟨O,own,e,d2,F.grow s1,e2,λvs H2 s2 r2=>?_⟩⟩
 exact k (v1::vs) H2 (s1.trans s2) ⟨v1,vs,rfl,r1.same s2,r2⟩
theorem sar_nil:SAr T cf X .anil []:=sav_nil.sr
theorem sar_cons (hp:plainX p=true) (ha:SR T cf X x p) (hr:SAr T cf X y es):SAr T cf X (.acons x y) (p::es):=λH₀ O₀ pos pins s σ H Q I hz__=>by
 obtain⟨O,own,e,ds,F,ev,k⟩:=hz__
 rw[xA_acons] at ev
 obtain⟨d1,e1,ev⟩:=Res.bind_ok ev
 obtain⟨d2,e2,ev⟩:=Res.bind_ok ev
 obtain⟨c,ev⟩:=when_ok ev
 cases ev
 refine pa_cons (ha H₀ O₀) (hr H₀ O₀) (plain_star hp) pos pins s σ H Q I ⟨O,own,e,d1,F,e1,λv1 H1 s1 r1=>⟨O,own,e,d2,F.grow s1,e2,λvs H2 s2 r2=>?_⟩⟩
 exact k (v1::vs) H2 (s1.trans s2) ⟨v1,vs,rfl,r1.same s2,r2⟩
theorem len_line {n:Nat} (h:n≤1000):n≤sizeLine:=Nat.le_of_lt (small1000 h)
theorem se_tup {k:Nat} (ha:SAv T cf X x es):SE T cf X (.tup x) (.Tuple es k pos):=λH₀ O₀=>by
 refine PE.imp (λσ H Q hq=>?_) (pe_tup (ha H₀ O₀))
 obtain⟨O,own,e,d,F,ev,k⟩:=hq
 rw[xE_tup] at ev
 obtain⟨ds,e1,ev⟩:=Res.bind_ok ev
 cases ev
 refine⟨O,own,e,ds,F,e1,λvs H1 s1 r1=>⟨by rw[r1.length];exact len_line (evA_len e1),λp hp=>?_⟩⟩
 exact k _ _ (s1.trans (same_upd hp _)) (new_tup r1 hp) (λz=>by cases z)
theorem se_lst (ha:SAv T cf X x es):SE T cf X (.lst x) (.List es pos):=λH₀ O₀=>by
 refine PE.imp (λσ H Q hq=>?_) (pe_lst (ha H₀ O₀))
 obtain⟨O,own,e,d,F,ev,k⟩:=hq
 rw[xE_lst] at ev
 obtain⟨ds,e1,ev⟩:=Res.bind_ok ev
 cases ev
 refine⟨O,own,e,ds,F,e1,λvs H1 s1 r1=>⟨by rw[r1.length];exact len_line (evA_len e1),λp hp=>?_⟩⟩
 have z:=new_lst r1 hp (F.grow s1).trk
 exact k _ _ (s1.trans (same_upd hp _)) z.1 λ_=>z.2.back s1
theorem empty_len {α β:Type} {xs:List α} {ds:List β} (h:xs.length=ds.length):(!ds.isEmpty)=!xs.isEmpty:=by
 cases xs<;>cases ds<;>first | rfl | (simp at h)
theorem tru_D {K:PySem.W.Frag} {H:Hp} {O:Addr→Prop} {d:D} {v:V} {k:Bool} (r:RR K H O d v) (h:d.truth=.ok k):TruV K v H k:=by
 unfold D.truth at h
 split at h
 ·cases h;cases (show v=_ from r.rd rfl);exact (rfl:false=false)
 ·cases h;cases (show v=_ from r.rd rfl);exact (rfl:k=k)
 ·cases h;cases (show v=_ from r.rd rfl);exact rfl
 ·obtain⟨c,h⟩:=when_ok h
  cases h;cases (show v=_ from r.rd rfl);exact⟨by rw[←big_line];exact of_decide_eq_true c,rfl⟩
 ·cases h
  obtain⟨a,xs,rfl,q,w⟩:=r.tup
  refine .inr (.inl ⟨xs,q,?_⟩)
  exact empty_len w.length
 ·cases h
  obtain⟨a,xs,rfl,q,w⟩:=r.lst
  refine .inl ⟨xs,q,?_⟩
  exact empty_len w.length
theorem st_gen (ha:SR T cf X x p) (he:∀whole,isTrue p X.env whole=(do let v ←whole;standAt p.pos;holding [v] (truthy v))):ST T cf X x p:=λH₀ O₀ =>
 PT.imp (λσ H Q ⟨O,own,e,d,k,F,ev,et,q⟩=>⟨O,own,e,d,F,ev,λv H' s r=>⟨k,tru_D r et,q H' s⟩⟩) (pt_truth (ha H₀ O₀) he)
theorem cmp_bl {o:CmpOp} {a b d:D} (h:D.cmp o a b=.ok d):∃k,d=.bl k:=by
 unfold D.cmp at h
 split at h<;>first
  | (obtain⟨_,h⟩:=when_ok h;cases h;exact⟨_,rfl⟩)
  | (cases h;exact⟨_,rfl⟩)
  | (obtain⟨_,_,h⟩:=Res.bind_ok h;cases h;exact⟨_,rfl⟩)
  | cases h
theorem st_cmp {o:CmpOp} (hR:Roomy X) (hm:plainX q=true) (ha:SR T cf X x p) (hb:SR T cf X y q):ST T cf X (.cmp o x y) (.Compare p [o] [q] pos):=λH₀ O₀=>by
 refine PT.imp (λσ H Q hq=>?_) (pt_cmpR (opr_cmp o hR) (ha H₀ O₀) (hb H₀ O₀) (plain_mark hm))
 obtain⟨O,own,e,d,k,F,ev,et,qk⟩:=hq
 rw[xE_cmp] at ev
 obtain⟨d1,e1,ev⟩:=Res.bind_ok ev
 obtain⟨d2,e2,ev⟩:=Res.bind_ok ev
 obtain⟨k',rfl⟩:=cmp_bl ev
 cases et
 refine⟨O,own,e,d1,F,e1,λv1 H1 s1 r1=>⟨O,own,e,d2,F.grow s1,e2,λv2 H2 s2 r2=>?_⟩⟩
 refine⟨O,d1,d2,_,r1.same s2,r2,ev,(F.grow (s1.trans s2)).trk,λv H' s3 r3 _=>?_⟩
 exact⟨k,r3,qk H' ((s1.trans s2).trans s3)⟩
theorem pe_andV {a b:Expr} {rest:List Expr} {ta tb:TE} (ha:PE X a ta) (hb:PE X (.BoolOp .And (b::rest) pos) tb) :
 PE X (.BoolOp .And (a::b::rest) pos) (λσ H Q=>ta σ H λx H1=>∃c,TruV X.K x H1 c∧if c=true then tb σ H1 Q else Q x H1):=by
 intro pins s σ H Q I h
 refine BoolOp_and (thn (ha pins s σ H _ I h) λv s1 hz__=>?_)
 obtain⟨x,H1,I1,r1,c,tc,q1⟩:=hz__
 refine thn (tru_ok pins s1 σ H1 x v (λb H2=>b=c∧H2=H1) I1 r1 ⟨c,tc,rfl,rfl⟩) λb s2 hz__=>?_
 obtain⟨H2,I2,e1,e2⟩:=hz__
 subst e1 e2
 cases b with
 | true=>exact hb pins s2 σ H2 Q I2 q1
 | false=>exact⟨x,H2,I2,r1,q1⟩
theorem pe_orV {a b:Expr} {rest:List Expr} {ta tb:TE} (ha:PE X a ta) (hb:PE X (.BoolOp .Or (b::rest) pos) tb) :
 PE X (.BoolOp .Or (a::b::rest) pos) (λσ H Q=>ta σ H λx H1=>∃c,TruV X.K x H1 c∧if c=true then Q x H1 else tb σ H1 Q):=by
 intro pins s σ H Q I h
 refine BoolOp_or (thn (ha pins s σ H _ I h) λv s1 hz__=>?_)
 obtain⟨x,H1,I1,r1,c,tc,q1⟩:=hz__
 refine thn (tru_ok pins s1 σ H1 x v (λb H2=>b=c∧H2=H1) I1 r1 ⟨c,tc,rfl,rfl⟩) λb s2 hz__=>?_
 obtain⟨H2,I2,e1,e2⟩:=hz__
 subst e1 e2
 cases b with
 | false=>exact hb pins s2 σ H2 Q I2 q1
 | true=>exact⟨x,H2,I2,r1,q1⟩
theorem se_and {rest:List Expr} (ha:SE T cf X x p) (hb:SE T cf X y (.BoolOp .And (q::rest) pos)):SE T cf X (.and x y) (.BoolOp .And (p::q::rest) pos):=λH₀ O₀=>by
 refine PE.imp (λσ H Q hq=>?_) (pe_andV (ha H₀ O₀) (hb H₀ O₀))
 obtain⟨O,own,e,d,F,ev,k⟩:=hq
 rw[xE_and] at ev
 obtain⟨d1,e1,ev⟩:=Res.bind_ok ev
 obtain⟨c,e2,ev⟩:=Res.bind_ok ev
 refine⟨O,own,e,d1,F,e1,λv1 H1 s1 r1 _=>⟨c,tru_D r1.rr e2,?_⟩⟩
 cases c with
 | true =>
  rw[if_pos rfl] at ev ⊢
  exact⟨O,own,e,d,F.grow s1,ev,λv H' s' r _=>k v H' (s1.trans s') r (λz=>by cases z)⟩
 | false =>
  rw[if_neg Bool.false_ne_true] at ev ⊢
  cases ev
  exact k v1 H1 s1 r1 (λz=>by cases z)
theorem se_or {rest:List Expr} (ha:SE T cf X x p) (hb:SE T cf X y (.BoolOp .Or (q::rest) pos)):SE T cf X (.or x y) (.BoolOp .Or (p::q::rest) pos):=λH₀ O₀=>by
 refine PE.imp (λσ H Q hq=>?_) (pe_orV (ha H₀ O₀) (hb H₀ O₀))
 obtain⟨O,own,e,d,F,ev,k⟩:=hq
 rw[xE_or] at ev
 obtain⟨d1,e1,ev⟩:=Res.bind_ok ev
 obtain⟨c,e2,ev⟩:=Res.bind_ok ev
 refine⟨O,own,e,d1,F,e1,λv1 H1 s1 r1 _=>⟨c,tru_D r1.rr e2,?_⟩⟩
 cases c with
 | false =>
  rw[if_neg Bool.false_ne_true] at ev ⊢
  exact⟨O,own,e,d,F.grow s1,ev,λv H' s' r _=>k v H' (s1.trans s') r (λz=>by cases z)⟩
 | true =>
  rw[if_pos rfl] at ev ⊢
  cases ev
  exact k v1 H1 s1 r1 (λz=>by cases z)
theorem se_one {op:BoolOp} (h:SE T cf X x p):SE T cf X x (.BoolOp op [p] pos):=λH₀ O₀=>pe_one (h H₀ O₀)
theorem se_not (ha:ST T cf X x p) (hv:SR T cf X x p):SE T cf X (.not x) (.UnaryOp .Not p pos):=λH₀ O₀=>by
 intro pins s σ H Q I ⟨O,own,e,d,F,ev,k⟩
 rw[xE_not] at ev
 obtain⟨d1,e1,ev⟩:=Res.bind_ok ev
 obtain⟨c,e2,ev⟩:=Res.bind_ok ev
 cases ev
 refine UnaryOp_ (thn (hv H₀ O₀ pins s σ H (λv1 H1=>Same H H1∧RR X.K H1 O d1 v1) I ⟨O,own,e,d1,F,e1,λv1 H1 s1 r1=>⟨s1,r1⟩⟩) λv s1 hz__=>?_)
 obtain⟨x1,H1,I1,r1,s1',rr⟩:=hz__
 refine not_of ?_
 exact thn (tru_ok pins s1 σ H1 x1 v (λb H2=>b=c∧H2=H1) I1 r1 ⟨c,tru_D rr e2,rfl,rfl⟩) λb s2 hz__=>by
  obtain⟨H2,I2,e3,e4⟩:=hz__
  subst e3 e4
  exact⟨.bl (!b),H2,I2,rfl,k _ H2 s1' rfl (λz=>by cases z)⟩
theorem st_not (ha:ST T cf X x p):ST T cf X (.not x) (.UnaryOp .Not p pos):=λH₀ O₀=>by
 refine PT.imp (λσ H Q hq=>?_) (pt_not (ha H₀ O₀))
 obtain⟨O,own,e,d,k,F,ev,et,qk⟩:=hq
 rw[xE_not] at ev
 obtain⟨d1,e1,ev⟩:=Res.bind_ok ev
 obtain⟨c,e2,ev⟩:=Res.bind_ok ev
 cases ev
 cases et
 exact⟨O,own,e,d1,c,F,e1,e2,λH' s=>qk H' s⟩
noncomputable def SW (T:Tab) (cf:Nat→List D→Res D) (X:Cx) (x:E) (p:Expr):Prop:=∀H₀ O₀,PW X p (tT T cf X.K H₀ O₀ x)
theorem SW.st (h:SW T cf X x p):ST T cf X x p:=λH₀ O₀=>(h H₀ O₀).pt
theorem PW.imp {t t':TT} (h:∀σ H Q,t' σ H Q→t σ H Q) (hp:PW X p t):PW X p t':=λw pins s σ H Q I q=>hp w pins s σ H Q I (h σ H Q q)
theorem sw_and1 (ha:ST T cf X x p):SW T cf X x (.BoolOp .And [p] pos):=λH₀ O₀=>pw_and1 (ha H₀ O₀)
theorem sw_or1 (ha:ST T cf X x p):SW T cf X x (.BoolOp .Or [p] pos):=λH₀ O₀=>pw_or1 (ha H₀ O₀)
theorem sw_and {rest:List Expr} (ha:ST T cf X x p) (hb:SW T cf X y (.BoolOp .And (q::rest) pos)):SW T cf X (.and x y) (.BoolOp .And (p::q::rest) pos):=λH₀ O₀=>by
 refine PW.imp (λσ H Q hq=>?_) (pw_and (ha H₀ O₀) (hb H₀ O₀))
 obtain⟨O,own,e,d,k,F,ev,et,qk⟩:=hq
 rw[xE_and] at ev
 obtain⟨d1,e1,ev⟩:=Res.bind_ok ev
 obtain⟨c,e2,ev⟩:=Res.bind_ok ev
 refine⟨O,own,e,d1,c,F,e1,e2,λH1 s1=>?_⟩
 cases c with
 | true =>
  rw[if_pos rfl] at ev ⊢
  exact⟨O,own,e,d,k,F.grow s1,ev,et,λH' s'=>qk H' (s1.trans s')⟩
 | false =>
  rw[if_neg Bool.false_ne_true] at ev ⊢
  cases ev
  rw[e2] at et;cases et
  exact qk H1 s1
theorem sw_or {rest:List Expr} (ha:ST T cf X x p) (hb:SW T cf X y (.BoolOp .Or (q::rest) pos)):SW T cf X (.or x y) (.BoolOp .Or (p::q::rest) pos):=λH₀ O₀=>by
 refine PW.imp (λσ H Q hq=>?_) (pw_or (ha H₀ O₀) (hb H₀ O₀))
 obtain⟨O,own,e,d,k,F,ev,et,qk⟩:=hq
 rw[xE_or] at ev
 obtain⟨d1,e1,ev⟩:=Res.bind_ok ev
 obtain⟨c,e2,ev⟩:=Res.bind_ok ev
 refine⟨O,own,e,d1,c,F,e1,e2,λH1 s1=>?_⟩
 cases c with
 | false =>
  rw[if_neg Bool.false_ne_true] at ev ⊢
  exact⟨O,own,e,d,k,F.grow s1,ev,et,λH' s'=>qk H' (s1.trans s')⟩
 | true =>
  rw[if_pos rfl] at ev ⊢
  cases ev
  rw[e2] at et;cases et
  exact qk H1 s1
theorem se_ife (hc:ST T cf X x p) (ha:SE T cf X y q) (hb:SE T cf X z r):SE T cf X (.ife x y z) (.IfExp p q r pos):=λH₀ O₀=>by
 refine PE.imp (λσ H Q hq=>?_) (pe_ifExp (hc H₀ O₀) (ha H₀ O₀) (hb H₀ O₀))
 obtain⟨O,own,e,d,F,ev,k⟩:=hq
 rw[xE_ife] at ev
 obtain⟨d1,e1,ev⟩:=Res.bind_ok ev
 obtain⟨c,e2,ev⟩:=Res.bind_ok ev
 refine⟨O,own,e,d1,c,F,e1,e2,λH1 s1=>?_⟩
 cases c with
 | true =>
  rw[if_pos rfl] at ev ⊢
  exact⟨O,own,e,d,F.grow s1,ev,λv H' s' r _=>k v H' (s1.trans s') r (λz=>by cases z)⟩
 | false =>
  rw[if_neg Bool.false_ne_true] at ev ⊢
  exact⟨O,own,e,d,F.grow s1,ev,λv H' s' r _=>k v H' (s1.trans s') r (λz=>by cases z)⟩
theorem pt_ifExp {c a b:Expr} {tA ta tb:TT} (hc:PT X c tA) (ha:PT X a ta) (hb:PT X b tb):PT X (.IfExp c a b pos) (λσ H Q=>tA σ H λk H1=>if k=true then ta σ H1 Q else tb σ H1 Q):=by
 intro pins s σ H Q I h
 show wpAny _ _ (isTrue c X.env (eval c X.env)>>=λk=>if k=true then isTrue a X.env (eval a X.env) else isTrue b X.env (eval b X.env)) _ _ s
 refine wpAny_bind (thn (hc pins s σ H _ I h) λk s1 hz__=>?_)
 obtain⟨H1,I1,q1⟩:=hz__
 cases k with
 | true=>exact ha pins s1 σ H1 Q I1 q1
 | false=>exact hb pins s1 σ H1 Q I1 q1
theorem st_ife (hc:ST T cf X x p) (ha:ST T cf X y q) (hb:ST T cf X z r):ST T cf X (.ife x y z) (.IfExp p q r pos):=λH₀ O₀=>by
 refine PT.imp (λσ H Q hq=>?_) (pt_ifExp (hc H₀ O₀) (ha H₀ O₀) (hb H₀ O₀))
 obtain⟨O,own,e,d,k,F,ev,et,qk⟩:=hq
 rw[xE_ife] at ev
 obtain⟨d1,e1,ev⟩:=Res.bind_ok ev
 obtain⟨c,e2,ev⟩:=Res.bind_ok ev
 refine⟨O,own,e,d1,c,F,e1,e2,λH1 s1=>?_⟩
 cases c with
 | true =>
  rw[if_pos rfl] at ev ⊢
  exact⟨O,own,e,d,k,F.grow s1,ev,et,λH' s'=>qk H' (s1.trans s')⟩
 | false =>
  rw[if_neg Bool.false_ne_true] at ev ⊢
  exact⟨O,own,e,d,k,F.grow s1,ev,et,λH' s'=>qk H' (s1.trans s')⟩
theorem tchain_of {o o':CmpOp} {H₀:Hp} {O₀:Addr→Prop} {σ:L2.St} {H:Hp} {Q:VK} (h:tE T cf X.K H₀ O₀ (.chain o o' x y z) σ H Q) :
 tChain (rD2 X.K (D.cmp o) false) (rD2 X.K (D.cmp o') false) (tR T cf X.K H₀ O₀ x) (tR T cf X.K H₀ O₀ y) (tR T cf X.K H₀ O₀ z) σ H Q:=by
 obtain⟨O,own,e,d,F,ev,k⟩:=h
 (first | rw[xE_cmp] at ev | rw[xE_chain] at ev)
 obtain⟨d1,e1,ev⟩:=Res.bind_ok ev
 obtain⟨d2,e2,ev⟩:=Res.bind_ok ev
 obtain⟨d3,e3,ev⟩:=Res.bind_ok ev
 obtain⟨c,rfl⟩:=cmp_bl e3
 refine⟨O,own,e,d1,F,e1,λv1 H1 s1 r1=>⟨O,own,e,d2,F.grow s1,e2,λv2 H2 s2 r2=>?_⟩⟩
 refine⟨O,d1,d2,_,r1.same s2,r2,e3,(F.grow (s1.trans s2)).trk,λv H3 s3 r3 _=>⟨c,r3,?_⟩⟩
 have s123:=(s1.trans s2).trans s3
 cases c with
 | true =>
  rw[if_pos rfl]
  obtain⟨d4,e4,ev⟩:=Res.bind_ok ev
  refine⟨O,own,e,d4,F.grow s123,e4,λv4 H4 s4 r4=>?_⟩
  exact⟨O,d2,d4,d,(r2.same s3).same s4,r4,ev,(F.grow (s123.trans s4)).trk,λv H' s5 r5 n5=>k v H' ((s123.trans s4).trans s5) r5 λz=>by cases z⟩
 | false =>
  rw[if_neg Bool.false_ne_true]
  cases ev
  exact k _ H3 s123 rfl λz=>by cases z
theorem se_chain {o o':CmpOp} (hR:Roomy X) (hm:plainX r=true) (ha:SR T cf X x p) (hb:SR T cf X y q) (hc:SR T cf X z r):SE T cf X (.chain o o' x y z) (.Compare p [o,o'] [q,r] pos):=λH₀ O₀ =>
 PE.imp (λσ H Q h=>tchain_of h) (pe_chain (opr_cmp o hR) (opr_cmp o' hR) (ha H₀ O₀) (hb H₀ O₀) (hc H₀ O₀) (plain_mark hm))
theorem st_chain {o o':CmpOp} (hR:Roomy X) (hm:plainX r=true) (ha:SR T cf X x p) (hb:SR T cf X y q) (hc:SR T cf X z r):ST T cf X (.chain o o' x y z) (.Compare p [o,o'] [q,r] pos):=λH₀ O₀=>by
 refine PT.imp (λσ H Q hq=>?_) (pt_chain (opr_cmp o hR) (opr_cmp o' hR) (ha H₀ O₀) (hb H₀ O₀) (hc H₀ O₀) (plain_mark hm))
 obtain⟨O,own,e,d,k,F,ev,et,qk⟩:=hq
 have bl:∃b,d=.bl b:=by
  rw[xE_chain] at ev
  obtain⟨d1,e1,ev⟩:=Res.bind_ok ev
  obtain⟨d2,e2,ev⟩:=Res.bind_ok ev
  obtain⟨d3,e3,ev⟩:=Res.bind_ok ev
  split at ev
  ·obtain⟨d4,e4,ev⟩:=Res.bind_ok ev
   exact cmp_bl ev
  ·cases ev;exact⟨_,rfl⟩
  ·cases ev
 obtain⟨b,rfl⟩:=bl
 cases et
 exact tchain_of ⟨O,own,e,_,F,ev,λv H' s' r' _=>⟨k,r',qk H' s'⟩⟩
theorem se_neg (ha:SR T cf X x p):SE T cf X (.neg x) (.UnaryOp .USub p pos):=λH₀ O₀=>by
 refine PE.imp (λσ H Q hq=>?_) (pe_un un_neg (ha H₀ O₀))
 obtain⟨O,own,e,d,F,ev,k⟩:=hq
 (first | rw[xE_rd] at ev | rw[xE_neg] at ev)
 obtain⟨d1,e1,ev⟩:=Res.bind_ok ev
 split at ev
 ·cases ev
  refine⟨O,own,e,_,F,e1,λv1 H1 s1 r1=>⟨_,r1.rd rfl,k _ H1 s1 rfl λz=>by cases z⟩⟩
 ·cases ev
end
section
variable {T:Tab} {cf:Nat→List D→Res D} {X:Cx} {x y z:E} {p q r:Expr} {pos pos':Pos} {es:List Expr}
noncomputable def PayOk (d:D) (od:Option Addr) (H:Hp):Prop:=match d with
 | .int v=>∃dx,od=some dx∧H dx=some (.xd [("at", .int v)])
 | _=>od=none
noncomputable def spD (K:PySem.W.Frag) (F:List D→Res D) (fr:Bool):Sp:=λvs H Q E=>∃O ds,(∀a,O a→∃o,H a=some o)∧RDs K H O ds vs ∧
 ((∃d,F ds=.ok d∧∀v H',Same H H'→RD K H' O d v→(fr=true→NewR K H H' O d v)→Q v H')∨∃c d,F ds=.err c d∧∀od H',Same H H'→PayOk d od H'→E (cvK K c) od H')
noncomputable def DefIs (T:Tab) (cf:Nat→List D→Res D) (X:Cx) (f:Nat) (n:Str):Prop :=
 ∃k a fd ps,FnOk X.prog X.w X.K X.mg X.base (CXE X.prog X.w) k a fd ps (spD X.K (cf f) (T.fresh f))∧Room k X.A∧X.mg n=some (.ref a)∧PySem.W.keepIn X.K (.ref a)=true∧Binds X.K fd ps []
theorem tcall_of {f:Nat} {H₀:Hp} {O₀:Addr→Prop} {σ:L2.St} {H:Hp} {Q:VK} (h:tE T cf X.K H₀ O₀ (.call f x) σ H Q):tCall (spD X.K (cf f) (T.fresh f)) [] E0 (tAv T cf X.K H₀ O₀ x) σ H Q:=by
 obtain⟨O,own,e,d,F,ev,k⟩:=h
 rw[xE_call] at ev
 obtain⟨ds,e1,ev⟩:=Res.bind_ok ev
 refine⟨O,own,e,ds,F,e1,λvs H1 s1 r1=>?_⟩
 dsimp only
 rw[List.append_nil]
 refine⟨O,ds,(F.grow s1).trk,r1,.inl ⟨d,ev,λv H' s2 r2 n2=>k v H' (s1.trans s2) r2 λfr=>(n2 fr).1.back s1⟩⟩
theorem se_call {f:Nat} {n:Str} {pn:Pos} (hd:DefIs T cf X f n) (hg:Gl X n) (hdb:(n==("__debug__" : Str))=false) (hp:(p::es).all plainX=true) (ha:SAv T cf X x (p::es)):SE T cf X (.call f x) (.Call (.Name n pn) (p::es) [] pos):=λH₀ O₀=>by
 obtain⟨k,a,fd,ps,Fk,hr,hm,hk,hb⟩:=hd
 rw[List.all_cons,Bool.and_eq_true] at hp
 exact PE.imp (λσ H Q h=>tcall_of h) (pe_call Fk hr hg hm hk hb .nil passE0 (ha H₀ O₀) hdb (plain_star hp.1) (plain_any hp.2))
theorem se_call0 {f:Nat} {n:Str} {pn:Pos} (hd:DefIs T cf X f n) (hg:Gl X n) (hdb:(n==("__debug__" : Str))=false):SE T cf X (.call f .anil) (.Call (.Name n pn) [] [] pos):=λH₀ O₀=>by
 obtain⟨k,a,fd,ps,Fk,hr,hm,hk,hb⟩:=hd
 refine PE.imp (λσ H Q h=>?_) (pe_call0 Fk hr hg hm hk hb .nil passE0 hdb)
 obtain⟨O,own,e,d,F,ev,k⟩:=h
 rw[xE_call] at ev
 obtain⟨ds,e1,ev⟩:=Res.bind_ok ev
 rw[xA_anil] at e1;cases e1
 exact⟨O,[],F.trk,rfl,.inl ⟨d,ev,λv H' s2 r2 n2=>k v H' s2 r2 λfr=>(n2 fr).1⟩⟩
theorem pe_callS {o:Expr} {pos':Pos} {t1:TE} {t:TA} {e:Expr} (hf:PE X (.Subscript o q pos') t1) (ha:PA X (e::es) t) (he:starEach (e::es) X.env=(false,eval e X.env)::starEach es X.env) (hpl:(backTo pos (starEach es X.env)).any (·.1)=false) :
 PE X (.Call (.Subscript o q pos') (e::es) [] pos) (λσ H Q=>t1 σ H λv H1=>∃f,v=.ref f∧PySem.W.keepIn X.K (.ref f)=true∧t σ H1 λvs H2=>∃k fd ps sp,FnOk X.prog X.w X.K X.mg X.base (CXE X.prog X.w) k f fd ps sp∧Room k X.A∧Binds X.K fd ps []∧sp vs H2 Q E0):=by
 intro pins s σ H Q I h
 have arm:eval (.Call (.Subscript o q pos') (e::es) [] pos) X.env=(do callWith pos (←eval (.Subscript o q pos') X.env) [] (backTo pos (starEach (e::es) X.env)) (backToKw pos (keywordEach [] X.env))):=rfl
 rw[arm]
 refine wpAny_bind (thn (hf pins s σ H _ I h) λv s1 hz__=>?_)
 obtain⟨x,H1,I1,r1,f,ef,hk,q⟩:=hz__
 subst ef
 cases r1
 refine PySem.W.callWith_K (h₀:=X.base) I1.ok.mod.kin hk (thn (ha pos pins s1 σ H1 _ I1 q) λus s2 ⟨vs,H2,I2,r,k,fd,ps,sp,F,hr,hb,q2⟩=>⟨I2.kIn,?_⟩) he hpl
 exact run_fn (dvs:=[]) F hr hb .nil passE0 I2 r (by rw[List.append_nil];exact q2)
noncomputable def TabF (T:Tab) (cf:Nat→List D→Res D) (X:Cx) (n:Str) (fs:List Nat):Prop :=
 ∃(a:Addr) (xs:List V),X.mg n=some (.ref a)∧(∀H,SqT X.K H a xs)∧xs.length=fs.length∧∀(j f:Nat),fs[j]?=some f→∃(ad:Addr) (m:Str),xs[j]?=some (V.ref ad)∧X.mg m=some (.ref ad)∧DefIs T cf X f m
noncomputable def TabS (X:Cx) (n:Str) (ss:List Str):Prop:=∃a,X.mg n=some (.ref a)∧ModS X.K a ss
theorem se_callT {fs:List Nat} {n:Str} {pn pos':Pos} (hR:plainX q=true) (ht:TabF T cf X n fs) (hg:Gl X n) (hdb:(n==("__debug__" : Str))=false) (hp:(p::es).all plainX=true) (hk:SE T cf X y q) (ha:SAv T cf X x (p::es)) :
 SE T cf X (.callT fs y x) (.Call (.Subscript (.Name n pn) q pos') (p::es) [] pos):=λH₀ O₀=>by
 obtain⟨a,xs,hm,hS,hl,hF⟩:=ht
 rw[List.all_cons,Bool.and_eq_true] at hp
 refine PE.imp (λσ H Q h=>?_) (pe_callS (pe_ix ix_tup (pe_glob (v:=.ref a) hg hm rfl hdb) (hk H₀ O₀) (plain_ix hR)) (ha H₀ O₀) (plain_star hp.1) (plain_any hp.2))
 obtain⟨O,own,e,d,F,ev,k⟩:=h
 rw[xE_callT] at ev
 obtain⟨d1,e1,ev1⟩:=Res.bind_ok ev
 obtain⟨f,e2,ev2⟩:=Res.bind_ok ev1
 obtain⟨ds,e3,ev3⟩:=Res.bind_ok ev2
 clear ev ev1 ev2
 cases d1 with
 | int i =>
  have e2:Tr.atI fs i=some f:=of_ok e2
  unfold Tr.atI at e2
  cases hj:Tr.ixN fs.length i with
  | none=>rw[hj] at e2;cases e2
  | some j =>
   rw[hj] at e2
   obtain⟨ad,m,x1,x2,k0,a0,fd,ps,Fk,hr,hm0,hk0,hb0⟩:=hF j f e2
   rw[x2] at hm0
   cases hm0
   refine⟨O,own,e,.int i,F,e1,λv1 H1 s1 r1 _=>?_⟩
   cases (show v1=_ from r1)
   refine⟨a,xs,i,.ref ad,rfl,rfl,hS H1,?_,?_⟩
   ·show (L2.ixN xs.length i).bind _=_
    rw[hl,show L2.ixN fs.length i=Tr.ixN fs.length i from rfl,hj]
    exact x1
   ·refine⟨ad,rfl,hk0,O,own,e,ds,F.grow s1,e3,λvs H2 s2 r2=>⟨k0,fd,ps,_,Fk,hr,hb0,O,ds,(F.grow (s1.trans s2)).trk,r2,.inl ⟨d,ev3,λv H' s3 r3 n3=>?_⟩⟩⟩
    exact k v H' ((s1.trans s2).trans s3) r3 (λz=>by cases z)
 | _=>cases e2
theorem se_gidx {ss:List Str} {n nm:Str} {px apos cpos:Pos} (ht:TabS X n ss) (hg:Gl X n) (hdb:(n==("__debug__" : Str))=false) (hnm:nm = "index") (hline:(apos.endLine==cpos.line)=true) (hp:plainX q=true) (hb:SR T cf X y q) :
 SE T cf X (.gidx ss y) (.Call (.Attribute (.Name n px) nm apos) [q] [] cpos):=λH₀ O₀=>by
 subst hnm
 obtain⟨a,hm,hM⟩:=ht
 refine PE.imp (λσ H Q hq=>?_) (pe_bm PySem.F.plainAttrs_tuple PySem.F.slot_tuple_index PySem.F.type_tuple_index mt_index (pe_glob (v:=.ref a) hg hm rfl hdb) (pa_cons (hb H₀ O₀) pa_nil (plain_star hp)) rfl (by rw[plain_star hp];rfl) hline (plain_star hp) rfl)
 obtain⟨O,own,e,d,F,ev,k⟩:=hq
 (first | rw[xE_rd] at ev | rw[xE_gidx] at ev)
 obtain⟨d1,e1,ev⟩:=Res.bind_ok ev
 cases d1 with
 | str z =>
  obtain⟨c,ev⟩:=when_ok ev
  cases ev
  refine⟨?_,O,own,e,.str z,F,e1,λv1 H1 s1 r1=>?_⟩
  ·obtain⟨o,its,n',hk,hc,hd,_⟩:=id hM
   exact .inr (.inl ⟨rfl,o,hk,hc,hd⟩)
  ·cases (show v1=.str z from r1.rd rfl)
   exact⟨a,ss,z,rfl,rfl,hM,List.contains_iff_mem.mp c,k _ H1 s1 rfl (λz=>by cases z)⟩
 | _=>cases ev
theorem keys_vals {K:PySem.W.Frag} {H:Hp} {O:Addr→Prop}:∀ {ds:List D} {ks:List Key} {xs:List V},keysD ds=.ok ks→RDs K H O ds xs→xs=ks.map kV
 | [],ks,xs,h,w=>by
  rw[keysD] at h;cases h
  rw[RDs] at w;subst w;rfl
 | d::r,ks,xs,h,w=>by
  rw[keysD] at h
  obtain⟨k,h1,h⟩:=Res.bind_ok h
  obtain⟨q,h2,h⟩:=Res.bind_ok h
  cases h
  obtain⟨v,vs,rfl,w1,w2⟩:=w
  rw[keys_vals h2 w2]
  have h1:=of_ok h1
  cases d with
  | int i=>cases h1;cases (show v=_ from w1);rfl
  | str z=>cases h1;cases (show v=_ from w1);rfl
  | _=>cases h1
theorem se_lset {pn pm pos2:Pos} (hh:X.calm=true) (hR:Roomy X) (hm1:X.mg "len" = none) (hm2:X.mg "set" = none) (hg1:Gl X "len") (hg2:Gl X "set") (hp:plainX p=true) (ha:SR T cf X x p) :
 SE T cf X (.lset x) (.Call (.Name "len" pn) [.Call (.Name "set" pm) [p] [] pos2] [] pos):=λH₀ O₀=>by
 refine PE.imp (λσ H Q hq=>?_) (pe_callB call_lenY hg1 hm1 PySem.boot_len (pa_cons (pe_callTy (call_setY hh hR) hg2 hm2 (by decide +kernel) (pa_cons (ha H₀ O₀) pa_nil (plain_star hp)) (by decide) (by decide) (plain_star hp) rfl) pa_nil rfl) (by decide) (by decide) rfl rfl)
 obtain⟨O,own,e,d,F,ev,k⟩:=hq
 (first | rw[xE_rd] at ev | rw[xE_tup] at ev | rw[xE_lst] at ev | rw[xE_lset] at ev)
 obtain⟨d1,e1,ev1⟩:=Res.bind_ok ev
 refine⟨O,own,e,d1,F,e1,λv1 H1 s1 r1=>?_⟩
 have key:∃n:Nat,d=.int n∧SetsOf X.K H1 v1 n:=by
  unfold D.setN at ev1
  cases hk:d1.keys with
  | ok ks =>
   rw[hk] at ev1
   obtain⟨c,ev3⟩:=when_ok ev1
   rw[decide_eq_true_eq] at c
   cases ev3
   cases d1 with
   | lst ds =>
    refine⟨_,rfl,ks,?_,c,rfl⟩
    obtain⟨a,xs,rfl,q1,w1⟩:=r1.lst
    have e2:keysD ds=.ok ks:=hk
    rw[keys_vals e2 w1] at q1
    exact .inl ⟨a,rfl,q1⟩
   | str z =>
    refine⟨_,rfl,ks,?_,c,rfl⟩
    cases (show v1=.str z from r1.rd rfl)
    cases hk
    exact .inr ⟨z,rfl,rfl⟩
   | _=>cases hk
  | err c z =>
   rw[hk] at ev1
   cases ev1
  | no =>
   rw[hk] at ev1
   cases ev1
 obtain⟨n,rfl,hs⟩:=key
 refine⟨v1,n,rfl,hs,λp hpn=>?_⟩
 exact⟨p,n,rfl,upd_same,k _ _ (s1.trans (same_upd hpn _)) rfl λz=>by cases z⟩
noncomputable def rB (K:PySem.W.Frag) (f:List D→Res D) (fr:Bool):List V→Hp→VK→Prop:=λvs H Q=>∃O ds d,RRs K H O ds vs∧f ds=.ok d∧(∀a,O a→∃o,H a=some o)∧∀v H',Same H H'→RD K H' O d v→(fr=true→NewL K H H' O d v)→Q v H'
theorem rr1 {K:PySem.W.Frag} {H:Hp} {O:Addr→Prop} {d:D} {vs:List V} (h:RRs K H O [d] vs):∃v,vs=[v]∧RR K H O d v:=by
 obtain⟨v,r,rfl,h1,h2⟩:=h
 rw[RRs] at h2;subst h2
 exact⟨v,rfl,h1⟩
noncomputable def Bt.val:Bt→Value
 | .len=>.builtin "len"
 | .tuple=>.type "tuple"
 | .list=>.type "list"
 | .int=>.type "int"
 | .str=>.type "str"
 | .all=>.builtin "all"
noncomputable def Bt.nm:Bt→Str
 | .len => "len"
 | .tuple => "tuple"
 | .list => "list"
 | .int => "int"
 | .str => "str"
 | .all => "all"
theorem run_one {b:Bt} {ds:List D} {d:D} (h:b.run ds=.ok d) (hb:∀d1 d2,b.two d1 d2=.no):∃d0,ds=[d0]∧b.one d0=.ok d:=by
 unfold Bt.run at h
 split at h
 ·exact⟨_,rfl,h⟩
 ·rw[hb] at h;cases h
 ·cases h
theorem bt_len:CallR X (.builtin "len") (rB X.K (Bt.run .len) false):=by
 intro pins s σ H xs us Q I rv h
 obtain⟨O,ds,d,rr,ev,tr,k⟩:=h
 obtain⟨d0,rfl,ev⟩:=run_one ev (λ_ _=>rfl)
 obtain⟨v,rfl,r1⟩:=rr1 rr
 have ev:D.len d0=.ok d:=ev
 unfold D.len at ev
 split at ev
 ·cases ev
  obtain⟨a,ys,rfl,q1,w1⟩:=r1.lst
  exact call_len_seq pins s σ H _ us Q I rv ⟨a,ys,rfl,.inl q1,k _ H (Same.refl H) (by rw[w1.length];exact rfl) (λz=>by cases z)⟩
 ·cases ev
  obtain⟨a,ys,rfl,q1,w1⟩:=r1.tup
  exact call_len_seq pins s σ H _ us Q I rv ⟨a,ys,rfl,.inr q1,k _ H (Same.refl H) (by rw[w1.length];exact rfl) (λz=>by cases z)⟩
 ·obtain⟨c,ev⟩:=when_ok ev
  cases ev
  cases (show v=_ from r1.rd rfl)
  exact call_len_str pins s σ H _ us Q I rv ⟨_,rfl,by rw[←big_line];exact of_decide_eq_true c,k _ H (Same.refl H) rfl (λz=>by cases z)⟩
 ·cases ev
theorem bt_tuple:CallR X (.type "tuple") (rB X.K (Bt.run .tuple) false):=by
 intro pins s σ H xs us Q I rv h
 obtain⟨O,ds,d,rr,ev,tr,k⟩:=h
 obtain⟨d0,rfl,ev⟩:=run_one ev (λ_ _=>rfl)
 obtain⟨v,rfl,r1⟩:=rr1 rr
 have ev:D.tuple d0=.ok d:=ev
 unfold D.tuple at ev
 split at ev
 ·cases ev
  obtain⟨a,ys,rfl,q1,w1⟩:=r1.lst
  exact call_tuple_of pins s σ H _ us Q I rv ⟨a,ys,rfl,.inl ⟨q1,λl hl=>k _ _ (same_upd hl _) (new_tup w1 hl) (λz=>by cases z)⟩⟩
 ·cases ev
  obtain⟨a,ys,rfl,q1,w1⟩:=r1.tup
  exact call_tuple_of pins s σ H _ us Q I rv ⟨a,ys,rfl,.inr ⟨q1,k _ H (Same.refl H) ⟨a,ys,rfl,q1,w1⟩ (λz=>by cases z)⟩⟩
 ·cases ev
theorem bt_list:CallR X (.type "list") (rB X.K (Bt.run .list) true):=by
 intro pins s σ H xs us Q I rv h
 obtain⟨O,ds,d,rr,ev,tr,k⟩:=h
 obtain⟨d0,rfl,ev⟩:=run_one ev (λ_ _=>rfl)
 obtain⟨v,rfl,r1⟩:=rr1 rr
 have ev:D.list d0=.ok d:=ev
 unfold D.list at ev
 split at ev
 ·cases ev
  obtain⟨a,ys,rfl,q1,w1⟩:=r1.lst
  refine call_list_of pins s σ H _ us Q I rv ⟨a,ys,rfl,.inl q1,λl hl=>?_⟩
  have z:=new_lst w1 hl tr
  exact k _ _ (same_upd hl _) z.1 (λ_=>z.2)
 ·cases ev
  obtain⟨a,ys,rfl,q1,w1⟩:=r1.tup
  refine call_list_of pins s σ H _ us Q I rv ⟨a,ys,rfl,.inr q1,λl hl=>?_⟩
  have z:=new_lst w1 hl tr
  exact k _ _ (same_upd hl _) z.1 (λ_=>z.2)
 ·cases ev
theorem bt_int:CallR X (.type "int") (rB X.K (Bt.run .int) false):=by
 intro pins s σ H xs us Q I rv h
 obtain⟨O,ds,d,rr,ev,tr,k⟩:=h
 obtain⟨d0,rfl,ev⟩:=run_one ev (λ_ _=>rfl)
 obtain⟨v,rfl,r1⟩:=rr1 rr
 have ev:D.toInt d0=.ok d:=ev
 unfold D.toInt at ev
 split at ev
 ·cases ev
  cases (show v=_ from r1.rd rfl)
  exact call_int1 pins s σ H _ us Q I rv (.inl ⟨_,rfl,k _ H (Same.refl H) rfl (λz=>by cases z)⟩)
 ·cases ev
  cases (show v=_ from r1.rd rfl)
  exact call_int1 pins s σ H _ us Q I rv (.inr ⟨_,rfl,k _ H (Same.refl H) rfl (λz=>by cases z)⟩)
 ·obtain⟨c,ev⟩:=when_ok ev
  cases ev
  rw[Bool.and_eq_true,decide_eq_true_eq] at c
  cases (show v=_ from r1.rd rfl)
  exact call_int_text pins s σ H _ us Q I rv ⟨_,rfl,c.1,c.2,k _ H (Same.refl H) rfl (λz=>by cases z)⟩
 ·cases ev
theorem bt_str:CallR X (.type "str") (rB X.K (Bt.run .str) false):=by
 intro pins s σ H xs us Q I rv h
 obtain⟨O,ds,d,rr,ev,tr,k⟩:=h
 obtain⟨d0,rfl,ev⟩:=run_one ev (λ_ _=>rfl)
 obtain⟨v,rfl,r1⟩:=rr1 rr
 have ev:D.toStr d0=.ok d:=ev
 unfold D.toStr at ev
 split at ev
 ·obtain⟨c,ev⟩:=when_ok ev
  cases ev
  cases (show v=_ from r1.rd rfl)
  exact call_str_int pins s σ H _ us Q I rv ⟨_,rfl,of_decide_eq_true c,k _ H (Same.refl H) rfl (λz=>by cases z)⟩
 ·cases ev
theorem bls_vals {K:PySem.W.Frag} {H:Hp} {O:Addr→Prop}:∀ {ds:List D} {ns:List Bool} {xs:List V},blsOf ds=.ok ns→RDs K H O ds xs→xs=ns.map V.bl
 | [],ns,xs,h,w=>by
  rw[blsOf] at h;cases h
  rw[RDs] at w;subst w;rfl
 | .bl i::r,ns,xs,h,w=>by
  rw[blsOf] at h
  obtain⟨q,h1,h⟩:=Res.bind_ok h
  cases h
  obtain⟨v,ys,rfl,e1,e2⟩:=w
  cases (show v=_ from e1)
  rw[bls_vals h1 e2];rfl
 | .non::_,_,_,h,_ | .int _::_,_,_,h,_ | .str _::_,_,_,h,_ | .tup _::_,_,_,h,_ | .lst _::_,_,_,h,_=>by
  rw[blsOf] at h<;>first | cases h | (intros;rename_i z;cases z)
theorem strs_valsD {K:PySem.W.Frag} {H:Hp} {O:Addr→Prop}:∀ {ds:List D} {ns:List Str} {xs:List V},strsOf ds=.ok ns→RDs K H O ds xs→xs=ns.map V.str
 | [],ns,xs,h,w=>by
  rw[strsOf] at h;cases h
  rw[RDs] at w;subst w;rfl
 | .str i::r,ns,xs,h,w=>by
  rw[strsOf] at h
  obtain⟨q,h1,h⟩:=Res.bind_ok h
  cases h
  obtain⟨v,ys,rfl,e1,e2⟩:=w
  cases (show v=_ from e1)
  rw[strs_valsD h1 e2];rfl
 | .non::_,_,_,h,_ | .int _::_,_,_,h,_ | .bl _::_,_,_,h,_ | .tup _::_,_,_,h,_ | .lst _::_,_,_,h,_=>by
  rw[strsOf] at h<;>first | cases h | (intros;rename_i z;cases z)
theorem bt_all (hc:X.calm=true):CallR X (.builtin "all") (rB X.K (Bt.run .all) false):=by
 intro pins s σ H xs us Q I rv h
 obtain⟨O,ds,d,rr,ev,tr,k⟩:=h
 obtain⟨d0,rfl,ev⟩:=run_one ev (λ_ _=>rfl)
 obtain⟨v,rfl,r1⟩:=rr1 rr
 have ev:D.all d0=.ok d:=ev
 unfold D.all at ev
 split at ev
 ·obtain⟨ns,e1,ev⟩:=Res.bind_ok ev
  cases ev
  obtain⟨a,ys,rfl,q1,w1⟩:=r1.lst
  have e:=bls_vals e1 w1
  subst e
  exact Tr.call_all pins s σ H _ us Q I rv ⟨a,ns,rfl,q1,hc,k _ H (Same.refl H) rfl (λz=>by cases z)⟩
 ·cases ev
theorem tcb_of {b:Bt} {H₀:Hp} {O₀:Addr→Prop} {σ:L2.St} {H:Hp} {Q:VK} (h:tE T cf X.K H₀ O₀ (.bt b x) σ H Q):tCB (rB X.K (Bt.run b) (freshE T (.bt b x))) (tAr T cf X.K H₀ O₀ x) σ H Q:=by
 obtain⟨O,own,e,d,F,ev,k⟩:=h
 rw[xE_bt] at ev
 obtain⟨ds,e1,ev⟩:=Res.bind_ok ev
 refine⟨O,own,e,ds,F,e1,λvs H1 s1 r1=>?_⟩
 refine⟨O,ds,d,r1,ev,(F.grow s1).trk,λv H' s2 r2 n2=>k v H' (s1.trans s2) r2 λfr=>(n2 fr).back s1⟩
noncomputable def Bt.use:Bt→Bool
 | _=>true
theorem se_bt {b:Bt} {n:Str} {pn:Pos} (hu:b.use=true) (hh:X.calm=true) (hn:n=b.nm) (hm:X.mg b.nm=none) (hg:Gl X n) (hp:(p::es).all plainX=true) (ha:SAr T cf X x (p::es)):SE T cf X (.bt b x) (.Call (.Name n pn) (p::es) [] pos):=λH₀ O₀=>by
 subst hn
 rw[List.all_cons,Bool.and_eq_true] at hp
 refine PE.imp (λσ H Q h=>tcb_of h) ?_
 cases b with
 | len=>exact pe_callB bt_len hg hm PySem.boot_len (ha H₀ O₀) (by decide) (by decide) (plain_star hp.1) (plain_any hp.2)
 | tuple=>exact pe_callTy bt_tuple hg hm PyProof.Rows.boot_tuple (ha H₀ O₀) (by decide) (by decide) (plain_star hp.1) (plain_any hp.2)
 | list=>exact pe_callTy bt_list hg hm PyProof.Rows.boot_list (ha H₀ O₀) (by decide) (by decide) (plain_star hp.1) (plain_any hp.2)
 | int=>exact pe_callTy bt_int hg hm PyProof.Rows.boot_int (ha H₀ O₀) (by decide) (by decide) (plain_star hp.1) (plain_any hp.2)
 | str=>exact pe_callTy bt_str hg hm PyProof.Rows.boot_str (ha H₀ O₀) (by decide) (by decide) (plain_star hp.1) (plain_any hp.2)
 | all=>exact pe_callB (bt_all hh) hg hm (by decide +kernel) (ha H₀ O₀) (by decide) (by decide) (plain_star hp.1) (plain_any hp.2)
noncomputable def Ty.nm:Ty→String
 | .int => "int"
 | .bool => "bool"
 | .str => "str"
 | .tuple => "tuple"
 | .list => "list"
theorem kit_non (K:PySem.W.Frag) (t:Ty):PySem.W.kitOne K (.type "NoneType") (.type t.nm)=some (D.isTy .non t):=by cases t<;>rfl
theorem kit_bl (K:PySem.W.Frag) (t:Ty) (b:Bool):PySem.W.kitOne K (.type "bool") (.type t.nm)=some (D.isTy (.bl b) t):=by cases t<;>rfl
theorem kit_int (K:PySem.W.Frag) (t:Ty) (i:Int):PySem.W.kitOne K (.type "int") (.type t.nm)=some (D.isTy (.int i) t):=by cases t<;>rfl
theorem kit_str (K:PySem.W.Frag) (t:Ty) (x:Str):PySem.W.kitOne K (.type "str") (.type t.nm)=some (D.isTy (.str x) t):=by cases t<;>rfl
theorem kit_tup (K:PySem.W.Frag) (t:Ty) (x:List D):PySem.W.kitOne K (.type "tuple") (.type t.nm)=some (D.isTy (.tup x) t):=by cases t<;>rfl
theorem kit_lst (K:PySem.W.Frag) (t:Ty) (x:List D):PySem.W.kitOne K (.type "list") (.type t.nm)=some (D.isTy (.lst x) t):=by cases t<;>rfl
theorem isi_D (t:Ty):CallR X (.builtin "isinstance") (λxs H Q=>∃O d v,xs=[v,.ty t.nm]∧RR X.K H O d v∧d.isDct=false∧Q (.bl (d.isTy t)) H):=by
 intro pins s σ H xs us Q I rv h
 obtain⟨O,d,v,rfl,r,nd,q⟩:=h
 obtain⟨u,w,rfl,r1,r2⟩:=vals2 rv
 cases (show w=_ from r2)
 have fin:∀tk,EP X pins σ Q (.bool (d.isTy t)) { s with toks:=tk }:=λtk=>⟨.bl (d.isTy t),H,I.tok tk,rfl,q⟩
 have sn:=sees I r.bare r1
 cases sn with
 | non=>exact PySem.W.kia_one PySem.W.kitx_none I.kIn True.intro (kit_non _ t) (λz=>nomatch z) fin
 | bl b=>exact PySem.W.kia_one PySem.W.kitx_bool I.kIn True.intro (kit_bl _ t b) (λz=>nomatch z) fin
 | int i tk=>exact PySem.W.kia_one PySem.W.kitx_int I.kIn True.intro (kit_int _ t i) (λz=>nomatch z) fin
 | str x tk=>exact PySem.W.kia_one PySem.W.kitx_str I.kIn True.intro (kit_str _ t x) (λz=>nomatch z) fin
 | tup ds a xs its q w r p =>
  obtain⟨o,h1,h2,_⟩:=p
  exact PySem.W.kia_one PySem.W.kitx_tuple I.kIn ⟨o,h1,h2⟩ (kit_tup _ t ds) (λz=>nomatch z) fin
 | lst ds a xs its q w r p =>
  obtain⟨o,h1,h2,_⟩:=p.isList
  exact PySem.W.kia_one PySem.W.kitx_list I.kIn ⟨o,h1,h2⟩ (kit_lst _ t ds) (λz=>nomatch z) fin
theorem boot_ty (t:Ty):bootBuiltins (Str.ofString t.nm)=some (.type t.nm):=by
 cases t
 ·exact PyProof.Rows.boot_int
 ·exact PyProof.Rows.boot_bool
 ·exact PyProof.Rows.boot_str
 ·exact PyProof.Rows.boot_tuple
 ·exact PyProof.Rows.boot_list
noncomputable def Mt.nm:Mt→Str
 | .split => "split"
 | .join => "join"
noncomputable def baseX:Expr→Bool
 | .Name _ _=>true
 | .Constant _ _ _=>true
 | .Subscript _ _ _=>true
 | .BinOp _ _ _ _=>true
 | _=>false
theorem base_of {e:Expr} {nm:Str} {env:Env} (h:baseX e=true) (hn:(nm==("__class__" : Str))=false):attributeBase e nm env (eval e env)=eval e env:=by
 cases e<;>first | (cases h;done) | rfl
theorem se_mth {m:Mt} {nm:Str} {apos cpos:Pos} (hnm:nm=m.nm) (hbase:attributeBase p nm X.env (eval p X.env)=eval p X.env) (hline:(apos.endLine==cpos.line)=true) (hp:plainX q=true) (ha:SE T cf X x p) (hb:SR T cf X y q) :
 SE T cf X (.mth m x y) (.Call (.Attribute p nm apos) [q] [] cpos):=λH₀ O₀=>by
 subst hnm
 cases m with
 | split =>
  refine PE.imp (λσ H Q hq=>?_) (pe_bm PySem.F.plainAttrs_str PySem.F.slot_str_split PySem.F.type_str_split mt_split (ha H₀ O₀) (pa_cons (hb H₀ O₀) pa_nil (plain_star hp)) hbase (by rw[plain_star hp];rfl) hline (plain_star hp) rfl)
  obtain⟨O,own,e,d,F,ev,k⟩:=hq
  (first | rw[xE_rd] at ev | rw[xE_lst] at ev | rw[xE_mth] at ev)
  obtain⟨d1,e1,ev⟩:=Res.bind_ok ev
  obtain⟨d2,e2,ev⟩:=Res.bind_ok ev
  cases d1 with
  | str z =>
   cases d2 with
   | str w =>
    have ev:(match w.cps.toList with | [c]=>when (decide (z.length < big)&&decide (c < 256)) (.ok (D.lst ((splitS z c).map D.str))) | _=>.no)=Res.ok d:=ev
    split at ev
    ·rename_i c hc
     obtain⟨cc,ev⟩:=when_ok ev
     rw[Bool.and_eq_true,decide_eq_true_eq,decide_eq_true_eq] at cc
     cases ev
     refine⟨O,own,e,_,F,e1,λv1 H1 s1 r1 _=>?_⟩
     cases (show v1=_ from r1)
     refine⟨rfl,O,own,e,_,F.grow s1,e2,λv2 H2 s2 r2=>?_⟩
     cases (show v2=.str w from r2.rd rfl)
     have ew:w=⟨#[c]⟩:=str_ext (by rw[hc])
     refine⟨z,c,rfl,by rw[ew],by rw[←big_line];exact cc.1,cc.2,λp hp=>?_⟩
     have wd:∀(l:List Str),RDs X.K H2 O (l.map D.str) (l.map V.str):=by
      intro l
      induction l with
      | nil=>exact rfl
      | cons a r ih=>exact⟨_,_,rfl,rfl,ih⟩
     have zz:=new_lst (wd (splitS z c)) hp (F.grow (s1.trans s2)).trk
     exact k _ _ ((s1.trans s2).trans (same_upd hp _)) zz.1 λ_=>zz.2.back (s1.trans s2)
    ·cases ev
   | _=>cases ev
  | _=>cases ev
 | join =>
  refine PE.imp (λσ H Q hq=>?_) (pe_bm PySem.F.plainAttrs_str PySem.F.slot_str_join PySem.F.type_str_join mt_join (ha H₀ O₀) (pa_cons (hb H₀ O₀) pa_nil (plain_star hp)) hbase (by rw[plain_star hp];rfl) hline (plain_star hp) rfl)
  obtain⟨O,own,e,d,F,ev,k⟩:=hq
  (first | rw[xE_rd] at ev | rw[xE_lst] at ev | rw[xE_mth] at ev)
  obtain⟨d1,e1,ev⟩:=Res.bind_ok ev
  obtain⟨d2,e2,ev⟩:=Res.bind_ok ev
  cases d1 with
  | str z =>
   cases d2 with
   | lst ds =>
    have ev:(do let xs ←strsOf ds;when (decide (z.length≤64)&&decide ((xs.map (·.length)).sum+xs.length*64≤big)) (.ok (D.str (joinS z xs))))=Res.ok d:=ev
    obtain⟨xs,e3,ev⟩:=Res.bind_ok ev
    obtain⟨cc,ev⟩:=when_ok ev
    rw[Bool.and_eq_true,decide_eq_true_eq,decide_eq_true_eq] at cc
    cases ev
    refine⟨O,own,e,_,F,e1,λv1 H1 s1 r1 _=>?_⟩
    cases (show v1=_ from r1)
    refine⟨rfl,O,own,e,_,F.grow s1,e2,λv2 H2 s2 r2=>?_⟩
    obtain⟨a,ys,rfl,q1,w1⟩:=r2.lst
    have ey:=strs_valsD e3 w1
    subst ey
    exact⟨z,a,xs,rfl,rfl,q1,cc.1,cc.2,k _ H2 (s1.trans s2) rfl λz=>by cases z⟩
   | _=>cases ev
  | _=>cases ev
end
noncomputable def Wk1 (K:PySem.W.Frag) (J:It) (d0:D) (v0:V) (ds:List D):Prop:=∀i H O,RR K H O d0 v0 →
 (i < ds.length→J.go i H)∧(ds.length≤i→J.stop i H)∧∀x H' d,ds[i]?=some d→J.yld i H x H'→Same H H'∧RD K H' O d x
noncomputable def Wk (K:PySem.W.Frag) (J:It) (srs:List (D×V)) (ds:List D):Prop:=∀i H O,(∀t∈srs,RR K H O t.1 t.2) →
 (i < ds.length→J.go i H)∧(ds.length≤i→J.stop i H)∧∀x H' d,ds[i]?=some d→J.yld i H x H'→Same H H'∧RD K H' O d x
theorem Wk1.wk {K:PySem.W.Frag} {J:It} {d0:D} {v0:V} {ds:List D} (h:Wk1 K J d0 v0 ds):Wk K J [(d0,v0)] ds:=λi H O r=>h i H O (r (d0,v0) (List.mem_singleton.mpr rfl))
theorem k1_of {K:PySem.W.Frag} {H:Hp} {O:Addr→Prop} {rd:Bool} {ds:List D} {R:It→Hp→Prop} (k:∀J H' srs,Same H H'→(∀t∈srs,RR K H' O t.1 t.2)→(rd=false→∀t∈srs,RD K H' O t.1 t.2)→Wk K J srs ds→R J H') :
 ∀J H' d0 v0,Same H H'→RR K H' O d0 v0→(rd=false→RD K H' O d0 v0)→Wk1 K J d0 v0 ds→R J H':=λJ H' d0 v0 s r rv w =>
 k J H' [(d0,v0)] s (λt ht=>by rw[List.mem_singleton.mp ht];exact r) (λz t ht=>by rw[List.mem_singleton.mp ht];exact rv z) w.wk
noncomputable def tI (T:Tab) (cf:Nat→List D→Res D) (K:PySem.W.Frag) (H₀:Hp) (O₀:Addr→Prop) (x:E) (rd:Bool):TI:=λσ H R=>∃O own e ds,Fm K H₀ O₀ H O own e σ∧evI T cf x e=.ok ds ∧
 ∀J H' srs,Same H H'→(∀t∈srs,RR K H' O t.1 t.2)→(rd=false→∀t∈srs,RD K H' O t.1 t.2)→Wk K J srs ds→R J H'
noncomputable def SI (T:Tab) (cf:Nat→List D→Res D) (X:Cx) (tg:Expr) (x:E) (rd:Bool) (p:Expr):Prop:=∀H₀ O₀,PI X tg p (tI T cf X.K H₀ O₀ x rd)
section
variable {T:Tab} {cf:Nat→List D→Res D} {X:Cx} {x y z:E} {p q r tg:Expr} {pos pos':Pos} {es:List Expr}
theorem wk_list {K:PySem.W.Frag} {a:Addr} {ds:List D}:Wk1 K (Itl K a) (.lst ds) (.ref a) ds:=by
 intro i H O r
 obtain⟨a',xs,e,q,w⟩:=r.lst
 cases e
 have hl:=w.length
 refine⟨λh=>?_,λh=>⟨xs,q,by lia⟩,λx H' d hd y=>?_⟩
 ·obtain⟨v,h1,h2⟩:=w.get (List.getElem?_eq_getElem h)
  exact⟨xs,v,q,h1⟩
 ·obtain⟨rfl,y⟩:=y
  refine⟨Same.refl _,?_⟩
  obtain⟨v,h1,h2⟩:=w.get hd
  have:=(y xs q).symm.trans h1
  cases this
  exact h2
theorem wk_tup {K:PySem.W.Frag} {a:Addr} {ds:List D}:Wk1 K (Itt K a) (.tup ds) (.ref a) ds:=by
 intro i H O r
 obtain⟨a',xs,e,q,w⟩:=r.tup
 cases e
 have hl:=w.length
 refine⟨λh=>?_,λh=>⟨xs,q,by lia⟩,λx H' d hd y=>?_⟩
 ·obtain⟨v,h1,h2⟩:=w.get (List.getElem?_eq_getElem h)
  exact⟨xs,v,q,h1⟩
 ·obtain⟨rfl,y⟩:=y
  refine⟨Same.refl _,?_⟩
  obtain⟨v,h1,h2⟩:=w.get hd
  have:=(y xs q).symm.trans h1
  cases this
  exact h2
theorem rangeD_len (lo:Int):∀n,(rangeD lo n).length=n
 | 0=>rfl
 | n+1=>by rw[rangeD,List.length_cons,rangeD_len (lo+1) n]
theorem rangeD_get:∀(lo:Int) (n i:Nat),i < n→(rangeD lo n)[i]?=some (.int (lo+i))
 | lo,0,i,h=>absurd h (Nat.not_lt_zero _)
 | lo,n+1,0,_=>by rw[rangeD];simp
 | lo,n+1,i+1,h=>by
  rw[rangeD,List.getElem?_cons_succ,rangeD_get (lo+1) n i (by lia)]
  congr 2
  push_cast
  lia
theorem wk_rng {K:PySem.W.Frag} {lo:Int} {n:Nat}:Wk1 K (Itr lo n) .non .non (rangeD lo n):=by
 intro i H O r
 rw[rangeD_len]
 refine⟨λh=>h,λh=>h,λx H' d hd y=>?_⟩
 obtain⟨rfl,rfl⟩:=y
 refine⟨Same.refl _,?_⟩
 by_cases hi:i < n
 ·rw[rangeD_get lo n i hi] at hd
  cases hd
  exact rfl
 ·rw[List.getElem?_eq_none (by rw[rangeD_len];lia)] at hd
  cases hd
theorem wk_str {K:PySem.W.Frag} {z:Str}:Wk1 K (Its z) (.str z) (.str z) (z.cps.toList.map λc=>D.str (chr1 c)):=by
 intro i H O r
 rw[List.length_map]
 refine⟨λh=>by simpa[Its] using h,λh=>by simpa[Its] using h,λx H' d hd y=>?_⟩
 obtain⟨rfl,c,hc,rfl⟩:=y
 refine⟨Same.refl _,?_⟩
 rw[List.getElem?_map] at hd
 have hc':z.cps.toList[i]?=some c:=by simpa using hc
 rw[hc'] at hd
 cases hd
 exact rfl
theorem si_seq {rd:Bool} (ha:SR T cf X x p) (hv:rd=false→SE T cf X x p):SI T cf X tg (.seq x) rd p:=by
 intro H₀ O₀ pins s σ H R I h
 obtain⟨O,own,e,ds,F,ev,k⟩:=h
 replace k:=k1_of k
 rw[xI_seq] at ev
 obtain⟨d1,e1,ev⟩:=Res.bind_ok ev
 have main:∀ {u:Value} {s1:Shared} {v:V} {H1:Hp},Inv X pins σ H1 s1→RelV v u→Same H H1→RR X.K H1 O d1 v→(rd=false→RD X.K H1 O d1 v)→wpAny (model X.prog X.w) X.A (pyIter u) (PIE X pins σ tg R) X.xe s1:=by
  intro u s1 v H1 I1 r1 s1' rr rv
  unfold D.items at ev
  split at ev
  ·cases ev
   obtain⟨a,xs,e,q1,w1⟩:=rr.lst
   subst e
   cases r1
   obtain⟨its,r',pl,hz⟩:=I1.list q1
   refine wpAny_pyIter_list pl.isList ?_
   refine⟨s1.heap.objs.size,[s1.heap.objs.size],_,Itl X.K a,H1,rfl,I1.kept (t':=s1.toks) λb u e=>Heap.get?_push_of_some _ e,turn_list a _,⟨_,Heap.get?_push_size _ rfl,rfl,rfl⟩,λb hb=>?_,k _ H1 _ _ s1' rr rv wk_list⟩
   rcases List.mem_cons.mp hb with rfl | hb
   ·exact I1.fpOk (Nat.le_refl _) (I1.hok.fresh (Nat.le_refl _))
   ·cases hb
  ·cases ev
   obtain⟨a,xs,e,q1,w1⟩:=rr.tup
   subst e
   cases r1
   obtain⟨its,r',pl,hz⟩:=I1.tuple q1
   refine wpAny_pyIter_tuple pl ?_
   refine⟨s1.heap.objs.size,[s1.heap.objs.size],_,Itt X.K a,H1,rfl,I1.kept (t':=s1.toks) λb u e=>Heap.get?_push_of_some _ e,turn_tuple a _,⟨_,Heap.get?_push_size _ rfl,rfl,rfl⟩,λb hb=>?_,k _ H1 _ _ s1' rr rv wk_tup⟩
   rcases List.mem_cons.mp hb with rfl | hb
   ·exact I1.fpOk (Nat.le_refl _) (I1.hok.fresh (Nat.le_refl _))
   ·cases hb
  ·cases ev
   rename_i z
   cases (show v=.str z from rr.rd rfl)
   obtain⟨t,rfl⟩:=r1
   exact pi_str I1 (k _ H1 (.str z) (.str z) s1' rr rv wk_str)
  ·cases ev
 cases rd with
 | true=>exact thn (ha H₀ O₀ pins s σ H (λv H1=>Same H H1∧RR X.K H1 O d1 v) I ⟨O,own,e,d1,F,e1,λv H' s' r=>⟨s',r⟩⟩) λu s1 ⟨v,H1,I1,r1,s1',rr⟩=>main I1 r1 s1' rr (λz=>by cases z)
 | false=>exact thn (hv rfl H₀ O₀ pins s σ H (λv H1=>Same H H1∧RD X.K H1 O d1 v) I ⟨O,own,e,d1,F,e1,λv H' s' r _=>⟨s',r⟩⟩) λu s1 ⟨v,H1,I1,r1,s1',rr⟩=>main I1 r1 s1' rr.rr (λ_=>rr)
theorem si_rng {rd:Bool} {n:Str} {pn:Pos} (hn:n = "range") (hg:Gl X n) (hm:X.mg "range" = none) (hp:plainX p=true) (ha:SE T cf X x p):SI T cf X tg (.rng x) rd (.Call (.Name n pn) [p] [] pos):=by
 intro H₀ O₀ pins s σ H R I h
 subst hn
 obtain⟨O,own,e,ds,F,ev,k⟩:=h
 replace k:=k1_of k
 rw[xI_rng] at ev
 obtain⟨d1,e1,ev⟩:=Res.bind_ok ev
 refine pi_range1 hg hm (pa_cons (ha H₀ O₀) pa_nil (plain_star hp)) (plain_star hp) pins s σ H R I ⟨O,own,e,d1,F,e1,λv H' s' r _=>?_⟩
 split at ev
 ·obtain⟨c,ev⟩:=when_ok ev
  cases ev
  cases (show v=_ from r)
  simp only[small62,Bool.and_eq_true,decide_eq_true_eq] at c
  exact⟨_,rfl,c.1,c.2,k _ H' .non .non s' (.inl rfl) (λ_=>rfl) wk_rng⟩
 ·cases ev
noncomputable def Ft (K:PySem.W.Frag) (H₀:Hp) (O₀:Addr→Prop) (ts:List (D×V)) (e:Nv) (σ:L2.St) (H:Hp):Prop:=∃O own,Fm K H₀ O₀ H O own e σ∧∀t∈ts,RD K H O t.1 t.2
noncomputable def tG (K:PySem.W.Frag) (H₀:Hp) (O₀:Addr→Prop) (g:G):TG:=λv σ H Q=>∃O own e d e',Fm K H₀ O₀ H O own e σ∧RD K H O d v∧g.put d e=.ok e'∧∀σ' own',(∀j a,own' j=some a→own j=some a)→Fm K H₀ O₀ H O own' e' σ'→Q σ' H
noncomputable def SG (X:Cx) (g:G) (tg:Expr):Prop:=∀H₀ O₀,PG X tg (tG X.K H₀ O₀ g)
theorem PG.imp {t t':TG} (h:∀v σ H Q,t' v σ H Q→t v σ H Q) (hp:PG X tg t):PG X tg t':=λpins s σ H v u Q I r q=>hp pins s σ H v u Q I r (h v σ H Q q)
theorem own_less {own:Nat→Option Addr} {i:Nat}:∀j a,(λj=>if j=i then none else own j) j=some a→own j=some a:=λj a h=>by
 dsimp only at h
 by_cases hj:j=i
 ·rw[if_pos hj] at h;cases h
 ·rw[if_neg hj] at h;exact h
theorem sg_one {i:Nat} {n:Str} (hN:X.N.Nodup) (hi:X.N[i]?=some n) (hx:Loc X.env.scope n) (hf:X.fn n=true∨X.env.scope.names.lookup n=some .local):SG X (.one i) (.Name n pos):=λH₀ O₀ =>
 PG.imp (λv σ H Q hz__=>by
  obtain⟨O,own,e,d,e',F,r,ev,k⟩:=hz__
  cases ev
  exact k _ _ own_less (F.setV i r)) (pg_name hN hi hx hf)
noncomputable def tGs (K:PySem.W.Frag) (H₀:Hp) (O₀:Addr→Prop) (is:List Nat):TGs:=λvs σ H Q=>∃O own e ds e',Fm K H₀ O₀ H O own e σ∧RDs K H O ds vs∧puts is ds e=.ok e'∧∀σ' own',(∀j a,own' j=some a→own j=some a)→Fm K H₀ O₀ H O own' e' σ'→Q σ' H
noncomputable def SGs (X:Cx) (is:List Nat) (tgs:List Expr):Prop:=∀H₀ O₀,PGs X tgs (tGs X.K H₀ O₀ is)
theorem PGs.imp {tgs:List Expr} {t t':TGs} (h:∀v σ H Q,t' v σ H Q→t v σ H Q) (hp:PGs X tgs t):PGs X tgs t':=λpins s σ H v u Q I r q=>hp pins s σ H v u Q I r (h v σ H Q q)
theorem sgs_nil:SGs X [] []:=λH₀ O₀=>PGs.imp (λvs σ H Q hz__=>by
 obtain⟨O,own,e,ds,e',F,r,ev,k⟩:=hz__
 cases ds with
 | nil =>
  simp only[puts] at ev
  cases ev
  rw[RDs] at r
  exact⟨r,k _ _ (λ_ _ h=>h) F⟩
 | cons d ds=>simp only[puts] at ev;cases ev) pgs_nil
theorem each_name {n:Str} {pos:Pos} {es:List Expr} {env:Env}:(assignEach (.Name n pos::es) env).map (·.2)=assign (.Name n pos) env::(assignEach es env).map (·.2):=rfl
theorem sgs_cons {i:Nat} {is:List Nat} {n:Str} (hN:X.N.Nodup) (hi:X.N[i]?=some n) (hx:Loc X.env.scope n) (hf:X.fn n=true∨X.env.scope.names.lookup n=some .local) (h:SGs X is es):SGs X (i::is) (.Name n pos::es):=λH₀ O₀ =>
 PGs.imp (λvs σ H Q hz__=>by
  obtain⟨O,own,e,ds,e',F,r,ev,k⟩:=hz__
  cases ds with
  | nil=>simp only[puts] at ev;cases ev
  | cons d ds =>
   rw[puts] at ev
   obtain⟨v,vr,rfl,r1,r2⟩:=r
   exact⟨v,vr,rfl,O,_,_,ds,e',F.setV i r1,r2,ev,λσ' own' h=>k σ' own' λj a q=>own_less j a (h j a q)⟩) (pgs_cons (pg_name hN hi hx hf) (h H₀ O₀) each_name)
noncomputable def names1:List Expr→Bool
 | []=>true
 | .Name _ _::r=>names1 r
 | _=>false
theorem each_len {env:Env}:∀ {es:List Expr},names1 es=true→(assignEach es env).length=es.length:=by
 intro es
 induction es with
 | nil=>intro _;rfl
 | cons e es ih =>
  intro h
  cases e with
  | Name n pos =>
   show ((false,assign (.Name n pos) env)::assignEach es env).length=_
   rw[List.length_cons,ih h,List.length_cons]
  | _=>exact absurd h Bool.false_ne_true
theorem each_star {env:Env}:∀ {es:List Expr},names1 es=true→(assignEach es env).findIdx? (·.1)=none:=by
 intro es
 induction es with
 | nil=>intro _;rfl
 | cons e es ih =>
  intro h
  cases e with
  | Name n pos =>
   show ((false,assign (.Name n pos) env)::assignEach es env).findIdx? (·.1)=none
   rw[List.findIdx?_cons,ih h];rfl
  | _=>exact absurd h Bool.false_ne_true
theorem puts_len:∀ {is:List Nat} {ds:List D} {e e':Nv},puts is ds e=.ok e'→ds.length=is.length
 | [],[],_,_,_=>rfl
 | [],_::_,_,_,h=>by simp only[puts] at h;cases h
 | _::_,[],_,_,h=>by simp only[puts] at h;cases h
 | i::is,d::ds,e,e',h=>by
  rw[puts] at h
  rw[List.length_cons,List.length_cons,puts_len h]
theorem sg_many {is:List Nat} {k:Nat} (hc:X.calm=true) (hn:names1 es=true) (hl:es.length=is.length) (h:SGs X is es):SG X (.many is) (.Tuple es k pos):=λH₀ O₀ =>
 PG.imp (λv σ H Q hz__=>by
  obtain⟨O,own,e,d,e',F,r,ev,k⟩:=hz__
  cases d with
  | tup ds =>
   have ev:puts is ds e=.ok e':=ev
   obtain⟨a,xs,rfl,q,w⟩:=r
   exact⟨a,xs,rfl,q,by rw[w.length,puts_len ev,←hl],O,own,e,ds,e',F,w,ev,k⟩
  | non=>cases ev
  | bl _=>cases ev
  | int _=>cases ev
  | str _=>cases ev
  | lst _=>cases ev) (pg_tup (n:=es.length) hc (h H₀ O₀) (each_len hn) (each_star hn))
noncomputable def Ends.to (K:PySem.W.Frag) (H₀:Hp) (O₀:Addr→Prop) (ts:List (D×V)) (D':Ends):Out→Prop
 | .nx e'=>∀σ' H',Ft K H₀ O₀ ts e' σ' H'→D'.nx σ' H'
 | .bk e'=>∀σ' H',Ft K H₀ O₀ ts e' σ' H'→D'.bk σ' H'
 | .ct e'=>∀σ' H',Ft K H₀ O₀ ts e' σ' H'→D'.ct σ' H'
 | .rt d fr=>∀v H',Same H₀ H'→RD K H' O₀ d v→(fr=true→NewR K H₀ H' O₀ d v)→D'.rt v H'
noncomputable def tS (T:Tab) (cf:Nat→List D→Res D) (K:PySem.W.Frag) (H₀:Hp) (O₀:Addr→Prop) (x:S):TS:=λD' σ H=>∃ts e out,Ft K H₀ O₀ ts e σ H∧exS T cf x e=.ok out∧Ends.to K H₀ O₀ ts D' out
noncomputable def SS (T:Tab) (cf:Nat→List D→Res D) (X:Cx) (x:S) (p:Stmt):Prop:=∀H₀ O₀,PS X p (tS T cf X.K H₀ O₀ x)
noncomputable def SB (T:Tab) (cf:Nat→List D→Res D) (X:Cx) (x:S) (p:List Stmt):Prop:=∀H₀ O₀,PSs X p (tS T cf X.K H₀ O₀ x)
theorem PS.imp {st:Stmt} {t t':TS} (h:∀D' σ H,t' D' σ H→t D' σ H) (hp:PS X st t):PS X st t':=λpins s σ H D' I q=>hp pins s σ H D' I (h D' σ H q)
theorem PSs.imp {st:List Stmt} {t t':TS} (h:∀D' σ H,t' D' σ H→t D' σ H) (hp:PSs X st t):PSs X st t':=λpins s σ H D' I q=>hp pins s σ H D' I (h D' σ H q)
variable {a b c:S} {st:Stmt} {sts:List Stmt}
theorem sb_nil:SB T cf X .nil []:=λH₀ O₀=>PSs.imp (λD' σ H hz__=>by
 obtain⟨ts,e,out,F,ev,k⟩:=hz__
 rw[xS_nil] at ev;cases ev
 exact k σ H F) pss_nil
theorem sb_cons (h1:SS T cf X a st) (h2:SB T cf X b sts):SB T cf X (.cons a b) (st::sts):=λH₀ O₀=>by
 refine PSs.imp (λD' σ H hq=>?_) (pss_cons (h1 H₀ O₀) (h2 H₀ O₀))
 obtain⟨ts,e,out,F,ev,k⟩:=hq
 rw[xS_cons] at ev
 obtain⟨o1,e1,ev⟩:=Res.bind_ok ev
 refine⟨ts,e,o1,F,e1,?_⟩
 cases o1 with
 | nx e'=>exact λσ' H' F'=>⟨ts,e',out,F',ev,k⟩
 | rt d fr=>cases ev;exact k
 | bk e'=>cases ev;exact k
 | ct e'=>cases ev;exact k
theorem sb_seal {i:Nat} (h2:SB T cf X b sts):SB T cf X (.cons (.sealed i) b) sts:=λH₀ O₀=>by
 refine PSs.imp (λD' σ H hq=>?_) (h2 H₀ O₀)
 obtain⟨ts,e,out,⟨O,own,F,tt⟩,ev,k⟩:=hq
 (first | rw[xS_cons] at ev | rw[xS_sealed] at ev)
 obtain⟨o1,e1,ev⟩:=Res.bind_ok ev
 (first | rw[xS_cons] at e1 | rw[xS_sealed] at e1)
 obtain⟨l,e2,e1⟩:=Res.bind_ok e1
 cases e1
 obtain⟨O',own',F',sub⟩:=F.seal i (Sl.ownA_ok e2)
 exact⟨ts,_,out,⟨O',own',F',λt ht=>(tt t ht).weak sub⟩,ev,k⟩
theorem ss_ret (h:SE T cf X x p):SS T cf X (.ret x) (.Return (some p) pos):=λH₀ O₀=>by
 refine PS.imp (λD' σ H hq=>?_) (ps_ret (h H₀ O₀))
 obtain⟨ts,e,out,⟨O,own,F,tt⟩,ev,k⟩:=hq
 rw[xS_ret] at ev
 obtain⟨d,e1,ev⟩:=Res.bind_ok ev
 cases ev
 refine⟨O,own,e,d,F,e1,λv H' s' r n=>k v H' (F.same.trans s') (r.weak F.sub) λfr=>?_⟩
 rw[Bool.and_eq_true,Bool.not_eq_true'] at fr
 exact NewR.of (((n fr.1).back F.same).weak F.sub) fr.2
theorem ss_retO {i:Nat} {n:Str} (hN:X.N[i]?=some n) (hv:Vis X.env.scope n) (hd:(n==("__debug__" : Str))=false) (hc:(n==("__classdict__" : Str))=false):SS T cf X (.retO i) (.Return (some (.Name n pos')) pos):=λH₀ O₀=>by
 refine PS.imp (λD' σ H hq=>?_) (ps_ret (pe_var hN hv hd hc))
 obtain⟨ts,e,out,⟨O,own,F,tt⟩,ev,k⟩:=hq
 rw[xS_retO] at ev
 obtain⟨l,e1,ev⟩:=Res.bind_ok ev
 cases ev
 have q:=F.sl i
 rw[Sl.ownA_ok e1] at q
 obtain⟨p,e2,e3,h1⟩:=q
 have hn:=F.new i p e2
 have nO:¬O₀ p:=λz=>by
  obtain⟨o,w⟩:=F.trk0 p z
  rw[hn.2] at w;cases w
 exact⟨.ref p,st_get e3,k _ H F.same (OwnAt.rd nO (h1.weak F.sub)) λ_=>⟨λ_=>⟨p,rfl,hn.2,h1.weak λb hb=>hb.elim (F.sub b) λz=>z▸hn.1⟩,λa r z=>by subst z;exact h1.elim⟩⟩
noncomputable def notComp:Expr→Bool
 | .ListComp _ _ _ _=>false
 | .SetComp _ _ _ _=>false
 | .DictComp _ _ _ _ _=>false
 | _=>true
noncomputable def notTup:Expr→Bool
 | .Tuple _ _ _=>false
 | _=>true
theorem swaps_no {e:Expr} {t:Option Expr} {l:Nat} {env:Env} (h:notComp e=true):swapsWith e t l env=pure false:=by
 cases e<;>first | rfl | (cases h)
theorem stores_no {e tg:Expr} {env:Env} (h:notTup e=true):swappedStores [tg] e env=pure none:=by
 cases e<;>first | (cases h;done) | (cases tg<;>rfl)
theorem each_one {tg:Expr} {env:Env} (h:plainX tg=true):(assignEach [tg] env).map (·.2)=[assign tg env]:=by
 cases tg<;>first | rfl | (cases h)
theorem ss_asg {g:G} (hx:notComp p=true) (ht:notTup p=true) (hq:plainX tg=true) (h:SE T cf X x p) (hg:SG X g tg):SS T cf X (.asg g x) (.Assign [tg] p pos):=λH₀ O₀=>by
 refine PS.imp (λD' σ H hq=>?_) (ps_asg (h H₀ O₀) (hg H₀ O₀) (swaps_no hx) (stores_no ht) (each_one hq))
 obtain⟨ts,e,out,⟨O,own,F,tt⟩,ev,k⟩:=hq
 rw[xS_asg] at ev
 obtain⟨d,e1,ev⟩:=Res.bind_ok ev
 obtain⟨e2,e3,ev⟩:=Res.bind_ok ev
 cases ev
 refine⟨O,own,e,d,F,e1,λv H' s' r n=>⟨O,own,e,d,e2,F.grow s',r,e3,λσ' own' _ F'=>?_⟩⟩
 exact k σ' H' ⟨O,own',F',λt ht=>(tt t ht).same s'⟩
theorem ss_asgO {i:Nat} {n:Str} (hx:notComp p=true) (hN:X.N.Nodup) (hi:X.N[i]?=some n) (hl:Loc X.env.scope n) (hf:X.fn n=true∨X.env.scope.names.lookup n=some .local) (h:SE T cf X x p):SS T cf X (.asgO i x) (.Assign [.Name n pos'] p pos):=λH₀ O₀=>by
 refine PS.imp (λD' σ H hq=>?_) (ps_set hN hi hl (h H₀ O₀) (swaps_no hx) hf)
 obtain⟨ts,e,out,⟨O,own,F,tt⟩,ev,k⟩:=hq
 rw[xS_asgO] at ev
 obtain⟨d,e1,ev⟩:=Res.bind_ok ev
 split at ev
 ·obtain⟨c,ev⟩:=when_ok ev
  cases ev
  refine⟨O,own,e,_,F,e1,λv H' s' r n=>?_⟩
  obtain⟨p,rfl,h2,h3⟩:=n c rfl
  exact k _ H' ⟨_,_,F.setO s' i h2 h3,λt ht=>((tt t ht).new h2).same s'⟩
 ·cases ev
theorem ss_ite {ps qs:List Stmt} (hc:ST T cf X x p) (ha:SB T cf X a ps) (hb:SB T cf X b qs):SS T cf X (.ite x a b) (.If p ps qs pos):=λH₀ O₀=>by
 refine PS.imp (λD' σ H hq=>?_) (ps_if (hc H₀ O₀) (ha H₀ O₀) (hb H₀ O₀))
 obtain⟨ts,e,out,⟨O,own,F,tt⟩,ev,k⟩:=hq
 rw[xS_ite] at ev
 obtain⟨d,e1,ev⟩:=Res.bind_ok ev
 obtain⟨c,e2,ev⟩:=Res.bind_ok ev
 refine⟨O,own,e,d,c,F,e1,e2,λH1 s1=>?_⟩
 cases c with
 | true=>rw[if_pos rfl] at ev ⊢;exact⟨ts,e,out,⟨O,own,F.grow s1,λt ht=>(tt t ht).same s1⟩,ev,k⟩
 | false=>rw[if_neg Bool.false_ne_true] at ev ⊢;exact⟨ts,e,out,⟨O,own,F.grow s1,λt ht=>(tt t ht).same s1⟩,ev,k⟩
theorem ss_for {g:G} {ps:List Stmt} (hp:PassesOwn (model X.prog X.w) X.A X.env X.xe) (hc:X.calm=true) (hq:plainX p=true) (hi:SI T cf X tg x false p) (hg:SG X g tg) (hb:SB T cf X b ps):SS T cf X (.forS g x b) (.For tg p ps [] pos):=λH₀ O₀=>by
 refine PS.imp (λD' σ H hq=>?_) (ps_for hp hc (hi H₀ O₀) (hg H₀ O₀) (hb H₀ O₀) (plain_fold hq))
 obtain⟨ts,e,out,⟨O,own,F,tt⟩,ev,k⟩:=hq
 rw[xS_forS] at ev
 obtain⟨ds,e1,ev⟩:=Res.bind_ok ev
 refine⟨O,own,e,ds,F,e1,λJ H1 srs s1 rr rv wk=>?_⟩
 refine⟨λi m σ H=>m=ds.length - i∧i≤ds.length∧∃e',Ft X.K H₀ O₀ (srs++ts) e' σ H∧forL (λd e0=>do let e1 ←g.put d e0;exS T cf b e1) (ds.drop i) e'=.ok out,⟨ds.length,by simp,Nat.zero_le _,e,⟨O,own,F.grow s1,λt ht=>?_⟩,by simpa using ev⟩,?_⟩
 ·rcases List.mem_append.mp ht with ht | ht
  ·exact rv rfl t ht
  ·exact (tt t ht).same s1
 rintro i m σ2 H2 ⟨rfl,hi',e',⟨O2,own2,F2,t2⟩,ev2⟩
 obtain⟨w1,w2,w3⟩:=wk i H2 O2 λt ht=>(t2 t (List.mem_append_left _ ht)).rr
 by_cases hlt:i < ds.length
 ·refine .inr ⟨w1 hlt,λσ' H'=>∃e',Ft X.K H₀ O₀ (srs++ts) e' σ' H'∧forL (λd e0=>do let e1 ←g.put d e0;exS T cf b e1) (ds.drop (i+1)) e'=.ok out,λσ' H' n=>⟨ds.length - (i+1),by lia,rfl,hlt,n⟩,λv H' y=>?_⟩
  obtain⟨s3,r3⟩:=w3 v H' _ (List.getElem?_eq_getElem hlt) y
  rw[List.drop_eq_getElem_cons hlt,forL] at ev2
  obtain⟨o1,ev3,ev4⟩:=Res.bind_ok ev2
  obtain⟨e3,ev5,ev6⟩:=Res.bind_ok ev3
  refine⟨O2,own2,e',_,e3,F2.grow s3,r3,ev5,λσ' own' _ F'=>?_⟩
  refine⟨srs++ts,e3,o1,⟨O2,own',F',λt ht=>(t2 t ht).same s3⟩,ev6,?_⟩
  have down:∀ {e'':Nv} {σ'':L2.St} {H'':Hp},Ft X.K H₀ O₀ (srs++ts) e'' σ'' H''→Ft X.K H₀ O₀ ts e'' σ'' H'':=λ⟨O',own',F',t'⟩=>⟨O',own',F',λt ht=>t' t (List.mem_append_right _ ht)⟩
  cases o1 with
  | nx e4=>exact λσ'' H'' F''=>⟨e4,F'',ev4⟩
  | ct e4=>exact λσ'' H'' F''=>⟨e4,F'',ev4⟩
  | bk e4=>cases ev4;exact λσ'' H'' F''=>k σ'' H'' (down F'')
  | rt d fr=>cases ev4;exact k
 ·have e4:i=ds.length:=by lia
  subst e4
  refine .inl ⟨w2 (Nat.le_refl _),?_⟩
  rw[List.drop_length,forL] at ev2
  cases ev2
  exact k σ2 H2 ⟨O2,own2,F2,λt ht=>t2 t (List.mem_append_right _ ht)⟩
theorem ss_app {i:Nat} {n nm:Str} {px apos cpos:Pos} (hN:X.N[i]?=some n) (hv:Vis X.env.scope n) (hd:(n==("__debug__" : Str))=false) (hc:(n==("__classdict__" : Str))=false) (hnm:nm = "append") (hline:(apos.endLine==cpos.line)=true) (hp:plainX p=true) (h:SE T cf X x p) :
 SS T cf X (.app i x) (.Expr (.Call (.Attribute (.Name n px) nm apos) [p] [] cpos) pos):=λH₀ O₀=>by
 subst hnm
 refine PS.imp (λD' σ H hq=>?_) (ps_expr (pe_bm PySem.F.plainAttrs_list PySem.F.slot_list_append PySem.F.type_list_append mt_append (pe_var hN hv hd hc) (pa_cons (h H₀ O₀) pa_nil (plain_star hp)) rfl (by rw[plain_star hp];rfl) hline (plain_star hp) rfl) rfl)
 obtain⟨ts,e,out,⟨O,own,F,tt⟩,ev,k⟩:=hq
 rw[xS_app] at ev
 obtain⟨d,e1,ev⟩:=Res.bind_ok ev
 obtain⟨l,e2,ev⟩:=Res.bind_ok ev
 obtain⟨c,ev⟩:=when_ok ev
 cases ev
 obtain⟨q0,xs0,f1,f2,f3,f4,f5⟩:=F.mut i (Sl.own_ok e2)
 refine⟨.ref q0,st_get f1,.inl ⟨rfl,xs0,.of f2⟩,O,own,e,d,F,e1,λv H' s' r _=>?_⟩
 obtain⟨q1,xs1,g1,g2,g3,g4,g5⟩:=(F.grow s').mut i (Sl.own_ok e2)
 have eq:q1=q0:=by rw[f1] at g1;cases g1;rfl
 subst eq
 refine⟨q1,xs1,v,rfl,rfl,g2,by rw[g3.length,←big_line];exact of_decide_eq_true c,?_⟩
 exact k _ _ ⟨O,own,g5 _ _ (g3.append ⟨v,[],rfl,r,rfl⟩),λt ht=>((tt t ht).same s').upd g4 g2⟩
noncomputable def rInsert:V→List V→Hp→VK→Prop:=λx vs H Q=>∃l xs k j y,x=.ref l∧vs=[.int k,y]∧k=((j:Nat):Int)∧H l=some (.lst xs)∧j≤xs.length∧xs.length < sizeLine∧Q .non (L2.upd H l (.lst (xs.take j++y::xs.drop j)))
theorem ins_arr (l:List Value) (k:Nat) (y:Value):(l.toArray.extract 0 k).push y++l.toArray.extract k=(l.take k++y::l.drop k).toArray:=by
 apply Array.toList_inj.mp
 simp
 exact List.take_of_length_le (by simp)
theorem mt_insert:MtM X "list.insert" rInsert:=by
 intro pins s σ H x vs v us Q I rx rv h
 obtain⟨l,xs,k,j,y,rfl,rfl,hk,hH,hj,hz,q⟩:=h
 cases rx
 obtain⟨u,u2,rfl,ru,ru2⟩:=rv.two
 obtain⟨t,rfl⟩:=ru
 obtain⟨z,its,n,r,hl,e⟩:=I.lstM hH
 have bl:sizeLine=16777216:=big_line.symm.trans (rfl:big=16777216)
 have hj0:-(2^63)≤k:=by lia
 have hj1:k < 2^63:=by lia
 have hf:=fitsIndex_both hj0 hj1
 have hf2:¬(!Builtin.List.listFitsIndex k)=true:=by rw[hf];exact Bool.false_ne_true
 have hsz:its.toArray.size≤sizeLine:=by rw[List.size_toArray];lia
 refine call_meets PySem.F.slot_list_insert ⟨_,e,rfl⟩ PySem.F.entry_list_insert (PySem.F.args_list_insert_3 _ _ _)
  (PySem.AutoSeq1.list_insert_list_int_val_1 l its.toArray n k t u2 hf2 hsz) ⟨e,?_⟩
 refine⟨.non,_,I.lset (its':=its.take j++u2::its.drop j) hH e ?_ ((r.take j).append (.cons ru2 (r.drop j))) ?_,rfl,q⟩
 ·have e1:(if k < 0 then (k+(its.toArray.size:Int)).toNat else min k.toNat its.toArray.size)=j:=by
   rw[if_neg (by lia),List.size_toArray,hk,Int.toNat_natCast]
   lia
  show (its.toArray.extract 0 (if k < 0 then (k+(its.toArray.size:Int)).toNat else min k.toNat its.toArray.size)).push u2++its.toArray.extract (if k < 0 then (k+(its.toArray.size:Int)).toNat else min k.toNat its.toArray.size)=_
  rw[e1,ins_arr]
 ·rw[List.length_append,List.length_cons,List.length_take,List.length_drop]
  lia
theorem ss_ins {i:Nat} {n nm:Str} {px apos cpos:Pos} (hN:X.N[i]?=some n) (hv:Vis X.env.scope n) (hd:(n==("__debug__" : Str))=false) (hc:(n==("__classdict__" : Str))=false) (hnm:nm = "insert") (hline:(apos.endLine==cpos.line)=true) (hq:plainX q=true) (hp:plainX p=true) (hk:SE T cf X y q) (h:SE T cf X x p) :
 SS T cf X (.ins i y x) (.Expr (.Call (.Attribute (.Name n px) nm apos) [q,p] [] cpos) pos):=λH₀ O₀=>by
 subst hnm
 refine PS.imp (λD' σ H hq=>?_) (ps_expr (pe_bm PySem.F.plainAttrs_list PySem.F.slot_list_insert PySem.F.type_list_insert mt_insert (pe_var hN hv hd hc) (pa_cons (hk H₀ O₀) (pa_cons (h H₀ O₀) pa_nil (plain_star hp)) (plain_star hq)) rfl (by rw[plain_star hq,plain_star hp];rfl) hline (plain_star hq) (by rw[plain_star hp];rfl)) rfl)
 obtain⟨ts,e,out,⟨O,own,F,tt⟩,ev,k⟩:=hq
 rw[xS_ins] at ev
 obtain⟨dk,e1,ev⟩:=Res.bind_ok ev
 obtain⟨d,e2,ev⟩:=Res.bind_ok ev
 obtain⟨l,e3,ev⟩:=Res.bind_ok ev
 obtain⟨j,e4,ev⟩:=Res.bind_ok ev
 cases ev
 obtain⟨q0,xs0,f1,f2,f3,f4,f5⟩:=F.mut i (Sl.own_ok e3)
 refine⟨.ref q0,st_get f1,.inl ⟨rfl,xs0,.of f2⟩,O,own,e,dk,F,e1,λvk H1 s1 r1 _=>⟨O,own,e,d,F.grow s1,e2,λv H2 s2 r2 _=>?_⟩⟩
 cases dk with
 | int kk =>
  obtain⟨c,e5⟩:=when_ok (show when (decide (0≤kk)&&decide (kk≤(l.length:Int))&&decide (l.length < big)) (.ok kk.toNat)=.ok j from e4)
  simp only[Bool.and_eq_true,decide_eq_true_eq] at c
  cases e5
  cases (show vk=.int kk from r1)
  obtain⟨q1,xs1,g1,g2,g3,g4,g5⟩:=((F.grow s1).grow s2).mut i (Sl.own_ok e3)
  have eq:q1=q0:=by rw[f1] at g1;cases g1;rfl
  subst eq
  have hl:=g3.length
  refine⟨q1,xs1,kk,kk.toNat,v,rfl,rfl,by rw[Int.toNat_of_nonneg c.1.1],g2,by lia,by rw[hl,←big_line];exact c.2,?_⟩
  exact k _ _ ⟨O,own,g5 _ _ ((g3.take kk.toNat).append ⟨v,_,rfl,r2,g3.drop kk.toNat⟩),λt ht=>(((tt t ht).same s1).same s2).upd g4 g2⟩
 | non=>cases e4
 | bl _=>cases e4
 | str _=>cases e4
 | tup _=>cases e4
 | lst _=>cases e4
theorem ss_exp (hs:swapsWith p none pos.line X.env=pure false) (h:SE T cf X x p):SS T cf X (.exp x) (.Expr p pos):=λH₀ O₀=>by
 refine PS.imp (λD' σ H hq=>?_) (ps_expr (h H₀ O₀) hs)
 obtain⟨ts,e,out,⟨O,own,F,tt⟩,ev,k⟩:=hq
 rw[xS_exp] at ev
 obtain⟨d,e1,ev⟩:=Res.bind_ok ev
 cases ev
 exact⟨O,own,e,d,F,e1,λv H' s' r _=>k _ _ ⟨O,own,F.grow s',λt ht=>(tt t ht).same s'⟩⟩
end
section
variable {T:Tab} {cf:Nat→List D→Res D} {X:Cx} {x y z:E} {p q r tg:Expr} {pos pos':Pos} {es:List Expr} {a b c:S} {st:Stmt} {sts:List Stmt}
end
noncomputable def freeCells (cells:List (Str×Addr)):List (Str×NameKind)→List (Str×Addr)→List (Str×Addr)
 | [],cs=>cs
 | (n,k)::r,cs=>freeCells cells r (if (k==.free)=true then (match cells.lookup n with | some c=>(n,c)::cs | none=>cs) else cs)
theorem closure_go {env:Env}:∀(names:List (Str×NameKind)) (cs:List (Str×Addr)),(∀x∈names,x.2=.free→∃c,env.cells.lookup x.1=some c) →
 (forIn names cs (λ(x:Str×NameKind) (r:List (Str×Addr))=>(if (x.2==.free)=true then (do let c ←cellOf env x.1;pure (ForInStep.yield ((x.1,c)::r))) else pure (ForInStep.yield r):Sem _)))=pure (freeCells env.cells names cs)
 | [],cs,_=>rfl
 | (n,k)::r,cs,h=>by
  rw[List.forIn_cons]
  have ih:=closure_go (env:=env) r
  by_cases hk:(k==NameKind.free)=true
  ·have hk':k=.free:=by simpa using hk
   obtain⟨c,hc⟩:=h (n,k) (List.mem_cons_self ..) hk'
   simp only at hc
   simp only[hk,if_true]
   unfold cellOf
   rw[hc]
   show (do let r ←(pure (ForInStep.yield ((n,c)::cs)):Sem _);_)=_
   rw[freeCells,if_pos hk,hc]
   exact ih _ λx hx=>h x (List.mem_cons_of_mem _ hx)
  ·simp only[hk,if_false,Bool.false_eq_true]
   rw[freeCells,if_neg hk]
   exact ih _ λx hx=>h x (List.mem_cons_of_mem _ hx)
theorem closure_eq {scope:Scope} {env:Env} (h:∀x∈scope.names,x.2=.free→∃c,env.cells.lookup x.1=some c):closureFor scope env=pure (freeCells env.cells scope.names []):=by
 have:=closure_go (env:=env) scope.names [] h
 unfold closureFor
 rw[←this]
 first | rfl | simp
theorem freeCells_mem {cells:List (Str×Addr)}:∀ {names:List (Str×NameKind)} {cs:List (Str×Addr)} {n:Str} {c:Addr},(n,c)∈freeCells cells names cs→(n,c)∈cs∨((n,NameKind.free)∈names∧cells.lookup n=some c)
 | [],_,_,_,h=>.inl h
 | (m,k)::r,cs,n,c,h=>by
  rw[freeCells] at h
  rcases freeCells_mem h with g | ⟨h1,h2⟩
  ·clear h
   split at g
   ·rename_i hk
    have hk':k=.free:=by simpa using hk
    subst hk'
    split at g
    ·rename_i c' hc
     rcases List.mem_cons.mp g with e | g
     ·cases e
      exact .inr ⟨List.mem_cons_self ..,hc⟩
     ·exact .inl g
    ·exact .inl g
   ·exact .inl g
  ·exact .inr ⟨List.mem_cons_of_mem _ h1,h2⟩
theorem freeCells_keep {cells:List (Str×Addr)}:∀ {names:List (Str×NameKind)} {cs:List (Str×Addr)} {x:Str×Addr},x∈cs→x∈freeCells cells names cs
 | [],_,_,h=>h
 | (m,k)::r,cs,x,h=>by
  rw[freeCells]
  refine freeCells_keep ?_
  split
  ·split
   ·exact List.mem_cons_of_mem _ h
   ·exact h
  ·exact h
theorem freeCells_has {cells:List (Str×Addr)}:∀ {names:List (Str×NameKind)} {cs:List (Str×Addr)} {n:Str} {c:Addr},(n,NameKind.free)∈names→cells.lookup n=some c→(n,c)∈freeCells cells names cs
 | [],_,_,_,h,_=>by cases h
 | (m,k)::r,cs,n,c,h,hc=>by
  rw[freeCells]
  rcases List.mem_cons.mp h with e | h
  ·cases e
   refine freeCells_keep ?_
   rw[if_pos (by simp),hc]
   exact List.mem_cons_self ..
  ·exact freeCells_has h hc
theorem lookup_of_mem {l:List (Str×Addr)} {n:Str} {c:Addr} (h:(n,c)∈l):∃c',l.lookup n=some c':=by
 induction l with
 | nil=>cases h
 | cons x l ih =>
  obtain⟨m,d⟩:=x
  rw[List.lookup_cons]
  by_cases e:(n==m)=true
  ·rw[e];exact⟨d,rfl⟩
  ·have e':(n==m)=false:=by simpa using e
   rw[e']
   rcases List.mem_cons.mp h with z | z
   ·cases z;simp at e
   ·exact ih z
theorem relabel_free {env:Env}:∀ {names:List (Str×NameKind)} {x:Str},(∀y∈names,y.2≠.cell) →
 ((names.map λ(n,k)=>if (k==NameKind.free&&env.scope.kind==.function&&env.kindOf n==some .cell) then (n,NameKind.cell) else (n,k)).lookup x=some .cell ∨
  (names.map λ(n,k)=>if (k==NameKind.free&&env.scope.kind==.function&&env.kindOf n==some .cell) then (n,NameKind.cell) else (n,k)).lookup x=some .free)→(x,NameKind.free)∈names
 | [],_,_,h=>by rcases h with h | h<;>cases h
 | (n,k)::r,x,hc,h=>by
  have hk:=hc (n,k) (List.mem_cons_self ..)
  have ih:=@relabel_free env r x λy hy=>hc y (List.mem_cons_of_mem _ hy)
  rw[List.map_cons] at h
  dsimp only at h
  by_cases hx:(x==n)=true
  ·have hx':x=n:=by simpa using hx
   subst hx'
   refine List.mem_cons.mpr (.inl ?_)
   by_cases z:(k==NameKind.free&&env.scope.kind==.function&&env.kindOf x==some .cell)=true
   ·have:k=.free:=by
     cases k<;>first | rfl | (exact absurd z (by simp))
    rw[this]
   ·rw[if_neg z] at h
    simp only[List.lookup_cons,beq_self_eq_true] at h
    rcases h with h | h
    ·cases h;exact absurd rfl hk
    ·cases h;rfl
  ·have hx':(x==n)=false:=by simpa using hx
   refine List.mem_cons_of_mem _ (ih ?_)
   by_cases z:(k==NameKind.free&&env.scope.kind==.function&&env.kindOf n==some .cell)=true
   ·rw[if_pos z] at h
    simpa only[List.lookup_cons,hx'] using h
   ·rw[if_neg z] at h
    simpa only[List.lookup_cons,hx'] using h
theorem relabel_local {env:Env}:∀ {names:List (Str×NameKind)} {x:Str},
 (names.map λ(n,k)=>if (k==NameKind.free&&env.scope.kind==.function&&env.kindOf n==some .cell) then (n,NameKind.cell) else (n,k)).lookup x=some .local→names.lookup x=some .local
 | [],_,h=>by cases h
 | (n,k)::r,x,h=>by
  have ih:=@relabel_local env r x
  rw[List.map_cons] at h
  dsimp only at h
  by_cases z:(k==NameKind.free&&env.scope.kind==.function&&env.kindOf n==some .cell)=true
  ·rw[if_pos z] at h
   by_cases hx:(x==n)=true
   ·simp only[List.lookup_cons,hx] at h;cases h
   ·have hx':(x==n)=false:=by simpa using hx
    simp only[List.lookup_cons,hx'] at h ⊢
    exact ih h
  ·rw[if_neg z] at h
   by_cases hx:(x==n)=true
   ·simp only[List.lookup_cons,hx] at h ⊢;exact h
   ·have hx':(x==n)=false:=by simpa using hx
    simp only[List.lookup_cons,hx'] at h ⊢
    exact ih h
noncomputable def cxC (X:Cx) (scope:Scope) (C:Addr) (Nc:List Str) (s2:Shared) (H2:Hp) (fp:List Addr):Cx where
 prog:=X.prog
 w:=X.w
 K:=X.K
 mg:=X.mg
 base:=X.base
 A:=X.A
 N:=Nc
 s₀:=s2
 H₀:=H2
 env:=compEnvC scope (freeCells X.env.cells scope.names []) C X.env
 outer:=X.stack
 stack:=X.stack
 ex:=fp
 fn:=λn=>scope.names.lookup n==some .local
 calm:=X.calm
 pn:=[]
 xe:=λ_ _=>False
set_option genInjectivity false in
structure ScopeC (X:Cx) (scope:Scope):Prop where
 kind:scope.kind=.function
 cell:∀y∈scope.names,y.2≠.cell
 names:∀x∈scope.names,x.2=.local→scope.names.lookup x.1=some .local
 nd:∀x∈scope.names,x.2=.free→scope.names.lookup x.1≠some .local
 free:∀x∈scope.names,x.2=.free→X.env.kindOf x.1=some .cell∨X.env.kindOf x.1=some .free
section
variable {X:Cx} {scope:Scope} {C:Addr} {Nc:List Str} {s2:Shared} {H2:Hp} {fp:List Addr} {pins:List (Addr×Obj)} {σ:L2.St}
theorem cl_get {x:Str} {c:Addr} (h:(freeCells X.env.cells scope.names []).lookup x=some c):(x,NameKind.free)∈scope.names∧X.env.cells.lookup x=some c:=by
 rcases freeCells_mem (PySem.mem_of_lookup h) with z | z
 ·cases z
 ·exact z
theorem ScopeC.cells (S:ScopeC X scope) (ok:X.Ok):∀x∈scope.names,x.2=.free→∃c,X.env.cells.lookup x.1=some c:=λx hx hf=>ok.has x.1 (S.free x hx hf)
theorem cxC_ok (I:Inv X pins σ H2 s2) (S:ScopeC X scope) (hfp:∀b∈fp,FpOk X pins H2 b) (hfo:∀b∈fp,b < s2.heap.objs.size) (hC:s2.heap.objs.size≤C):(cxC X scope C Nc s2 H2 fp).Ok where
 mod:=I.ok.mod
 kind:=S.kind
 glob:=I.ok.glob
 blt:=I.ok.blt
 above:=hC
 inj:=λx y c h1 h2=>I.ok.inj x y c (cl_get h1).2 (cl_get h2).2
 has:=λx h=>by
  have hf:=relabel_free (env:=X.env) S.cell h
  obtain⟨c,hc⟩:=S.cells I.ok (x,.free) hf rfl
  exact lookup_of_mem (freeCells_has hf hc)
 cab:=λx c h1 h2=>by
  have h1':scope.names.lookup x=some .local:=by simpa[cxC] using h1
  exact absurd h1' (S.nd (x,.free) (cl_get h2).1 rfl)
 hd:=I.ok.hd
 frames:=I.ok.frames
 stk:=.inl rfl
 exf:=λb hb=>⟨Nat.ne_of_lt (Nat.lt_of_lt_of_le (hfo b hb) hC),λx c h=>(hfp b hb).2.2.2.2.1 x c (cl_get h).2⟩
 bs:=I.bs
 bsz:=Nat.le_trans I.ok.bsz I.sz
 noex:=λb o e hb=>by
  rcases (hfp b hb).2.2.2.1 with z | z
  ·exact I.ok.noex b o e z
  ·exact absurd (Nat.lt_of_lt_of_le (Heap.lt_size e) (Nat.le_trans I.ok.bsz z)) (Nat.lt_irrefl _)
 exfs:=λb hb z=>by
  rcases List.mem_cons.mp (I.stkSub b z) with z | z
  ·exact (hfp b hb).2.1 z
  ·exact (hfp b hb).2.2.1 z
 funs:=I.stack
 frf:=I.stkFree
noncomputable def stC (own:Nat) (caps:List Nat) (σ:L2.St):L2.St:=List.replicate own none++caps.map λi=>stAt σ i
set_option genInjectivity false in
structure CapsOk (X:Cx) (scope:Scope) (own:Nat) (caps:List Nat) (Nc:List Str):Prop where
 len:Nc.length=own+caps.length
 nd:caps.Nodup
 cap:∀j i,caps[j]?=some i→∃n,X.N[i]?=some n∧Nc[own+j]?=some n∧(n,NameKind.free)∈scope.names
theorem stC_get {own:Nat} {caps:List Nat} {j:Nat} {v:V} (h:(stC own caps σ)[j]?=some (some v)):∃k i,j=own+k∧caps[k]?=some i∧stAt σ i=some v:=by
 unfold stC at h
 by_cases hj:j < own
 ·rw[List.getElem?_append_left (by rw[List.length_replicate];exact hj),List.getElem?_replicate,if_pos hj] at h
  cases h
 ·rw[List.getElem?_append_right (by rw[List.length_replicate];lia),List.length_replicate,List.getElem?_map] at h
  cases e:caps[j - own]? with
  | none=>rw[e] at h;cases h
  | some i =>
   rw[e] at h
   exact⟨j - own,i,by lia,e,Option.some.inj h⟩
theorem vis_of (I:Inv X pins σ H2 s2) (S:ScopeC X scope) {n:Str} (h:(n,NameKind.free)∈scope.names):Vis X.env.scope n:=by
 rcases S.free _ h rfl with z | z
 ·exact .inr (.inl z)
 ·exact .inr (.inr z)
theorem invC {own:Nat} {caps:List Nat} {h1:Heap} {t1:Nat} (I:Inv X pins σ H2 s2) (S:ScopeC X scope) (P:CapsOk X scope own caps Nc) (ok:(cxC X scope C Nc s2 H2 fp).Ok)
 (keep:∀b o,s2.heap.get? b=some o→h1.get? b=some o) (hC:s2.heap.objs.size < C) (ns:h1.Ns C λ_=>none) (acc:h1.get? s2.heap.objs.size=some { cls:=.type "list", data:=.seq #[] }) :
 Inv (cxC X scope C Nc s2 H2 fp) [] (stC own caps σ) (upd H2 s2.heap.objs.size (.lst [])) { s2 with heap:=h1,toks:=t1 }:=by
 have fr:H2 s2.heap.objs.size=none:=I.hok.fresh (Nat.le_refl _)
 have cellK:∀x c v,X.env.cells.lookup x=some c→s2.heap.IsCell c v→h1.IsCell c v:=λx c v _ ⟨o,ho,hd⟩=>⟨o,keep c o ho,hd⟩
 refine⟨ok,rfl,I.bare,Un.laid keep (Nat.le_refl _) fr,⟨_,ns,λi x v e1 e2 e3=>?_⟩,λx c h=>?_,?_,λx c h=>?_,λp hp=>absurd hp (by simp[cxC]),I.hok.laid keep (Nat.le_refl _) ?_,?_⟩
 ·obtain⟨k,i',rfl,hk,hv⟩:=stC_get e2
  obtain⟨n,hn1,hn2,hn3⟩:=P.cap k i' hk
  have e1':Nc[own+k]?=some x:=e1
  rw[hn2] at e1';cases e1'
  obtain⟨m,hm,hl⟩:=I.loc
  obtain⟨u,ru,lk⟩:=hl i' _ v hn1 (st_get hv) (vis_of I S hn3)
  refine⟨u,ru,?_⟩
  rcases lk with ⟨kl,_⟩ | ⟨_,c,hc,hcell⟩
  ·rcases S.free _ hn3 rfl with z | z
   ·rw[kl] at z;cases z
   ·rw[kl] at z;cases z
  ·refine .inr ⟨?_,?_⟩
   ·rcases e3 with z | z
    ·exact absurd (relabel_local (env:=X.env) z) (S.nd _ hn3 rfl)
    ·exact z
   ·obtain⟨c',hc'⟩:=lookup_of_mem (freeCells_has (cs:=[]) hn3 hc)
    have:=(cl_get hc').2
    rw[hc] at this;cases this
    exact⟨c,hc',cellK _ c _ hc hcell⟩
 ·obtain⟨v,z⟩:=I.cell x c (cl_get h).2
  exact⟨v,cellK x c v (cl_get h).2 z⟩
 ·show upd H2 s2.heap.objs.size (.lst []) C=none
  rw[upd_ne (Nat.ne_of_gt hC)]
  exact I.hok.fresh (Nat.le_of_lt hC)
 ·obtain⟨v,z⟩:=I.cell x c (cl_get h).2
  rw[upd_ne (Nat.ne_of_lt z.lt)]
  exact I.freeC x c (cl_get h).2
 ·exact⟨Nat.zero_le _,[],0,.nil,acc⟩
 ·show (stC own caps σ).length=Nc.length
  unfold stC
  rw[List.length_append,List.length_replicate,List.length_map,P.len]
theorem Un.but {fs ex:List Addr} {H H':Hp} {h h1 h2:Heap} {C:Addr} (u:Un fs ex H H' h h1) (hC:h.objs.size≤C) (s:Heap.SameBut C h1 h2):Un fs ex H H' h h2 where
 keep:=λb o e n hb hx=>(s.2 b (Nat.ne_of_lt (Nat.lt_of_lt_of_le (Heap.lt_size e) hC))).trans (u.keep b o e n hb hx)
 slot:=λb o e n hb hx=>let ⟨sl,q⟩:=u.slot b o e n hb hx;⟨sl,(s.2 b (Nat.ne_of_lt (Nat.lt_of_lt_of_le (Heap.lt_size e) hC))).trans q⟩
 free:=u.free
 there:=λb o e hx=>let ⟨o',q⟩:=u.there b o e hx;⟨o',(s.2 b (Nat.ne_of_lt (Nat.lt_of_lt_of_le (Heap.lt_size e) hC))).trans q⟩
 tups:=u.tups
 frzs:=u.frzs
 tbls:=u.tbls
theorem HOk.but {P:Program} {w:World} {H:Hp} {h1 h2:Heap} {C:Addr} (x:HOk P w H h1) (hC:H C=none) (s:Heap.SameBut C h1 h2):HOk P w H h2:=λb ob e=>by
 refine (x b ob e).stay (λc w' hc q=>(s.2 c ?_).trans q) (λ_ q=>q) λ_ _ q=>q
 rintro rfl
 rcases hc with rfl | hc
 ·rw[hC] at e;cases e
 ·rw[hC] at hc;cases hc
theorem outC {σi:L2.St} {Hi:Hp} {s':Shared} {h':Heap} (I:Inv X pins σ H2 s2) (Ic:Inv (cxC X scope C Nc s2 H2 fp) [] σi Hi s') (hfp:∀b∈fp,FpOk X pins H2 b) (hC:s2.heap.objs.size≤C) (sb:Heap.SameBut C s'.heap h'):Inv X pins σ Hi { s' with heap:=h' }:=by
 refine I.call' (s':={ s' with heap:=h' }) (ch:=fp) Ic.os ?_ ?_ Ic.bare λb hb=>?_
 ·exact Un.but (show Un (frs X.stack) fp H2 Hi s2.heap s'.heap from Ic.base) hC sb
 ·exact HOk.but (show HOk X.prog X.w Hi s'.heap from Ic.hok) (show Hi C=none from Ic.free) sb
 ·obtain⟨_,a1,_,a3,a4,a5⟩:=hfp b hb
  exact⟨a3,a1,a4,a5⟩
end
section
variable {prog:Program} {w:World} {A:Around} {R:Result→Shared→Prop} {s:Shared}
theorem compLoop_gen {elt target iter:Expr} {ifs:List Expr} {scope:Scope} {pos:Pos} {it acc:Value} {env:Env} (I:Nat→Shared→Prop)
 (turn:∀n s,I n s→wpAny (model prog w) A (pyNext it) (λr s₁=>match r with
  | none=>R (.ok .next) s₁
  | some v=>wpAny (model prog w) A (letOwnedTupleGo target it v) (λ_ s₀=>wpAny (model prog w) A (assign target env v) (λ_ s₂ =>
   wpAny (model prog w) A (forIn ifs true λc r=>if r=true then do let ok ←isTrue c env (eval c env);pure (ForInStep.yield ok) else pure (ForInStep.yield r)) (λok s₃ =>
    if ok=true then wpAny (model prog w) A (eval elt env) (λx s₄ =>
     wpAny (model prog w) A (call (.builtin "list.append") [acc,x]) (λ_ s₅=>∃m,m < n∧I m s₅) (λ_ _=>False) s₄) (λ_ _=>False) s₃
    else ∃m,m < n∧I m s₃) (λ_ _=>False) s₂) (λ_ _=>False) s₀) (λ_ _=>False) s₁) (λ_ _=>False) s)
 (n:Nat) (h:I n s) :
 codeAny (model prog w) A (.compLoop (.ListComp elt [⟨target,iter,ifs,0⟩] scope pos) 0 it acc env) R s:=by
 refine codeAny_loop rfl I (λn s hI=>?_) n h
 show wpAny _ A ((compTurn (.ListComp elt [⟨target,iter,ifs,0⟩] scope pos) 0 it acc env).onRaise (λx=>do noteFrame x env;theTreesLotGoes x)) _ _ s
 refine wpAny_noted ?_
 rw[compTurn_list]
 refine wpAny_bind (wpAny_standAt (wpAny_bind (wpAny_mono (turn n s hI) (λr s₁ h₁=>?_) λ_ _ h'=>h'.elim)))
 cases r with
 | none=>exact wpAny_pure h₁
 | some v =>
  refine wpAny_bind (wpAny_mono h₁ (λ_ s₀ h₀=>?_) λ_ _ h'=>h'.elim)
  refine wpAny_bind (wpAny_mono h₀ (λ_ s₂ h₂=>wpAny_bind (wpAny_mono h₂ (λok s₃ h₃=>?_) λ_ _ h'=>h'.elim)) λ_ _ h'=>h'.elim)
  cases ok with
  | false=>exact wpAny_pure ⟨rfl,h₃⟩
  | true =>
   exact wpAny_bind (wpAny_bind (wpAny_mono h₃ (λx s₄ h₄=>wpAny_bind (wpAny_mono h₄ (λ_ s₅ h₅=>wpAny_pure (wpAny_pure ⟨rfl,h₅⟩)) λ_ _ h'=>h'.elim)) λ_ _ h'=>h'.elim))
end
section
variable {K:PySem.W.Frag} {H₀ H H':Hp} {O₀ O O':Addr→Prop} {own:Nat→Option Addr} {e e':Nv} {σ:L2.St}
theorem Fm.updO (F:Fm K H₀ O₀ H O own e σ) {p:Addr} {ys zs:List V} (hO:O p) (hp:H p=some (.lst ys)) (h0:H₀ p=none) (hn:∀j,own j≠some p):Fm K H₀ O₀ (upd H p (.lst zs)) O own e σ where
 len:=F.len
 sl:=λj=>RS.map (λq=>q.upd hO hp) (λq=>q.upd hO hp) (λa ys ea _ q=>by
  have:a≠p:=λz=>hn j (z▸ea)
  rw[upd_ne this];exact q) (F.sl j) (upd_map (K:=K) hO hp trivial).1
 inj:=F.inj
 same:=λb o hb=>by rw[upd_ne (λz=>by rw[z,h0] at hb;cases hb)];exact F.same b o hb
 sub:=F.sub
 trk0:=F.trk0
 trk:=λa ha=>by
  by_cases h:a=p
  ·subst h;exact⟨_,upd_same⟩
  ·obtain⟨ys,q⟩:=F.trk a ha
   exact⟨ys,by rw[upd_ne h];exact q⟩
 new:=F.new
theorem Fm.back (F:Fm K H₀ O₀ H O own e σ) (hl:e'.length=e.length) (h:∀j,e'.at j=.no∨e'.at j=e.at j):Fm K H₀ O₀ H O own e' σ where
 len:=hl.trans F.len
 sl:=λj=>by
  rcases h j with z | z
  ·rw[z];trivial
  ·rw[z];exact F.sl j
 inj:=F.inj
 same:=F.same
 sub:=F.sub
 trk0:=F.trk0
 trk:=F.trk
 new:=F.new
theorem compEnv_at {n:Nat} {caps:List Nat} {e:Nv} (j:Nat):(compEnv n caps e).at j=.no∨∃k i,j=n+k∧caps[k]?=some i∧(compEnv n caps e).at j=e.at i:=by
 unfold compEnv
 by_cases hj:j < n
 ·left
  unfold Nv.at
  rw[List.getElem?_append_left (by rw[List.length_replicate];exact hj),List.getElem?_replicate,if_pos hj];rfl
 ·cases q:caps[j - n]? with
  | none =>
   left
   unfold Nv.at
   rw[List.getElem?_append_right (by rw[List.length_replicate];lia),List.length_replicate,List.getElem?_map,q];rfl
  | some i =>
   right
   refine⟨j - n,i,by lia,q,?_⟩
   show (((List.replicate n Sl.no++caps.map λi=>e.at i))[j]?).getD .no=_
   rw[List.getElem?_append_right (by rw[List.length_replicate];lia),List.length_replicate,List.getElem?_map,q];rfl
theorem nodup_get {l:List Nat} (h:l.Nodup) {j k i:Nat} (h1:l[j]?=some i) (h2:l[k]?=some i):j=k:=by
 obtain⟨a,e1⟩:=List.getElem?_eq_some_iff.mp h1
 obtain⟨b,e2⟩:=List.getElem?_eq_some_iff.mp h2
 exact (List.getElem_inj h).mp (e1.trans e2.symm)
theorem Fm.comp (F:Fm K H₀ O₀ H O own e σ) (n:Nat) {caps:List Nat} (hc:caps.Nodup) {p:Addr} (hp:H p=none) {xs:List V} :
 ∃own',Fm K H₀ O₀ (upd H p (.lst xs)) (plus O p) own' (compEnv n caps e) (stC n caps σ)∧∀j,own' j≠some p:=by
 have np:∀j,own j≠some p:=λj q=>by
  obtain⟨ys,w⟩:=F.trk p (F.new j p q).1
  rw[hp] at w;cases w
 have sm:=same_upd hp (.lst xs)
 refine⟨λj=>if j < n then none else (caps[j - n]?).bind own,⟨?_,λj=>?_,λj k a h1 h2=>?_,F.same.trans sm,λa h=>.inl (F.sub a h),F.trk0,λa h=>?_,λj a h1=>?_⟩,λj h1=>?_⟩
 ·unfold compEnv stC
  simp
 ·rcases compEnv_at (n:=n) (caps:=caps) (e:=e) j with z | ⟨k,i,rfl,hk,z⟩
  ·rw[z];trivial
  ·rw[z,if_neg (by lia),show n+k - n=k by lia,hk]
   have e1:stAt (stC n caps σ) (n+k)=stAt σ i:=by
    unfold stC
    unfold stAt
    rw[List.getElem?_append_right (by rw[List.length_replicate];lia),List.length_replicate,List.getElem?_map,show n+k - n=k by lia,hk]
    rfl
   rw[e1]
   exact RS.map (λq=>(q.new hp).same sm) (λq=>(q.new hp).same sm) (λa ys _ _ q=>sm _ _ q) (F.sl i)
 ·by_cases hj:j < n
  ·rw[if_pos hj] at h1;cases h1
  ·by_cases hk:k < n
   ·rw[if_pos hk] at h2;cases h2
   ·rw[if_neg hj] at h1
    rw[if_neg hk] at h2
    cases q1:caps[j - n]? with
    | none=>rw[q1] at h1;cases h1
    | some i1 =>
     cases q2:caps[k - n]? with
     | none=>rw[q2] at h2;cases h2
     | some i2 =>
      rw[q1] at h1
      rw[q2] at h2
      have:=F.inj i1 i2 a h1 h2
      subst this
      have:=nodup_get hc q1 q2
      lia
 ·rcases h with h | h
  ·obtain⟨ys,q⟩:=F.trk a h
   exact⟨ys,sm _ _ q⟩
  ·subst h;exact⟨_,upd_same⟩
 ·by_cases hj:j < n
  ·rw[if_pos hj] at h1;cases h1
  ·rw[if_neg hj] at h1
   cases q1:caps[j - n]? with
   | none=>rw[q1] at h1;cases h1
   | some i1 =>
    rw[q1] at h1
    exact⟨.inl (F.new i1 a h1).1,(F.new i1 a h1).2⟩
 ·dsimp only at h1
  by_cases hj:j < n
  ·rw[if_pos hj] at h1;cases h1
  ·rw[if_neg hj] at h1
   cases q1:caps[j - n]? with
   | none=>rw[q1] at h1;cases h1
   | some i1 =>
    rw[q1] at h1
    exact np i1 h1
noncomputable def G.below (n:Nat):G→Bool
 | .one i=>decide (i < n)
 | .many is=>is.all λi=>decide (i < n)
theorem puts_back {n:Nat}:∀ {is:List Nat} {ds:List D} {e e':Nv},(is.all λi=>decide (i < n))=true→puts is ds e=.ok e'→e'.length=e.length∧∀j,n≤j→e'.at j=e.at j
 | [],[],e,e',_,h=>by rw[puts] at h;cases h;exact⟨rfl,λ_ _=>rfl⟩
 | [],_::_,_,_,_,h=>by simp only[puts] at h;cases h
 | _::_,[],_,_,_,h=>by simp only[puts] at h;cases h
 | i::is,d::ds,e,e',hb,h=>by
  rw[puts] at h
  rw[List.all_cons,Bool.and_eq_true] at hb
  obtain⟨h1,h2⟩:=puts_back hb.2 h
  have hi:=of_decide_eq_true hb.1
  exact⟨by rw[h1,List.length_set],λj hj=>by rw[h2 j hj,at_set_ne (by lia)]⟩
theorem put_back {n:Nat} {g:G} {d:D} {e e':Nv} (hb:g.below n=true) (h:g.put d e=.ok e'):e'.length=e.length∧∀j,n≤j→e'.at j=e.at j:=by
 cases g with
 | one i =>
  have h:Res.ok (e.set i (.v d))=.ok e':=h
  cases h
  have hi:i < n:=of_decide_eq_true hb
  exact⟨List.length_set,λj hj=>at_set_ne (by lia)⟩
 | many is =>
  cases d with
  | tup ds=>exact puts_back hb h
  | non=>cases h
  | bl _=>cases h
  | int _=>cases h
  | str _=>cases h
  | lst _=>cases h
end
section
variable {T:Tab} {cf:Nat→List D→Res D} {X:Cx} {x y z:E} {p q r tg iter:Expr} {pos:Pos}
noncomputable def Src (K:PySem.W.Frag) (H:Hp) (O:Addr→Prop) (p:Addr) (d:D) (v:V):Prop:=RD K H O d v∨∃a,v=.ref a∧a≠p∧OwnAt K H O a d
theorem Src.rr {K:PySem.W.Frag} {H:Hp} {O:Addr→Prop} {p:Addr} {d:D} {v:V} (h:Src K H O p d v):RR K H O d v:=by
 rcases h with z | ⟨al,z1,z2,z3⟩
 ·exact .inl z
 ·exact .inr ⟨al,z1,z3⟩
theorem Src.same {K:PySem.W.Frag} {H H':Hp} {O:Addr→Prop} {p:Addr} {d:D} {v:V} (h:Src K H O p d v) (s:Same H H'):Src K H' O p d v:=by
 rcases h with z | ⟨al,z1,z2,z3⟩
 ·exact .inl (z.same s)
 ·exact .inr ⟨al,z1,z2,z3.same s⟩
theorem Src.upd {K:PySem.W.Frag} {H:Hp} {O:Addr→Prop} {p:Addr} {d:D} {v:V} {ys zs:List V} (h:Src K H O p d v) (hO:O p) (hp:H p=some (.lst ys)):Src K (L2.upd H p (.lst zs)) O p d v:=by
 rcases h with z | ⟨al,z1,z2,z3⟩
 ·exact .inl (z.upd hO hp)
 ·exact .inr ⟨al,z1,z2,z3.updM hO hp trivial z2⟩
noncomputable def testsIs (ifs:List Expr) (cond:E) (P:Expr→Prop):Prop:=(ifs=[]∧cond=.con (.bl true))∨∃c,ifs=[c]∧P c
theorem comp_run {n:Nat} {caps:List Nat} {g:G} {elt src cond:E} {pe:Expr} {ifs:List Expr} {scope:Scope} {Nc:List Str} (hc:X.calm=true) (S:ScopeC X scope) (P:CapsOk X scope n caps Nc) (hb:g.below n=true)
 (hplain:plainX iter=true) (hsrc:SI T cf X tg src true iter)
 (body:∀C s2 H2 fp,(cxC X scope C Nc s2 H2 fp).Ok→SG (cxC X scope C Nc s2 H2 fp) g tg∧SE T cf (cxC X scope C Nc s2 H2 fp) elt pe∧testsIs ifs cond (ST T cf (cxC X scope C Nc s2 H2 fp) cond))
 {use:Option (Value→Sem Unit)} {H₀:Hp} {O₀:Addr→Prop} {pins:List (Addr×Obj)} {s:Shared} {σ:L2.St} {H:Hp} {O:Addr→Prop} {own:Nat→Option Addr} {e:Nv} {d:D} {Q:Value→Shared→Prop} (I:Inv X pins σ H s) (F:Fm X.K H₀ O₀ H O own e σ)
 (ev:evE T cf (.comp n caps g elt src cond) e=.ok d)
 (fin:∀C s2 H2 Hi s' a,Inv X pins σ H2 s2→Same H H2→s2.heap.objs.size < C→(∀h',Heap.SameBut C s'.heap h'→Inv X pins σ Hi { s' with heap:=h' })→(∃m,s'.heap.Ns C m)→Hi C=none→Same H Hi→Fm X.K H₀ O₀ Hi O own e σ→RD X.K Hi O d (.ref a)→NewL X.K H Hi O d (.ref a)→a≠C →
  compPost (model X.prog X.w) X.A X.xe use Q (.ref a) C (.ok .next) s') :
 wpAny (model X.prog X.w) X.A (comprehension (.ListComp pe [⟨tg,iter,ifs,0⟩] scope pos) scope X.env (firstIterPos [⟨tg,iter,ifs,0⟩] pos) (newList []) false (eval iter X.env) use) Q X.xe s:=by
 (first | rw[xE_con] at ev | rw[xE_lst] at ev | rw[xE_comp] at ev)
 obtain⟨ds,e1,ev⟩:=Res.bind_ok ev
 obtain⟨ys,e2,ev⟩:=Res.bind_ok ev
 obtain⟨cz,ev⟩:=when_ok ev
 cases ev
 have hz:=of_decide_eq_true cz
 refine wpAny_comprehension_free rfl (plain_fold hplain) (closure_eq (S.cells I.ok)) S.kind S.names ?_
 refine thn (hsrc H₀ O₀ pins s σ H (λJ H2=>∃srs,Same H H2∧(∀t∈srs,RR X.K H2 O t.1 t.2)∧Wk X.K J srs ds) I ⟨O,own,e,ds,F,e1,λJ H' srs s' rr _ wk=>⟨srs,s',rr,wk⟩⟩) λv s1 h1=>thn h1 λitv s2 h2=>?_
 obtain⟨it,fp,tn,J,H2,rfl,I2,Tn,tn0,hfp,srs,s12,rr0,wk⟩:=h2
 refine wpAny_newObj_type (wpAny_newFunctionEnv S.cell (by intro y hy;simp at hy) (λh₁ hns₁ hsb₁=>?_) S.kind)
 dsimp only at hns₁ hsb₁ ⊢
 generalize hH2:s2.heap.push { cls:=.type "list", dict:=none,data:=.seq ([]:List Value).toArray }=HP at hns₁ hsb₁ ⊢
 have hC:HP.objs.size=s2.heap.objs.size+1:=by rw[←hH2,Heap.size_push]
 have hCl:s2.heap.objs.size < HP.objs.size:=by rw[hC];exact Nat.lt_succ_self _
 have below:∀b,b < s2.heap.objs.size→b≠HP.objs.size:=λb hb=>by rw[hC];exact Nat.ne_of_lt (Nat.lt_succ_of_lt hb)
 have old:∀b o,s2.heap.get? b=some o→h₁.get? b=some o:=λb o e=>hsb₁.extBut b o (below b (Heap.lt_size e)) (Heap.get?_push_of_some _ (hH2▸Heap.get?_push_of_some _ e))
 have hacc:h₁.get? s2.heap.objs.size=some { cls:=.type "list", data:=.seq #[] }:=hsb₁.extBut _ _ (Nat.ne_of_lt hCl) (Heap.get?_push_of_some _ (hH2▸Heap.get?_push_size _ rfl))
 have hfo:∀b∈fp,b < s2.heap.objs.size:=λb hb=>let ⟨o,q,_⟩:=Tn.obj 0 _ tn0 b hb;Heap.lt_size q
 have ok:=cxC_ok (Nc:=Nc) I2 S hfp hfo (Nat.le_of_lt hCl)
 have fr:H2 s2.heap.objs.size=none:=I2.hok.fresh (Nat.le_refl _)
 have F2:=F.grow s12
 obtain⟨ownc,Fc,nown⟩:=F2.comp n (caps:=caps) P.nd fr (xs:=[])
 obtain⟨bg,be,bt⟩:=body HP.objs.size s2 H2 fp ok
 have I0:=invC (t1:=s2.toks+([]:List (Str×Value)).length) (fp:=fp) I2 S P ok old hCl (by simpa using hns₁) hacc
 have fpn:∀ {Hi:Hp} {pins':List (Addr×Obj)},(∀b∈fp,Hi b=none)→(∀b∈fp,∀p∈pins',p.1≠b)→∀b∈fp,FpOk (cxC X scope HP.objs.size Nc s2 H2 fp) pins' Hi b:=λhn hpp b hb=>by
  refine⟨hn b hb,(ok.exf b hb).1,ok.exfs b hb,.inl hb,(ok.exf b hb).2,λp hp=>hpp b hb p (by simpa[cxC] using hp)⟩
 let f : D → Res (Option D) := fun d => do
     let e1 ←g.put d (compEnv n caps e)
     let c ←evE T cf cond e1
     let k ←c.truth
     if k then do let y ←evE T cf elt e1;.ok (some y) else .ok none
 have loop:∀s₃:Shared,s₃={ s2 with heap:=h₁,toks:=s2.toks+([]:List (Str×Value)).length } →
  codeAny (model X.prog X.w) X.A (.compLoop (.ListComp pe [⟨tg,iter,ifs,0⟩] scope pos) 0 (.ref it) (.ref s2.heap.objs.size) (compEnvC scope (freeCells X.env.cells scope.names []) HP.objs.size X.env))
   (compPost (model X.prog X.w) X.A X.xe use Q (.ref s2.heap.objs.size) HP.objs.size) s₃:=by
  rintro s₃ rfl
  refine compLoop_gen (λk s'=>∃i σi Hi own' as bs,k=ds.length+1 - i∧i≤ds.length∧Inv (cxC X scope HP.objs.size Nc s2 H2 fp) [] σi Hi s'∧tn i s'.heap∧(∀b∈fp,Hi b=none)∧Same H2 Hi ∧
   Fm X.K H₀ O₀ Hi (plus O s2.heap.objs.size) own' (compEnv n caps e) σi∧(∀j,own' j≠some s2.heap.objs.size)∧compL f (ds.drop i)=.ok bs∧ys=as++bs∧as.length≤i ∧
   (∃xs,Hi s2.heap.objs.size=some (.lst xs)∧RDs X.K Hi (plus O s2.heap.objs.size) as xs)∧∀t∈srs,Src X.K Hi (plus O s2.heap.objs.size) s2.heap.objs.size t.1 t.2) ?_ (ds.length+1) ?_
  ·rintro k s' ⟨i,σi,Hi,own',as,bs,rfl,hi,Ii,tni,fri,smi,Fi,noi,evd,rfl,hal,⟨xs,hx,wx⟩,rri⟩
   have stat:∀b∈fp,FpOk (cxC X scope HP.objs.size Nc s2 H2 fp) [] Hi b:=fpn fri (λb _ p hp=>by cases hp)
   obtain⟨w1,w2,w3⟩:=wk i Hi (plus O s2.heap.objs.size) λt ht=>(rri t ht).rr
   by_cases hlt:i < ds.length
   ·refine thn (Tn.item (cxC X scope HP.objs.size Nc s2 H2 fp) rfl rfl rfl hc i [] s' σi Hi (λ_ _=>False) Ii stat tni (w1 hlt)) λr s4 hz__=>?_
    obtain⟨u,hr,h4⟩:=hz__
    subst hr
    refine thn h4 λ_ s5 hz__=>?_
    obtain⟨v,H5,I5,r5,y5,tn5,fr5⟩:=hz__
    obtain⟨s35,rv⟩:=w3 v H5 _ (List.getElem?_eq_getElem hlt) y5
    have I5':=I5.pinned (fpn fr5 (λb _ p hp=>by cases hp)) (Tn.obj _ _ tn5)
    rw[List.drop_eq_getElem_cons hlt,compL] at evd
    obtain⟨o,ef,evd⟩:=Res.bind_ok evd
    obtain⟨b',eb,evd⟩:=Res.bind_ok evd
    obtain⟨e3,ep,ef⟩:=Res.bind_ok ef
    obtain⟨dc,ec,ef⟩:=Res.bind_ok ef
    obtain⟨kc,et,ef⟩:=Res.bind_ok ef
    have F5:=Fi.grow s35
    refine thn (bg H₀ O₀ _ s5 σi H5 v u (λσ' H'=>H'=H5∧∃own'',Fm X.K H₀ O₀ H5 (plus O s2.heap.objs.size) own'' e3 σ'∧∀j,own'' j≠some s2.heap.objs.size) I5' r5 ⟨_,own',_,_,e3,F5,rv,ep,λσ' own'' hle F'=>⟨rfl,own'',F',λj q=>noi j (hle j _ q)⟩⟩) λ_ s6 hz__=>?_
    obtain⟨σ6,H6,I6,q6⟩:=hz__
    obtain⟨rfl,own6,F6,no6⟩:=q6
    have tests:wpAny (model X.prog X.w) X.A (forIn ifs true λc r=>if r=true then do let ok ←isTrue c (compEnvC scope (freeCells X.env.cells scope.names []) HP.objs.size X.env) (eval c (compEnvC scope (freeCells X.env.cells scope.names []) HP.objs.size X.env));pure (ForInStep.yield ok) else pure (ForInStep.yield r))
     (λok s7=>ok=kc∧∃H7,Inv (cxC X scope HP.objs.size Nc s2 H2 fp) ([]++pinsAt fp s5.heap) σ6 H7 s7∧Same H6 H7) (λ_ _=>False) s6:=by
     rcases bt with ⟨hi0,hc0⟩ | ⟨c0,hi0,st0⟩
     ·subst hi0 hc0
      (first | rw[xE_con] at ec | rw[xE_lst] at ec | rw[xE_comp] at ec);cases ec;cases et
      exact wpAny_tests_nil ⟨rfl,H6,I6,Same.refl _⟩
     ·subst hi0
      refine wpAny_tests_one (thn (st0 H₀ O₀ _ s6 σ6 H6 (λb H'=>b=kc∧Same H6 H') I6 ⟨_,own6,e3,dc,kc,F6,ec,et,λH' s=>⟨rfl,s⟩⟩) λb s7 ⟨H7,I7,q1,q2⟩=>⟨q1,H7,I7,q2⟩)
    refine thn tests λok s7 hz__=>?_
    obtain⟨hok,H7,I7,s57⟩:=hz__
    subst hok
    have F7:=F6.grow s57
    obtain⟨pl1,pl2⟩:=put_back hb ep
    have bk:∀j,(compEnv n caps e).at j=.no∨(compEnv n caps e).at j=e3.at j:=λj=>by
     by_cases hj:n≤j
     ·exact .inr (pl2 j hj).symm
     ·rcases compEnv_at (n:=n) (caps:=caps) (e:=e) j with z | ⟨k,i,rfl,_,_⟩
      ·exact .inl z
      ·exact absurd (Nat.le_add_right n k) hj
    have keepT:∀ {H8:Hp} {s8:Shared} {σ8:L2.St},Inv (cxC X scope HP.objs.size Nc s2 H2 fp) ([]++pinsAt fp s5.heap) σ8 H8 s8→tn (i+1) s8.heap∧∀b∈fp,H8 b=none:=λI8 =>
     ⟨Tn.keep _ _ _ tn5 λb hb o q=>(I8.pin (b,o) (List.mem_append_right _ (List.mem_append_right _ (mem_pinsAt hb q)))).1,λb hb=>by
      obtain⟨o,q,_⟩:=Tn.obj _ _ tn5 b hb
      exact (I8.pin (b,o) (List.mem_append_right _ (List.mem_append_right _ (mem_pinsAt hb q)))).2.1⟩
    cases ok with
    | false =>
     rw[if_neg Bool.false_ne_true] at ef ⊢
     cases ef
     cases evd
     obtain⟨t1,t2⟩:=keepT I7
     exact⟨ds.length+1 - (i+1),by lia,i+1,σ6,H7,own6,as,bs,rfl,hlt,I7.unpinned,t1,t2,smi.trans (s35.trans s57),F7.back pl1.symm bk,no6,eb,rfl,Nat.le_succ_of_le hal,⟨xs,s57 _ _ (s35 _ _ hx),(wx.same s35).same s57⟩,λt ht=>((rri t ht).same s35).same s57⟩
    | true =>
     rw[if_pos rfl] at ef ⊢
     obtain⟨dy,ey,ef⟩:=Res.bind_ok ef
     cases ef
     cases evd
     refine thn (be H₀ O₀ _ s7 σ6 H7 (λv H'=>Same H7 H'∧RD X.K H' (plus O s2.heap.objs.size) dy v) I7 ⟨_,own6,e3,dy,F7,ey,λv H' s r _=>⟨s,r⟩⟩) λwv s8 hz__=>?_
     obtain⟨vy,H8,I8,r8,s78,rd8⟩:=hz__
     have sm8:=s35.trans (s57.trans s78)
     have hx8:=sm8 _ _ hx
     have F8:=F7.grow s78
     have wx8:=wx.same sm8
     have h0:H₀ s2.heap.objs.size=none:=(F.same.trans s12).free fr
     refine thn (mt_append (X:=cxC X scope HP.objs.size Nc s2 H2 fp) _ s8 σ6 H8 (.ref s2.heap.objs.size) [vy] (.ref s2.heap.objs.size) [wv] (λ_ H'=>H'=upd H8 s2.heap.objs.size (.lst (xs++[vy]))) I8 rfl (.cons r8 .nil) ⟨_,xs,vy,rfl,rfl,hx8,by rw[wx.length,←big_line];lia,rfl⟩) λ_ s9 hz__=>?_
     obtain⟨v9,H9,I9,r9,e9⟩:=hz__
     subst e9
     obtain⟨t1,t2⟩:=keepT I9
     have smU:Same H2 (upd H8 s2.heap.objs.size (.lst (xs++[vy]))):=λb o q=>by
      rw[upd_ne (ne_of_none q fr)]
      exact sm8 _ _ (smi _ _ q)
     refine⟨ds.length+1 - (i+1),by lia,i+1,σ6,_,own6,as++[dy],b',rfl,hlt,I9.unpinned,t1,t2,smU,(F8.updO (.inr rfl) hx8 h0 no6).back pl1.symm bk,no6,eb,by simp,?_,⟨xs++[vy],upd_same,?_⟩,λt ht=>((rri t ht).same sm8).upd (.inr rfl) hx8⟩
     ·rw[List.length_append,List.length_singleton];lia
     ·exact (wx8.append (RDs.cons rd8 RDs.nil)).upd (.inr rfl) hx8
   ·have hii:i=ds.length:=by lia
    subst hii
    refine thn (Tn.done (cxC X scope HP.objs.size Nc s2 H2 fp) rfl rfl rfl hc _ [] s' σi Hi (λ_ _=>False) Ii stat tni (w2 (Nat.le_refl _))) λr s4 hz__=>?_
    obtain⟨hr,I4⟩:=hz__
    subst hr
    rw[List.drop_length,compL] at evd
    cases evd
    have nO:¬O s2.heap.objs.size:=λz=>by
     obtain⟨o,q⟩:=F2.trk _ z
     rw[fr] at q;cases q
    refine fin HP.objs.size s2 H2 Hi s4 s2.heap.objs.size I2 s12 hCl (λh' sb=>outC I2 I4 hfp (Nat.le_of_lt hCl) sb) ?_ I4.free (s12.trans smi) (F.grow (s12.trans smi)) ?_ ?_ (Nat.ne_of_lt hCl)
    ·obtain⟨m,hn,_⟩:=I4.loc
     exact⟨m,hn⟩
    ·exact⟨_,xs,rfl,.inl ⟨nO,.inl hx⟩,by rw[List.append_nil];exact wx.weak λ_ z=>.inl z⟩
    ·exact λ_=>⟨_,rfl,s12.free fr,xs,hx,by rw[List.append_nil];exact wx⟩
  ·refine⟨0,_,_,ownc,[],ys,rfl,Nat.zero_le _,I0,Tn.keep _ _ _ tn0 λb _ o q=>old b o q,λb hb=>?_,same_upd fr _,Fc,nown,by simpa using e2,rfl,Nat.le_refl _,⟨[],upd_same,rfl⟩,?_⟩
   ·rw[upd_ne (Nat.ne_of_lt (hfo b hb))];exact (hfp b hb).1
   ·intro t ht
    rcases rr0 t ht with z | ⟨al,z1,z2⟩
    ·exact .inl ((z.new fr).same (same_upd fr _))
    ·obtain⟨ob,hob,_⟩:=z2.obj
     exact .inr ⟨al,z1,ne_of_none hob fr,(z2.new fr).same (same_upd fr _)⟩
 exact codeAny_compStart_list (loop _ rfl) (Tn.self _ 0 _ _ _ (Tn.keep _ _ _ tn0 λb _ o q=>old b o q) (loop _ rfl))
end
section
variable {T:Tab} {cf:Nat→List D→Res D} {X:Cx} {x y z:E} {p q r tg iter:Expr} {pos pos' pos'':Pos}
theorem se_comp {n:Nat} {caps:List Nat} {g:G} {elt src cond:E} {pe:Expr} {ifs:List Expr} {scope:Scope} {Nc:List Str} (hc:X.calm=true) (S:ScopeC X scope) (P:CapsOk X scope n caps Nc) (hb:g.below n=true)
 (hplain:plainX iter=true) (hsrc:SI T cf X tg src true iter)
 (body:∀C s2 H2 fp,(cxC X scope C Nc s2 H2 fp).Ok→SG (cxC X scope C Nc s2 H2 fp) g tg∧SE T cf (cxC X scope C Nc s2 H2 fp) elt pe∧testsIs ifs cond (ST T cf (cxC X scope C Nc s2 H2 fp) cond)) :
 SE T cf X (.comp n caps g elt src cond) (.ListComp pe [⟨tg,iter,ifs,0⟩] scope pos):=by
 intro H₀ O₀ pins s σ H Q I ⟨O,own,e,d,F,ev,k⟩
 rw[eval_ListComp]
 refine comp_run (use:=none) hc S P hb hplain hsrc body I F ev ?_
 intro C s2 H2 Hi s' a I2 s12 hC hI ns hn sm Fi rd nl hne
 obtain⟨m,ns⟩:=ns
 exact⟨m,ns,λh' sb=>⟨.ref a,Hi,hI h' sb,rfl,k _ Hi sm rd λ_=>nl⟩⟩
theorem comp_asg {i:Nat} {nm:Str} {n:Nat} {caps:List Nat} {g:G} {elt src cond:E} {pe:Expr} {ifs:List Expr} {scope:Scope} {Nc:List Str} (hN:X.N.Nodup) (hi:X.N[i]?=some nm) (hl:Loc X.env.scope nm) (hf:X.fn nm=true∨X.env.scope.names.lookup nm=some .local)
 (hsw:swapsWith (.ListComp pe [⟨tg,iter,ifs,0⟩] scope pos) (some (.Name nm pos')) pos''.line X.env=pure true)
 (hc:X.calm=true) (S:ScopeC X scope) (P:CapsOk X scope n caps Nc) (hb:g.below n=true)
 (hplain:plainX iter=true) (hsrc:SI T cf X tg src true iter)
 (body:∀C s2 H2 fp,(cxC X scope C Nc s2 H2 fp).Ok→SG (cxC X scope C Nc s2 H2 fp) g tg∧SE T cf (cxC X scope C Nc s2 H2 fp) elt pe∧testsIs ifs cond (ST T cf (cxC X scope C Nc s2 H2 fp) cond)) :
 ∀H₀ O₀,PS X (.Assign [.Name nm pos'] (.ListComp pe [⟨tg,iter,ifs,0⟩] scope pos) pos'') (λD' σ H=>∃O own e d,Fm X.K H₀ O₀ H O own e σ∧evE T cf (.comp n caps g elt src cond) e=.ok d∧∀v H',Same H H'→RD X.K H' O d v→NewL X.K H H' O d v→D'.nx (σ.set i (some v)) H'):=by
 intro H₀ O₀ pins s σ H D' I ⟨O,own,e,d,F,ev,k⟩
 rw[exec_Assign_Name_used _ _ _ _ hsw]
 refine wpAny_bind (wpAny_standAt (wpAny_bind ?_))
 show wpAny _ X.A (do let _ ←comprehension (.ListComp pe [⟨tg,iter,ifs,0⟩] scope pos) scope X.env _ (newList []) false (eval iter X.env) (some (assign (.Name nm pos') X.env))) _ _ s
 refine wpAny_bind (wpAny_mono (comp_run (use:=some (assign (.Name nm pos') X.env)) (Q:=λ_ s'=>SP X pins D' .next s') hc S P hb hplain hsrc body I F ev ?_) (λ_ s' hq=>wpAny_pure (wpAny_pure hq)) λ_ _ e=>e)
 intro C s2 H2 Hi s' a I2 s12 hC hI ns hn sm Fi rd nl hne
 obtain⟨m,ns⟩:=ns
 have I':Inv X pins σ Hi s':=by
  have:=hI s'.heap (.refl ..)
  exact this
 show wpAny _ X.A (assign (.Name nm pos') X.env (.ref a)) _ _ _
 refine wpAny_assign_Name (store_ok2 (v:=.ref a) I' hN hi hl rfl (λs'' I'' ⟨a0,sb,ha0⟩=>?_) hf)
 have lt0:a0 < s2.heap.objs.size:=by
  rcases ha0 with z | z
  ·rw[z];exact I2.lt
  ·obtain⟨v,w⟩:=I2.cell nm a0 z
   exact w.lt
 have neC:C≠a0:=Nat.ne_of_gt (Nat.lt_trans lt0 hC)
 refine⟨m,ns.sameBut sb neC,λh' sb'=>?_⟩
 refine⟨σ.set i (some (.ref a)),Hi,?_,k _ Hi sm rd nl⟩
 refine I''.turned (t':=s''.toks) (it:=C) (λb o hb' e=>(sb'.2 b hb').trans e) hn (Nat.ne_of_gt (Nat.lt_trans I2.lt hC)) (.inr (Nat.le_trans I2.sz (Nat.le_of_lt hC))) (λx c e z=>?_) (λp hp z=>?_)
 ·obtain⟨v,w⟩:=I2.cell x c e
  exact absurd (Nat.lt_trans w.lt hC) (by rw[z];exact Nat.lt_irrefl _)
 ·exact absurd (Nat.lt_trans (Heap.lt_size (I2.pin p hp).1) hC) (by rw[z];exact Nat.lt_irrefl _)
theorem ss_asg_comp {i:Nat} {nm:Str} {n:Nat} {caps:List Nat} {g:G} {elt src cond:E} {pe:Expr} {ifs:List Expr} {scope:Scope} {Nc:List Str} (hN:X.N.Nodup) (hi:X.N[i]?=some nm) (hl:Loc X.env.scope nm) (hf:X.fn nm=true∨X.env.scope.names.lookup nm=some .local)
 (hc:X.calm=true) (S:ScopeC X scope) (P:CapsOk X scope n caps Nc) (hb:g.below n=true)
 (hplain:plainX iter=true) (hsrc:SI T cf X tg src true iter) (o:Bool)
 (body:∀C s2 H2 fp,(cxC X scope C Nc s2 H2 fp).Ok→SG (cxC X scope C Nc s2 H2 fp) g tg∧SE T cf (cxC X scope C Nc s2 H2 fp) elt pe∧testsIs ifs cond (ST T cf (cxC X scope C Nc s2 H2 fp) cond)) :
 SS T cf X (if o then .asgO i (.comp n caps g elt src cond) else .asg (.one i) (.comp n caps g elt src cond)) (.Assign [.Name nm pos'] (.ListComp pe [⟨tg,iter,ifs,0⟩] scope pos) pos''):=by
 intro H₀ O₀
 have main:PS X (.Assign [.Name nm pos'] (.ListComp pe [⟨tg,iter,ifs,0⟩] scope pos) pos'') (λD' σ H=>∃O own e d,Fm X.K H₀ O₀ H O own e σ∧evE T cf (.comp n caps g elt src cond) e=.ok d∧∀v H',Same H H'→RD X.K H' O d v→NewL X.K H H' O d v→D'.nx (σ.set i (some v)) H'):=by
  have hsw:∃b:Bool,swapsWith (.ListComp pe [⟨tg,iter,ifs,0⟩] scope pos) (some (.Name nm pos')) pos''.line X.env=pure b:=⟨_,rfl⟩
  obtain⟨b,hsw⟩:=hsw
  cases b with
  | true=>exact comp_asg hN hi hl hf hsw hc S P hb hplain hsrc body H₀ O₀
  | false =>
   refine PS.imp (λD' σ H hq=>?_) (ps_set hN hi hl (se_comp hc S P hb hplain hsrc body H₀ O₀) hsw hf)
   obtain⟨O,own,e,d,F,ev,k⟩:=hq
   exact⟨O,own,e,d,F,ev,λv H' s' r n=>k v H' s' r (n rfl)⟩
 refine PS.imp (λD' σ H hq=>?_) main
 obtain⟨ts,e,out,⟨O,own,F,tt⟩,ev,k⟩:=hq
 cases o with
 | true =>
  rw[if_pos rfl] at ev
  (first | rw[xS_asg] at ev | rw[xS_asgO] at ev)
  obtain⟨d,e1,ev⟩:=Res.bind_ok ev
  split at ev
  ·obtain⟨c,ev⟩:=when_ok ev
   cases ev
   refine⟨O,own,e,_,F,e1,λv H' s' r n=>?_⟩
   obtain⟨p,rfl,h2,h3⟩:=n rfl
   exact k _ H' ⟨_,_,F.setO s' i h2 h3,λt ht=>((tt t ht).new h2).same s'⟩
  ·cases ev
 | false =>
  rw[if_neg Bool.false_ne_true] at ev
  (first | rw[xS_asg] at ev | rw[xS_asgO] at ev)
  obtain⟨d,e1,ev⟩:=Res.bind_ok ev
  obtain⟨e2,e3,ev⟩:=Res.bind_ok ev
  cases ev
  cases e3
  exact⟨O,own,e,d,F,e1,λv H' s' r n=>k _ H' ⟨O,_,(F.grow s').setV i r,λt ht=>(tt t ht).same s'⟩⟩
theorem turned2 {pins:List (Addr×Obj)} {σ:L2.St} {H:Hp} {s:Shared} {h':Heap} {t':Nat} {a b:Addr} (I:Inv X pins σ H s) (k:∀c o,c≠a→c≠b→s.heap.get? c=some o→h'.get? c=some o) (na:H a=none) (nb:H b=none)
 (fa:a≠X.env.locals∧(a∈X.ex∨X.s₀.heap.objs.size≤a)∧(∀x c,X.env.cells.lookup x=some c→c≠a)∧∀p∈X.pn++pins,p.1≠a)
 (fb:b≠X.env.locals∧(b∈X.ex∨X.s₀.heap.objs.size≤b)∧(∀x c,X.env.cells.lookup x=some c→c≠b)∧∀p∈X.pn++pins,p.1≠b):Inv X pins σ H { s with heap:=h',toks:=t' }:=by
 have nn:∀c u,H c=some u→c≠a∧c≠b:=λc u e=>⟨λz=>(by rw[z,na] at e;cases e),λz=>(by rw[z,nb] at e;cases e)⟩
 have no2:∀ {c},c∉[a,b]→c≠a∧c≠b:=λhc=>⟨λz=>hc (by simp[z]),λz=>hc (by simp[z])⟩
 refine I.step (g':=s.gens) (d':=s.drawn) (ch:=[a,b]) (λc hc=>?_) (λc o _ _ hc e _=>k c o (no2 hc).1 (no2 hc).2 e) (λc o _ _ hc e _=>⟨o.slots,k c o (no2 hc).1 (no2 hc).2 e⟩) (λ_ _ _ _ n=>n)
  (λc o hc e=>⟨o,k c o (no2 hc).1 (no2 hc).2 e⟩) (λ_ _ e=>e) (λ_ _ _ e=>e) (λb ps e=>⟨#[],by rw[e];simp⟩) (λm hm=>?_) (λc u e=>?_) I.bare
 ·rcases List.mem_cons.mp hc with rfl | hc
  ·exact⟨fa.2.1,fa.1,fa.2.2.1,fa.2.2.2⟩
  ·have e:c=b:=by simpa using hc
   subst e
   exact⟨fb.2.1,fb.1,fb.2.2.1,fb.2.2.2⟩
 ·obtain⟨o,es,ep,ho,r⟩:=hm
  exact⟨o,es,ep,k _ o (Ne.symm fa.1) (Ne.symm fb.1) ho,r⟩
 ·refine (I.hok c u e).stay (λc' v hc q=>?_) (λ_ q=>q) λ_ _ q=>q
  have:c'≠a∧c'≠b:=by
   rcases hc with z | z
   ·rw[z];exact nn c u e
   ·exact nn c' _ z
  exact k c' v this.1 this.2 q
noncomputable def Ite (K:PySem.W.Frag) (a:Addr):It :=
 ⟨λi H=>∃xs x,SqL K H a xs∧xs[i]?=some x,λi H x H'=>∃p y,H p=none∧x=.ref p∧H'=upd H p (.tup [.int i,y])∧∀xs,SqL K H a xs→xs[i]?=some y,λi H=>∃xs,SqL K H a xs∧xs.length≤i⟩
theorem turn_enum {Pg:Program} {w:World} {K:PySem.W.Frag} {es:List Expr} {kk:Nat} {pos:Pos} (a en it:Addr) (hne:en≠it):Turn Pg w K (.Tuple es kk pos) (Ite K a) [en,it] en (λi h=>∃old,IsEnum h en it i old∧h.IsListIter it a i) where
 mem:=by simp
 obj:=λi h st b hb=>by
  obtain⟨old,st1,o,e,c,d⟩:=st
  rcases List.mem_cons.mp hb with rfl | hb
  ·exact⟨_,st1,λv z=>by
    have z':Data.fields _=Data.cell v:=z
    cases z'⟩
  ·have e':b=it:=by simpa using hb
   subst e'
   exact⟨o,e,λv z=>by rw[d] at z;cases z⟩
 keep:=λi h h' st k=>by
  obtain⟨old,st1,st2⟩:=st
  exact⟨old,k en (by simp) _ st1,st2.at λo e=>k it (by simp) o e⟩
 item:=by
  intro X hP hw hK hc i pins s σ H E I hf st hg
  subst hP hw hK
  obtain⟨xs,x,hq,hx⟩:=hg
  obtain⟨old,st1,st2⟩:=st
  obtain⟨its,rv,p,hz⟩:=I.list hq
  obtain⟨u,hu,ru⟩:=rv.get hx
  obtain⟨f0,f1,f2,f3,f4,f5⟩:=hf en (by simp)
  obtain⟨g0,g1,g2,g3,g4,g5⟩:=hf it (by simp)
  refine wpAny_pyNext_enum_item st1 st2 p.isList (x:=u) (by simpa using hu) hne λh₁ heo hit₁ ht₁ hz₁ hk₁=>?_
  refine⟨_,rfl,wpAny_letOwnedTupleGo_enum heo λh₂ he₂ hs₂=>?_⟩
  replace hs₂:Heap.SameBut en h₁ h₂:=hs₂
  have enl:en < s.heap.objs.size:=Heap.lt_size st1
  have itl:it < s.heap.objs.size:=by
   obtain⟨o,q,_⟩:=id st2
   exact Heap.lt_size q
  have fr:H s.heap.objs.size=none:=I.hok.fresh (Nat.le_refl _)
  have hm:∃hm:Heap,hm=s.heap.push { cls:=.type "tuple", data:=.seq #[.int i s.toks,u] }:=⟨_,rfl⟩
  obtain⟨hm,ehm⟩:=hm
  have I1:Inv X pins σ (upd H s.heap.objs.size (.tup [.int i,x])) { s with heap:=hm }:=by
   rw[ehm]
   refine I.laid (t':=s.toks) (λb o q=>Heap.get?_push_of_some _ q) (Nat.le_refl _) ?_
   exact⟨by show 2≤sizeLine;decide,[.int i s.toks,u],.cons ⟨_,rfl⟩ (.cons ru .nil),⟨_,Heap.get?_push_size _ rfl,rfl,_,rfl⟩⟩
  have kept:∀b o,b≠en→b≠it→hm.get? b=some o→h₂.get? b=some o:=λb o hb1 hb2 q=>by
   refine (hs₂.2 b hb1).trans ?_
   rw[ehm] at q
   rcases Heap.get?_push_cases q with ⟨e1,e2⟩ | q
   ·rw[e1,e2];exact ht₁
   ·exact hk₁ b o hb1 hb2 q
  have up:∀ {c:Addr},c < s.heap.objs.size→H c=none→upd H s.heap.objs.size (.tup [.int i,x]) c=none:=λhl hn=>by rw[upd_ne (Nat.ne_of_lt hl)];exact hn
  have I2:Inv X pins σ (upd H s.heap.objs.size (.tup [.int i,x])) { s with heap:=h₂,toks:=s.toks+1 }:=turned2 (s:={ s with heap:=hm }) (t':=s.toks+1) I1 kept (up enl f0) (up itl g0) ⟨f1,f3,f4,f5⟩ ⟨g1,g3,g4,g5⟩
  refine⟨.ref s.heap.objs.size,_,I2,rfl,⟨_,x,fr,rfl,rfl,λys hy=>by rw[I.list_inj hy hq];exact hx⟩,⟨u,?_,hit₁.extBut hs₂.extBut (Ne.symm hne)⟩,λb hb=>?_⟩
  ·have:((i+1:Nat):Int)=(i:Int)+1:=by push_cast;rfl
   rw[this];exact he₂
  ·rcases List.mem_cons.mp hb with rfl | hb
   ·exact up enl f0
   ·have e':b=it:=by simpa using hb
    subst e'
    exact up itl g0
 done:=by
  intro X hP hw hK hc i pins s σ H E I hf st hg
  subst hP hw hK
  obtain⟨xs,hq,hx⟩:=hg
  obtain⟨old,st1,st2⟩:=st
  obtain⟨its,rv,p,hz⟩:=I.list hq
  obtain⟨g0,g1,g2,g3,g4,g5⟩:=hf it (by simp)
  have hl:=rv.length
  exact wpAny_pyNext_enum_end (I.ok.hd hc) st1 st2 p.isList (by simp;lia) λh' eb=>⟨rfl,I.turned (t':=s.toks) (λb o hb e=>eb b o hb e) g0 g1 g3 g4 g5⟩
 self:=λ_ _ _ _ _ st h=>by
  obtain⟨old,st1,_⟩:=st
  exact wpAny_pyIter_enum st1 h
noncomputable def IteT (K:PySem.W.Frag) (a:Addr):It :=
 ⟨λi H=>∃xs x,SqT K H a xs∧xs[i]?=some x,λi H x H'=>∃p y,H p=none∧x=.ref p∧H'=upd H p (.tup [.int i,y])∧∀xs,SqT K H a xs→xs[i]?=some y,λi H=>∃xs,SqT K H a xs∧xs.length≤i⟩
theorem apart_tup {h:Heap} {a b:Addr} {its:Array Value} {o:Obj} (ht:h.IsTuple a its) (ho:h.get? b=some o) (hc:o.cls≠.type "tuple"):a≠b:=λe=>by
 subst e
 obtain⟨o',h1,h2,_⟩:=ht
 rw[ho] at h1;cases h1
 exact hc h2
theorem turn_enumT {Pg:Program} {w:World} {K:PySem.W.Frag} {es:List Expr} {kk:Nat} {pos:Pos} (a en it:Addr) (hne:en≠it):Turn Pg w K (.Tuple es kk pos) (IteT K a) [en,it] en (λi h=>∃old,IsEnum h en it i old∧h.IsTupleIter it a i) where
 mem:=by simp
 obj:=λi h st b hb=>by
  obtain⟨old,st1,o,e,c,d⟩:=st
  rcases List.mem_cons.mp hb with rfl | hb
  ·exact⟨_,st1,λv z=>by
    have z':Data.fields _=Data.cell v:=z
    cases z'⟩
  ·have e':b=it:=by simpa using hb
   subst e'
   exact⟨o,e,λv z=>by rw[d] at z;cases z⟩
 keep:=λi h h' st k=>by
  obtain⟨old,st1,st2⟩:=st
  exact⟨old,k en (by simp) _ st1,st2.at λo e=>k it (by simp) o e⟩
 item:=by
  intro X hP hw hK hc i pins s σ H E I hf st hg
  subst hP hw hK
  obtain⟨xs,x,hq,hx⟩:=hg
  obtain⟨old,st1,st2⟩:=st
  obtain⟨its,rv,p,hz⟩:=I.tuple hq
  obtain⟨u,hu,ru⟩:=rv.get hx
  obtain⟨f0,f1,f2,f3,f4,f5⟩:=hf en (by simp)
  obtain⟨g0,g1,g2,g3,g4,g5⟩:=hf it (by simp)
  have n1:a≠it:=by
   obtain⟨o,q1,q2,_⟩:=id st2
   exact apart_tup p q1 (by rw[q2];show Value.type "tuple_iterator" ≠ Value.type "tuple"; decide)
  have n2:a≠en:=apart_tup p st1 (show Value.type "enumerate" ≠ Value.type "tuple" by decide)
  have hlt:i < its.toArray.size:=by rw[List.size_toArray];exact (List.getElem?_eq_some_iff.mp hu).1
  refine wpAny_pyNext_enum_itemD (draws_tup (A:=X.A.in1) (I.ok.hd hc) it a n1 its.toArray) st1 ⟨st2,p⟩ hlt hne (by simp[hne,Ne.symm n2]) λu' h₁ tk hu' heo hit₁ ht₁ hz₁ hk₁=>?_
  have eu:u'=u:=by
   have h1:its[i]?=some u':=by simpa using hu'
   rw[hu] at h1;cases h1;rfl
  subst eu
  refine⟨_,rfl,wpAny_letOwnedTupleGo_enum heo λh₂ he₂ hs₂=>?_⟩
  replace hs₂:Heap.SameBut en h₁ h₂:=hs₂
  have enl:en < s.heap.objs.size:=Heap.lt_size st1
  have itl:it < s.heap.objs.size:=by
   obtain⟨o,q,_⟩:=id st2
   exact Heap.lt_size q
  have fr:H s.heap.objs.size=none:=I.hok.fresh (Nat.le_refl _)
  have hm:∃hm:Heap,hm=s.heap.push { cls:=.type "tuple", data:=.seq #[.int i tk,u'] }:=⟨_,rfl⟩
  obtain⟨hm,ehm⟩:=hm
  have I1:Inv X pins σ (upd H s.heap.objs.size (.tup [.int i,x])) { s with heap:=hm }:=by
   rw[ehm]
   refine I.laid (t':=s.toks) (λb o q=>Heap.get?_push_of_some _ q) (Nat.le_refl _) ?_
   exact⟨by show 2≤sizeLine;decide,[.int i tk,u'],.cons ⟨_,rfl⟩ (.cons ru .nil),⟨_,Heap.get?_push_size _ rfl,rfl,_,rfl⟩⟩
  have kept:∀b o,b≠en→b≠it→hm.get? b=some o→h₂.get? b=some o:=λb o hb1 hb2 q=>by
   refine (hs₂.2 b hb1).trans ?_
   rw[ehm] at q
   rcases Heap.get?_push_cases q with ⟨e1,e2⟩ | q
   ·rw[e1,e2];exact ht₁
   ·exact hk₁ b o hb1 hb2 q
  have up:∀ {c:Addr},c < s.heap.objs.size→H c=none→upd H s.heap.objs.size (.tup [.int i,x]) c=none:=λhl hn=>by rw[upd_ne (Nat.ne_of_lt hl)];exact hn
  have I2:Inv X pins σ (upd H s.heap.objs.size (.tup [.int i,x])) { s with heap:=h₂,toks:=tk+1 }:=turned2 (s:={ s with heap:=hm }) (t':=tk+1) I1 kept (up enl f0) (up itl g0) ⟨f1,f3,f4,f5⟩ ⟨g1,g3,g4,g5⟩
  refine⟨.ref s.heap.objs.size,_,I2,rfl,⟨_,x,fr,rfl,rfl,λys hy=>by rw[I.tuple_inj hy hq];exact hx⟩,⟨u',?_,hit₁.1.extBut hs₂.extBut (Ne.symm hne)⟩,λb hb=>?_⟩
  ·have:((i+1:Nat):Int)=(i:Int)+1:=by push_cast;rfl
   rw[this];exact he₂
  ·rcases List.mem_cons.mp hb with rfl | hb
   ·exact up enl f0
   ·have e':b=it:=by simpa using hb
    subst e'
    exact up itl g0
 done:=by
  intro X hP hw hK hc i pins s σ H E I hf st hg
  subst hP hw hK
  obtain⟨xs,hq,hx⟩:=hg
  obtain⟨old,st1,st2⟩:=st
  obtain⟨its,rv,p,hz⟩:=I.tuple hq
  obtain⟨g0,g1,g2,g3,g4,g5⟩:=hf it (by simp)
  have hl:=rv.length
  have hT:s.TypeIs (.ref en) "enumerate" := ⟨_,st1,rfl⟩
  unfold pyNext
  refine wpAny_bind (wpAny_attempt (wpAny_callSpecial?_slot (name:=Str.ofString "__next__") hT F.slot_enumerate_next
   (wpAny_call_entry F.slot_enumerate_next hT F.entry_enumerate_next ?_ (F.args_enumerate_next_1 _))))
  show wpAny _ _ (field (.ref en) 2>>=_) _ _ _
  refine wpAny_bind (wpAny_field st1 rfl (x:=.ref it) rfl ?_)
  refine wpAny_bind (nextOf_tup_end (I.ok.hd hc) st2 p (by simp;lia) λh' x he' hx'=>?_)
  obtain⟨o,ho,hc'⟩:=hx'
  refine wpAny_bind (wpAny_isInstance (T := "StopIteration") (b:=true) ⟨o,ho,hc'⟩ isSubtype_stop ?_)
  exact wpAny_pure ⟨rfl,I.turned (t':=s.toks) (λb o hb e=>he' b o hb e) g0 g1 g3 g4 g5⟩
 self:=λ_ _ _ _ _ st h=>by
  obtain⟨old,st1,_⟩:=st
  exact wpAny_pyIter_enum st1 h
theorem enumD_len (k:Int):∀ds:List D,(enumD k ds).length=ds.length
 | []=>rfl
 | d::ds=>by rw[enumD,List.length_cons,List.length_cons,enumD_len (k+1) ds]
theorem enumD_get:∀(k:Int) (ds:List D) (i:Nat) (d:D),ds[i]?=some d→(enumD k ds)[i]?=some (.tup [.int (k+i),d])
 | k,[],i,d,h=>by simp at h
 | k,d0::ds,0,d,h=>by simp at h;subst h;rw[enumD];simp
 | k,d0::ds,i+1,d,h=>by
  rw[enumD,List.getElem?_cons_succ,enumD_get (k+1) ds i d (by simpa using h)]
  congr 4
  push_cast
  lia
theorem wk_enum {K:PySem.W.Frag} {a:Addr} {ds:List D}:Wk1 K (Ite K a) (.lst ds) (.ref a) (enumD 0 ds):=by
 intro i H O r
 obtain⟨a',xs,e,q,w⟩:=r.lst
 cases e
 have hl:=w.length
 rw[enumD_len]
 refine⟨λh=>?_,λh=>⟨xs,q,by lia⟩,λx H' d hd y=>?_⟩
 ·obtain⟨v,h1,h2⟩:=w.get (List.getElem?_eq_getElem h)
  exact⟨xs,v,q,h1⟩
 ·obtain⟨p,yv,hp,rfl,rfl,hy⟩:=y
  refine⟨same_upd hp _,?_⟩
  have hi:i < ds.length:=by
   have:=(List.getElem?_eq_some_iff.mp hd).1
   rwa [enumD_len] at this
  obtain⟨v,h1,h2⟩:=w.get (List.getElem?_eq_getElem hi)
  have:=(hy xs q).symm.trans h1
  cases this
  rw[enumD_get 0 ds i _ (List.getElem?_eq_getElem hi)] at hd
  cases hd
  refine new_tup (RDs.cons ?_ (RDs.cons h2 RDs.nil)) hp
  show V.int (i:Int)=V.int (0+(i:Int))
  rw[Int.zero_add]
theorem wk_enumT {K:PySem.W.Frag} {a:Addr} {ds:List D}:Wk1 K (IteT K a) (.tup ds) (.ref a) (enumD 0 ds):=by
 intro i H O r
 obtain⟨a',xs,e,q,w⟩:=r.tup
 cases e
 have hl:=w.length
 rw[enumD_len]
 refine⟨λh=>?_,λh=>⟨xs,q,by lia⟩,λx H' d hd y=>?_⟩
 ·obtain⟨v,h1,h2⟩:=w.get (List.getElem?_eq_getElem h)
  exact⟨xs,v,q,h1⟩
 ·obtain⟨p,yv,hp,rfl,rfl,hy⟩:=y
  refine⟨same_upd hp _,?_⟩
  have hi:i < ds.length:=by
   have:=(List.getElem?_eq_some_iff.mp hd).1
   rwa [enumD_len] at this
  obtain⟨v,h1,h2⟩:=w.get (List.getElem?_eq_getElem hi)
  have:=(hy xs q).symm.trans h1
  cases this
  rw[enumD_get 0 ds i _ (List.getElem?_eq_getElem hi)] at hd
  cases hd
  refine new_tup (RDs.cons ?_ (RDs.cons h2 RDs.nil)) hp
  show V.int (i:Int)=V.int (0+(i:Int))
  rw[Int.zero_add]
theorem si_enum {rd:Bool} {n:Str} {pn:Pos} {es:List Expr} {kk:Nat} {tpos:Pos} (hn:n = "enumerate") (hg:Gl X n) (hm:X.mg "enumerate" = none) (hp:plainX p=true) (ha:SR T cf X x p) (hv:rd=false→SE T cf X x p) :
 SI T cf X (.Tuple es kk tpos) (.enum x) rd (.Call (.Name n pn) [p] [] pos):=by
 intro H₀ O₀ pins s σ H R I h
 subst hn
 obtain⟨O,own,e,ds,F,ev,k⟩:=h
 replace k:=k1_of k
 rw[xI_enum] at ev
 obtain⟨d1,e1,ev⟩:=Res.bind_ok ev
 have main:∀ {u:Value} {s1:Shared} {v:V} {H1:Hp},Inv X pins σ H1 s1→RelV v u→Same H H1→RR X.K H1 O d1 v→(rd=false→RD X.K H1 O d1 v)→wpAny (model X.prog X.w) X.A (call (.type "enumerate") [u]) (λv s1=>wpAny (model X.prog X.w) X.A (pyIter v) (PIE X pins σ (.Tuple es kk tpos) R) X.xe s1) X.xe s1:=by
  intro u s1 v H1 I1 r1 s1' rr rv
  cases d1 with
  | lst dl =>
   cases ev
   obtain⟨a,xs,e,q1,w1⟩:=rr.lst
   subst e
   cases r1
   obtain⟨its,r',pl,hz⟩:=I1.list q1
   refine call_enumerate_list pl.isList λh' he hit hz' hk=>?_
   refine wpAny_pyIter_enum he ?_
   have I2:Inv X pins σ H1 { s1 with heap:=h' }:=I1.kept (t':=s1.toks) hk
   refine⟨s1.heap.objs.size+1,[s1.heap.objs.size+1,s1.heap.objs.size],_,Ite X.K a,H1,rfl,I2,turn_enum a _ _ (Nat.succ_ne_self _),⟨_,he,hit⟩,λb hb=>?_,k _ H1 _ _ s1' rr rv wk_enum⟩
   rcases List.mem_cons.mp hb with rfl | hb
   ·exact I1.fpOk (Nat.le_succ _) (I1.hok.fresh (Nat.le_succ _))
   ·have e':b=s1.heap.objs.size:=by simpa using hb
    subst e'
    exact I1.fpOk (Nat.le_refl _) (I1.hok.fresh (Nat.le_refl _))
  | tup dl =>
   cases ev
   obtain⟨a,xs,e,q1,w1⟩:=rr.tup
   subst e
   cases r1
   obtain⟨its,r',pl,hz⟩:=I1.tuple q1
   refine call_enum_tup pl λh' he hit hz' hk=>?_
   refine wpAny_pyIter_enum he ?_
   have I2:Inv X pins σ H1 { s1 with heap:=h' }:=I1.kept (t':=s1.toks) hk
   refine⟨s1.heap.objs.size+1,[s1.heap.objs.size+1,s1.heap.objs.size],_,IteT X.K a,H1,rfl,I2,turn_enumT a _ _ (Nat.succ_ne_self _),⟨_,he,hit⟩,λb hb=>?_,k _ H1 _ _ s1' rr rv wk_enumT⟩
   rcases List.mem_cons.mp hb with rfl | hb
   ·exact I1.fpOk (Nat.le_succ _) (I1.hok.fresh (Nat.le_succ _))
   ·have e':b=s1.heap.objs.size:=by simpa using hb
    subst e'
    exact I1.fpOk (Nat.le_refl _) (I1.hok.fresh (Nat.le_refl _))
  | non=>cases ev
  | bl _=>cases ev
  | int _=>cases ev
  | str _=>cases ev
 cases rd with
 | true =>
  refine Call_ (ld_blt I hg hm PyProof.Rows.boot_enumerate (PyProof.Rows.callWith_type1 (thn (pa_cons (ha H₀ O₀) pa_nil (plain_star hp) pos pins s σ H (λvs H1=>∃v,vs=[v]∧Same H H1∧RR X.K H1 O d1 v) I ⟨O,own,e,d1,F,e1,λv H' s' r=>⟨v,rfl,s',r⟩⟩) λus s1 ⟨vs,H1,I1,r1,v,ev1,s1',rr⟩=>?_) (plain_star hp) rfl))
  subst ev1
  obtain⟨u,rfl,ru⟩:=vals1 r1
  exact main I1 ru s1' rr (λz=>by cases z)
 | false =>
  refine Call_ (ld_blt I hg hm PyProof.Rows.boot_enumerate (PyProof.Rows.callWith_type1 (thn (pa_cons (hv rfl H₀ O₀) pa_nil (plain_star hp) pos pins s σ H (λvs H1=>∃v,vs=[v]∧Same H H1∧RD X.K H1 O d1 v) I ⟨O,own,e,d1,F,e1,λv H' s' r _=>⟨v,rfl,s',r⟩⟩) λus s1 ⟨vs,H1,I1,r1,v,ev1,s1',rr⟩=>?_) (plain_star hp) rfl))
  subst ev1
  obtain⟨u,rfl,ru⟩:=vals1 r1
  exact main I1 ru s1' rr.rr (λ_=>rr)
end
section
variable {K:PySem.W.Frag} {H₀ H H':Hp} {O₀ O O':Addr→Prop} {own:Nat→Option Addr} {e:Nv} {σ:L2.St}
end
section
variable {T:Tab} {cf:Nat→List D→Res D} {X:Cx} {x y z:E} {p q r tg:Expr} {pos pos':Pos} {es:List Expr}
end
set_option genInjectivity false in
structure Txt where
 gn:List Str
 dn:List Str
 tf:List (Str×List Nat):=[]
 ts:List (Str×List Str):=[]
 cls:List Str:=[]
 icl:List Str:=[]
noncomputable def nodupB {α:Type} [BEq α]:List α→Bool
 | []=>true
 | a::r=>!r.contains a&&nodupB r
theorem nodup_of {α:Type} [BEq α] [LawfulBEq α]:∀ {l:List α},nodupB l=true→l.Nodup
 | [],_=>List.nodup_nil
 | a::r,h=>by
  rw[nodupB,Bool.and_eq_true] at h
  refine List.nodup_cons.mpr ⟨λm=>?_,nodup_of h.2⟩
  have:r.contains a=true:=List.contains_iff_mem.mpr m
  rw[this] at h
  exact absurd h.1 (by simp)
noncomputable def isRd:E→Bool
 | .rd _=>true
 | _=>false
noncomputable def visB (sc:Scope) (n:Str):Bool:=(sc.names.lookup n==some .local)||(sc.names.lookup n==some .cell)||(sc.names.lookup n==some .free)
noncomputable def glB (sc:Scope) (n:Str):Bool:=sc.names.lookup n==some .globalImplicit
noncomputable def dbgB (n:Str):Bool:=!(n==("__debug__" : Str))&&!(n==("__classdict__" : Str))
noncomputable def nameB (N:List Str) (sc:Scope) (i:Nat) (n:Str):Bool:=(N[i]?==some n)&&visB sc n&&dbgB n
noncomputable def relS (scope sc:Scope):Scope:={ scope with names:=scope.names.map λ(n,k)=>if (k==.free&&sc.kind==.function&&sc.names.lookup n==some .cell) then (n,.cell) else (n,k) }
noncomputable def tgNames:Expr→List Str
 | .Name n _=>[n]
 | .Tuple es _ _=>es.filterMap λ| .Name n _=>some n | _=>none
 | _=>[]
noncomputable def mGs (loc:Bool) (N:List Str) (sc:Scope):List Nat→List Expr→Bool
 | [],[]=>true
 | i::is,.Name n _::es=>(N[i]?==some n)&&((sc.names.lookup n==some .local)||(!loc&&sc.names.lookup n==some .cell))&&mGs loc N sc is es
 | _,_=>false
noncomputable def mG (loc:Bool) (N:List Str) (sc:Scope):G→Expr→Bool
 | .one i,.Name n _=>(N[i]?==some n)&&((sc.names.lookup n==some .local)||(!loc&&sc.names.lookup n==some .cell))
 | .many is,.Tuple es _ _=>mGs loc N sc is es
 | _,_=>false
noncomputable def scB (sc scope:Scope):Bool:=(scope.kind==.function)&&scope.names.all (λx=>!(x.2==.cell))&&scope.names.all (λx=>!(x.2==.local)||(scope.names.lookup x.1==some .local)) &&
 scope.names.all (λx=>!(x.2==.free)||(!(scope.names.lookup x.1==some .local)&&((sc.names.lookup x.1==some .cell)||(sc.names.lookup x.1==some .free))))
noncomputable def capNames (N:List Str) (caps:List Nat):List Str:=caps.map λi=>(N[i]?).getD ""
noncomputable def capB (N:List Str) (scope:Scope) (caps:List Nat):Bool:=caps.all λi=>match N[i]? with | some n=>scope.names.contains (n,.free) | none=>false
noncomputable def isTrueC:E→Bool
 | .con (.bl true)=>true
 | _=>false
noncomputable def isOmit:E→Bool
 | .omit=>true
 | _=>false
noncomputable def isTupX:Expr→Bool
 | .Tuple _ _ _=>true
 | _=>false
section
variable (Tx:Txt)
mutual
noncomputable def mE:E→List Str→Scope→Expr→Bool
 | .var i,N,sc,.Name n _=>nameB N sc i n
 | .rd i,N,sc,.Name n _=>nameB N sc i n
 | .con d,_,_,.Constant c _ _=>cstIs d c
 | .glob g,_,sc,.Name n _=>(Tx.gn[g]?==some n)&&glB sc n&&dbgB n
 | .bin o a b,N,sc,.BinOp l o' r _=>(o==o')&&mE a N sc l&&mE b N sc r
 | .cmp o a b,N,sc,.Compare l [o'] [r] _=>(o==o')&&mE a N sc l&&mE b N sc r
 | .chain o p a b c,N,sc,.Compare l [o',p'] [m,r] _=>(o==o')&&(p==p')&&mE a N sc l&&mE b N sc m&&mE c N sc r
 | .neg a,N,sc,.UnaryOp .USub l _=>mE a N sc l
 | .and a b,N,sc,.BoolOp .And [l,r] _=>!isRd a&&!isRd b&&mE a N sc l&&mE b N sc r
 | .and a b,N,sc,.BoolOp .And (l::r::r'::rest) pos=>!isRd a&&!isRd b&&mE a N sc l&&mE b N sc (.BoolOp .And (r::r'::rest) pos)
 | .or a b,N,sc,.BoolOp .Or [l,r] _=>!isRd a&&!isRd b&&mE a N sc l&&mE b N sc r
 | .or a b,N,sc,.BoolOp .Or (l::r::r'::rest) pos=>!isRd a&&!isRd b&&mE a N sc l&&mE b N sc (.BoolOp .Or (r::r'::rest) pos)
 | .not a,N,sc,.UnaryOp .Not l _=>mE a N sc l
 | .ife c a b,N,sc,.IfExp l m r _=>!isRd a&&!isRd b&&mE c N sc l&&mE a N sc m&&mE b N sc r
 | .ix a b,N,sc,.Subscript l r _=>mE a N sc l&&mE b N sc r
 | .sl a lo hi,N,sc,.Subscript l (.Slice p q none _) _=>mE a N sc l&&(match p with | none=>isOmit lo | some p'=>!isRd lo&&mE lo N sc p')&&(match q with | none=>isOmit hi | some q'=>!isRd hi&&mE hi N sc q')
 | .tup a,N,sc,.Tuple es _ _=>mA a false N sc es
 | .lst a,N,sc,.List es _=>mA a false N sc es
 | .call f a,N,sc,.Call (.Name n _) es [] _=>(Tx.dn[f]?==some n)&&glB sc n&&dbgB n&&mA a false N sc es
 | .bt b a,N,sc,.Call (.Name n _) (e::es) [] _=>b.use&&(n==b.nm)&&glB sc n&&mA a true N sc (e::es)
 | .mth m a b,N,sc,.Call (.Attribute o nm apos) [q] [] cpos=>(nm==m.nm)&&baseX o&&(apos.endLine==cpos.line)&&!isRd a&&mE a N sc o&&mE b N sc q
 | .callT fs k a,N,sc,.Call (.Subscript (.Name n _) q _) (p::es) [] _=>Tx.tf.contains (n,fs)&&glB sc n&&dbgB n&&!isRd k&&mE k N sc q&&mA a false N sc (p::es)
 | .gidx ss a,N,sc,.Call (.Attribute (.Name n _) nm apos) [q] [] cpos=>Tx.ts.contains (n,ss)&&glB sc n&&dbgB n&&(nm == "index")&&(apos.endLine==cpos.line)&&mE a N sc q
 | .lset a,N,sc,.Call (.Name n _) [.Call (.Name m _) [q] [] _] [] _=>(n == "len")&&(m == "set")&&glB sc n&&glB sc m&&mE a N sc q
 | .comp own caps g elt src cond,N,sc,.ListComp pe [⟨tg,iter,ifs,isa⟩] scope _ =>
  (isa==0)&&scB sc scope&&capB N scope caps&&nodupB caps&&nodupB (tgNames tg++capNames N caps)&&(own==(tgNames tg).length)&&g.below own&&mG true (tgNames tg++capNames N caps) (relS scope sc) g tg &&
  mI src true N sc tg iter&&!isRd elt&&mE elt (tgNames tg++capNames N caps) (relS scope sc) pe &&
  (match ifs with
   | []=>isTrueC cond
   | [c]=>mE cond (tgNames tg++capNames N caps) (relS scope sc) c
   | _=>false)
 | _,_,_,_=>false
termination_by structural x=>x
noncomputable def mA:E→Bool→List Str→Scope→List Expr→Bool
 | .anil,_,_,_,[]=>true
 | .acons a r,rd,N,sc,p::ps=>(rd||!isRd a)&&mE a N sc p&&mA r rd N sc ps
 | _,_,_,_,_=>false
termination_by structural x=>x
noncomputable def mI:E→Bool→List Str→Scope→Expr→Expr→Bool
 | .seq a,rd,N,sc,_,p=>(rd||!isRd a)&&mE a N sc p
 | .rng a,_,N,sc,_,.Call (.Name n _) [p] [] _=>(n == "range")&&glB sc n&&!isRd a&&mE a N sc p
 | .enum a,rd,N,sc,tg,.Call (.Name n _) [p] [] _=>(n == "enumerate")&&glB sc n&&isTupX tg&&(rd||!isRd a)&&mE a N sc p
 | _,_,_,_,_,_=>false
termination_by structural x=>x
end
end
section
variable {Tx:Txt} {N:List Str} {sc:Scope} {p tg:Expr}
theorem nof {P:Prop} (h:false=true):P:=absurd h Bool.false_ne_true
theorem and2 {a b:Bool} (h:(a&&b)=true):a=true∧b=true:=by rw[Bool.and_eq_true] at h;exact h
theorem not1 {a:Bool} (h:(!a)=true):a=false:=by rw[Bool.not_eq_true'] at h;exact h
theorem beq1 {α:Type} [BEq α] [LawfulBEq α] {a b:α} (h:(a==b)=true):a=b:=eq_of_beq h
theorem i_var {i:Nat} (h:mE Tx (.var i) N sc p=true):∃n pos,p=.Name n pos∧nameB N sc i n=true:=by
 cases p<;>first | exact nof h | exact⟨_,_,rfl,h⟩
theorem i_rd {i:Nat} (h:mE Tx (.rd i) N sc p=true):∃n pos,p=.Name n pos∧nameB N sc i n=true:=by
 cases p<;>first | exact nof h | exact⟨_,_,rfl,h⟩
theorem i_con {d:D} (h:mE Tx (.con d) N sc p=true):∃c k pos,p=.Constant c k pos∧cstIs d c=true:=by
 cases p<;>first | exact nof h | exact⟨_,_,_,rfl,h⟩
theorem i_glob {g:Nat} (h:mE Tx (.glob g) N sc p=true):∃n pos,p=.Name n pos∧(Tx.gn[g]?==some n&&glB sc n&&dbgB n)=true:=by
 cases p<;>first | exact nof h | exact⟨_,_,rfl,h⟩
theorem i_bin {o:Operator} {a b:E} (h:mE Tx (.bin o a b) N sc p=true):∃l r pos,p=.BinOp l o r pos∧mE Tx a N sc l=true∧mE Tx b N sc r=true:=by
 cases p with
 | BinOp l o' r pos =>
  have h:=and2 (show ((o==o')&&mE Tx a N sc l&&mE Tx b N sc r)=true from h)
  have h1:=and2 h.1
  have e:o=o':=beq1 h1.1
  subst e
  exact⟨l,r,pos,rfl,h1.2,h.2⟩
 | _=>exact nof h
theorem i_cmp {o:CmpOp} {a b:E} (h:mE Tx (.cmp o a b) N sc p=true):∃l r pos,p=.Compare l [o] [r] pos∧mE Tx a N sc l=true∧mE Tx b N sc r=true:=by
 cases p with
 | Compare l os rs pos =>
  rcases os with _ | ⟨o',_ | ⟨o'',os⟩⟩
  ·exact nof h
  ·rcases rs with _ | ⟨r,_ | ⟨r',rs⟩⟩
   ·exact nof h
   ·have h:=and2 (show ((o==o')&&mE Tx a N sc l&&mE Tx b N sc r)=true from h)
    have h1:=and2 h.1
    have e:o=o':=beq1 h1.1
    subst e
    exact⟨l,r,pos,rfl,h1.2,h.2⟩
   ·exact nof h
  ·exact nof h
 | _=>exact nof h
theorem i_chain {o o':CmpOp} {a b c:E} (h:mE Tx (.chain o o' a b c) N sc p=true):∃l m r pos,p=.Compare l [o,o'] [m,r] pos∧mE Tx a N sc l=true∧mE Tx b N sc m=true∧mE Tx c N sc r=true:=by
 cases p with
 | Compare l os rs pos =>
  rcases os with _ | ⟨p1,_ | ⟨p2,_ | ⟨p3,os⟩⟩⟩
  ·exact nof h
  ·exact nof h
  ·rcases rs with _ | ⟨r1,_ | ⟨r2,_ | ⟨r3,rs⟩⟩⟩
   ·exact nof h
   ·exact nof h
   ·have h:=and2 (show ((o==p1)&&(o'==p2)&&mE Tx a N sc l&&mE Tx b N sc r1&&mE Tx c N sc r2)=true from h)
    have h1:=and2 h.1
    have h2:=and2 h1.1
    have h3:=and2 h2.1
    have e:o=p1:=beq1 h3.1
    have e2:o'=p2:=beq1 h3.2
    subst e e2
    exact⟨l,r1,r2,pos,rfl,h2.2,h1.2,h.2⟩
   ·exact nof h
  ·exact nof h
 | _=>exact nof h
theorem i_neg {a:E} (h:mE Tx (.neg a) N sc p=true):∃l pos,p=.UnaryOp .USub l pos∧mE Tx a N sc l=true:=by
 cases p with
 | UnaryOp op l pos=>cases op<;>first | exact nof h | exact⟨_,_,rfl,h⟩
 | _=>exact nof h
theorem i_and {a b:E} (h:mE Tx (.and a b) N sc p=true):∃l r rest pos,p=.BoolOp .And (l::r::rest) pos∧isRd a=false∧isRd b=false∧mE Tx a N sc l=true∧((rest=[]∧mE Tx b N sc r=true)∨(∃r' rs,rest=r'::rs∧mE Tx b N sc (.BoolOp .And (r::rest) pos)=true)):=by
 cases p with
 | BoolOp op vs pos =>
  cases op with
  | Or=>exact nof h
  | And =>
   rcases vs with _ | ⟨l,_ | ⟨r,_ | ⟨r',rest⟩⟩⟩
   ·exact nof h
   ·exact nof h
   ·have h:=and2 (show (!isRd a&&!isRd b&&mE Tx a N sc l&&mE Tx b N sc r)=true from h)
    have h1:=and2 h.1
    have h2:=and2 h1.1
    exact⟨l,r,[],pos,rfl,not1 h2.1,not1 h2.2,h1.2,.inl ⟨rfl,h.2⟩⟩
   ·have h:=and2 (show (!isRd a&&!isRd b&&mE Tx a N sc l&&mE Tx b N sc (.BoolOp .And (r::r'::rest) pos))=true from h)
    have h1:=and2 h.1
    have h2:=and2 h1.1
    exact⟨l,r,r'::rest,pos,rfl,not1 h2.1,not1 h2.2,h1.2,.inr ⟨r',rest,rfl,h.2⟩⟩
 | _=>exact nof h
theorem i_or {a b:E} (h:mE Tx (.or a b) N sc p=true):∃l r rest pos,p=.BoolOp .Or (l::r::rest) pos∧isRd a=false∧isRd b=false∧mE Tx a N sc l=true∧((rest=[]∧mE Tx b N sc r=true)∨(∃r' rs,rest=r'::rs∧mE Tx b N sc (.BoolOp .Or (r::rest) pos)=true)):=by
 cases p with
 | BoolOp op vs pos =>
  cases op with
  | And=>exact nof h
  | Or =>
   rcases vs with _ | ⟨l,_ | ⟨r,_ | ⟨r',rest⟩⟩⟩
   ·exact nof h
   ·exact nof h
   ·have h:=and2 (show (!isRd a&&!isRd b&&mE Tx a N sc l&&mE Tx b N sc r)=true from h)
    have h1:=and2 h.1
    have h2:=and2 h1.1
    exact⟨l,r,[],pos,rfl,not1 h2.1,not1 h2.2,h1.2,.inl ⟨rfl,h.2⟩⟩
   ·have h:=and2 (show (!isRd a&&!isRd b&&mE Tx a N sc l&&mE Tx b N sc (.BoolOp .Or (r::r'::rest) pos))=true from h)
    have h1:=and2 h.1
    have h2:=and2 h1.1
    exact⟨l,r,r'::rest,pos,rfl,not1 h2.1,not1 h2.2,h1.2,.inr ⟨r',rest,rfl,h.2⟩⟩
 | _=>exact nof h
theorem i_not {a:E} (h:mE Tx (.not a) N sc p=true):∃l pos,p=.UnaryOp .Not l pos∧mE Tx a N sc l=true:=by
 cases p with
 | UnaryOp op l pos=>cases op<;>first | exact nof h | exact⟨_,_,rfl,h⟩
 | _=>exact nof h
theorem i_ife {c a b:E} (h:mE Tx (.ife c a b) N sc p=true):∃l m r pos,p=.IfExp l m r pos∧isRd a=false∧isRd b=false∧mE Tx c N sc l=true∧mE Tx a N sc m=true∧mE Tx b N sc r=true:=by
 cases p with
 | IfExp l m r pos =>
  have h:=and2 (show (!isRd a&&!isRd b&&mE Tx c N sc l&&mE Tx a N sc m&&mE Tx b N sc r)=true from h)
  have h1:=and2 h.1
  have h2:=and2 h1.1
  have h3:=and2 h2.1
  exact⟨l,m,r,pos,rfl,not1 h3.1,not1 h3.2,h2.2,h1.2,h.2⟩
 | _=>exact nof h
theorem i_ix {a b:E} (h:mE Tx (.ix a b) N sc p=true):∃l r pos,p=.Subscript l r pos∧mE Tx a N sc l=true∧mE Tx b N sc r=true:=by
 cases p with
 | Subscript l r pos =>
  have h:=and2 (show (mE Tx a N sc l&&mE Tx b N sc r)=true from h)
  exact⟨l,r,pos,rfl,h.1,h.2⟩
 | _=>exact nof h
theorem i_sl {a lo hi:E} (h:mE Tx (.sl a lo hi) N sc p=true):∃l pl ph pos pos',p=.Subscript l (.Slice pl ph none pos') pos∧mE Tx a N sc l=true∧((pl=none∧isOmit lo=true)∨∃q,pl=some q∧isRd lo=false∧mE Tx lo N sc q=true)∧((ph=none∧isOmit hi=true)∨∃q,ph=some q∧isRd hi=false∧mE Tx hi N sc q=true):=by
 cases p with
 | Subscript l r pos =>
  cases r with
  | Slice pl ph st pos' =>
   cases st with
   | some _=>exact nof h
   | none =>
    refine⟨l,pl,ph,pos,pos',rfl,?_⟩
    cases pl with
    | none =>
     cases ph with
     | none =>
      have h:=and2 (show (mE Tx a N sc l&&isOmit lo&&isOmit hi)=true from h)
      exact⟨(and2 h.1).1,.inl ⟨rfl,(and2 h.1).2⟩,.inl ⟨rfl,h.2⟩⟩
     | some q =>
      have h:=and2 (show (mE Tx a N sc l&&isOmit lo&&(!isRd hi&&mE Tx hi N sc q))=true from h)
      exact⟨(and2 h.1).1,.inl ⟨rfl,(and2 h.1).2⟩,.inr ⟨q,rfl,not1 (and2 h.2).1,(and2 h.2).2⟩⟩
    | some q0 =>
     cases ph with
     | none =>
      have h:=and2 (show (mE Tx a N sc l&&(!isRd lo&&mE Tx lo N sc q0)&&isOmit hi)=true from h)
      exact⟨(and2 h.1).1,.inr ⟨q0,rfl,not1 (and2 (and2 h.1).2).1,(and2 (and2 h.1).2).2⟩,.inl ⟨rfl,h.2⟩⟩
     | some q =>
      have h:=and2 (show (mE Tx a N sc l&&(!isRd lo&&mE Tx lo N sc q0)&&(!isRd hi&&mE Tx hi N sc q))=true from h)
      exact⟨(and2 h.1).1,.inr ⟨q0,rfl,not1 (and2 (and2 h.1).2).1,(and2 (and2 h.1).2).2⟩,.inr ⟨q,rfl,not1 (and2 h.2).1,(and2 h.2).2⟩⟩
  | _=>exact nof h
 | _=>exact nof h
theorem i_tup {a:E} (h:mE Tx (.tup a) N sc p=true):∃es k pos,p=.Tuple es k pos∧mA Tx a false N sc es=true:=by
 cases p<;>first | exact nof h | exact⟨_,_,_,rfl,h⟩
theorem i_lst {a:E} (h:mE Tx (.lst a) N sc p=true):∃es pos,p=.List es pos∧mA Tx a false N sc es=true:=by
 cases p<;>first | exact nof h | exact⟨_,_,rfl,h⟩
theorem i_call {f:Nat} {a:E} (h:mE Tx (.call f a) N sc p=true):∃n pn es pos,p=.Call (.Name n pn) es [] pos∧(Tx.dn[f]?==some n&&glB sc n&&dbgB n&&mA Tx a false N sc es)=true:=by
 cases p with
 | Call fn es ks pos =>
  cases fn with
  | Name n pn=>cases ks with
   | nil=>exact⟨n,pn,es,pos,rfl,h⟩
   | cons _ _=>exact nof h
  | _=>exact nof h
 | _=>exact nof h
theorem i_bt {b:Bt} {a:E} (h:mE Tx (.bt b a) N sc p=true):∃n pn e es pos,p=.Call (.Name n pn) (e::es) [] pos∧(b.use&&(n==b.nm)&&glB sc n&&mA Tx a true N sc (e::es))=true:=by
 cases p with
 | Call fn es ks pos =>
  cases fn with
  | Name n pn=>cases es with
   | nil=>exact nof h
   | cons e es=>cases ks with
    | nil=>exact⟨n,pn,e,es,pos,rfl,h⟩
    | cons _ _=>exact nof h
  | _=>exact nof h
 | _=>exact nof h
theorem i_mth {m:Mt} {a b:E} (h:mE Tx (.mth m a b) N sc p=true):∃o nm apos q cpos,p=.Call (.Attribute o nm apos) [q] [] cpos∧((nm==m.nm)&&baseX o&&(apos.endLine==cpos.line)&&!isRd a&&mE Tx a N sc o&&mE Tx b N sc q)=true:=by
 cases p with
 | Call fn es ks pos =>
  cases fn with
  | Attribute o nm apos =>
   rcases es with _ | ⟨q,_ | ⟨q',es⟩⟩
   ·exact nof h
   ·cases ks with
    | nil=>exact⟨o,nm,apos,q,pos,rfl,h⟩
    | cons _ _=>exact nof h
   ·exact nof h
  | _=>exact nof h
 | _=>exact nof h
theorem i_callT {fs:List Nat} {k a:E} (h:mE Tx (.callT fs k a) N sc p=true):∃n pn q pos' e es pos,p=.Call (.Subscript (.Name n pn) q pos') (e::es) [] pos∧(Tx.tf.contains (n,fs)&&glB sc n&&dbgB n&&!isRd k&&mE Tx k N sc q&&mA Tx a false N sc (e::es))=true:=by
 cases p with
 | Call fn es ks pos =>
  cases fn with
  | Subscript o q pos'=>cases o with
   | Name n pn=>cases es with
    | nil=>exact nof h
    | cons e es=>cases ks with
     | nil=>exact⟨n,pn,q,pos',e,es,pos,rfl,h⟩
     | cons _ _=>exact nof h
   | _=>exact nof h
  | _=>exact nof h
 | _=>exact nof h
theorem i_gidx {ss:List Str} {a:E} (h:mE Tx (.gidx ss a) N sc p=true):∃n pn nm apos q cpos,p=.Call (.Attribute (.Name n pn) nm apos) [q] [] cpos∧(Tx.ts.contains (n,ss)&&glB sc n&&dbgB n&&(nm == "index")&&(apos.endLine==cpos.line)&&mE Tx a N sc q)=true:=by
 cases p with
 | Call fn es ks pos =>
  cases fn with
  | Attribute o nm apos=>cases o with
   | Name n pn =>
    rcases es with _ | ⟨q,_ | ⟨q',es⟩⟩
    ·exact nof h
    ·cases ks with
     | nil=>exact⟨n,pn,nm,apos,q,pos,rfl,h⟩
     | cons _ _=>exact nof h
    ·exact nof h
   | _=>exact nof h
  | _=>exact nof h
 | _=>exact nof h
theorem i_lset {a:E} (h:mE Tx (.lset a) N sc p=true):∃n pn m pm q pos2 pos,p=.Call (.Name n pn) [.Call (.Name m pm) [q] [] pos2] [] pos∧((n == "len")&&(m == "set")&&glB sc n&&glB sc m&&mE Tx a N sc q)=true:=by
 cases p with
 | Call fn es ks pos =>
  cases fn with
  | Name n pn =>
   rcases es with _ | ⟨c,_ | ⟨c',es⟩⟩
   ·exact nof h
   ·cases c with
    | Call f2 es2 ks2 pos2=>cases f2 with
     | Name m pm =>
      rcases es2 with _ | ⟨q,_ | ⟨q',es2⟩⟩
      ·exact nof h
      ·cases ks2 with
       | nil=>cases ks with
        | nil=>exact⟨n,pn,m,pm,q,pos2,pos,rfl,h⟩
        | cons _ _=>exact nof h
       | cons _ _=>exact nof h
      ·exact nof h
     | _=>exact nof h
    | _=>exact nof h
   ·exfalso
    cases c with
    | Call f2 es2 ks2 pos2 =>
     cases f2<;>first | exact nof h | (rcases es2 with _ | ⟨q,_ | ⟨q',es2⟩⟩<;>first | exact nof h | (cases ks2<;>exact nof h))
    | _=>exact nof h
  | _=>exact nof h
 | _=>exact nof h
end
noncomputable def bltNames:List Str:=["len", "sum", "tuple", "list", "int", "str", "isinstance", "range", "enumerate", "bool", "abs", "min", "max", "all", "any", "set", "zip", "sorted"]
set_option genInjectivity false in
structure OkX (T:Tab) (cf:Nat→List D→Res D) (Tx:Txt) (X:Cx):Prop where
 calm:X.calm=true
 roomy:Roomy X
 defs:∀f n,Tx.dn[f]?=some n→DefIs T cf X f n
 globs:∀g n,Tx.gn[g]?=some n→GlobIs X n (T.glob g)
 blt:∀n∈bltNames,X.mg n=none
 nd:X.N.Nodup
 tf:∀q∈Tx.tf,TabF T cf X q.1 q.2
 ts:∀q∈Tx.ts,TabS X q.1 q.2
section
variable {T:Tab} {cf:Nat→List D→Res D} {Tx:Txt} {X:Cx}
theorem name_of {i:Nat} {n:Str} {N:List Str} {sc:Scope} (h:nameB N sc i n=true):N[i]?=some n∧Vis sc n∧(n==("__debug__" : Str))=false∧(n==("__classdict__" : Str))=false:=by
 simp only[nameB,visB,dbgB,Bool.and_eq_true,Bool.or_eq_true,Bool.not_eq_true',beq_iff_eq] at h
 refine⟨h.1.1,?_,h.2.1,h.2.2⟩
 rcases h.1.2 with (z | z) | z
 ·exact .inl z
 ·exact .inr (.inl z)
 ·exact .inr (.inr z)
theorem gl_of {n:Str} (h:glB X.env.scope n=true):Gl X n:=by
 have h':X.env.scope.names.lookup n=some .globalImplicit:=by simpa[glB] using h
 exact h'
noncomputable def isBoolX:Expr→Bool
 | .BoolOp _ _ _=>true
 | _=>false
theorem dbg_of {n:Str} (h:dbgB n=true):(n==("__debug__" : Str))=false:=by
 simp only[dbgB,Bool.and_eq_true,Bool.not_eq_true'] at h
 exact h.1
theorem sgs_of {loc:Bool} (hN:X.N.Nodup) (hf:∀n,loc=false→X.fn n=true):∀ {is:List Nat} {es:List Expr},mGs loc X.N X.env.scope is es=true→SGs X is es∧names1 es=true∧es.length=is.length
 | [],[],_=>⟨sgs_nil,rfl,rfl⟩
 | [],_::_,h=>by exact nof h
 | _::_,[],h=>by exact nof h
 | i::is,e::es,h=>by
  cases e with
  | Name n pos =>
   simp only[mGs,Bool.and_eq_true,Bool.or_eq_true,beq_iff_eq,Bool.not_eq_true'] at h
   obtain⟨⟨h1,h2⟩,h3⟩:=h
   obtain⟨a1,a2,a3⟩:=sgs_of hN hf h3
   refine⟨sgs_cons hN h1 ?_ ?_ a1,a2,by rw[List.length_cons,List.length_cons,a3]⟩
   ·rcases h2 with z | z
    ·exact .inl z
    ·exact .inr z.2
   ·rcases h2 with z | z
    ·exact .inr z
    ·exact .inl (hf n z.1)
  | _=>exact nof h
theorem sg_of {loc:Bool} {g:G} {tg:Expr} (hc:X.calm=true) (hN:X.N.Nodup) (hf:∀n,loc=false→X.fn n=true) (h:mG loc X.N X.env.scope g tg=true):SG X g tg∧plainX tg=true:=by
 cases g with
 | one i =>
  cases tg with
  | Name n pos =>
   simp only[mG,Bool.and_eq_true,Bool.or_eq_true,beq_iff_eq,Bool.not_eq_true'] at h
   refine⟨sg_one hN h.1 ?_ ?_,rfl⟩
   ·rcases h.2 with z | z
    ·exact .inl z
    ·exact .inr z.2
   ·rcases h.2 with z | z
    ·exact .inr z
    ·exact .inl (hf n z.1)
  | _=>exact nof h
 | many is =>
  cases tg with
  | Tuple es k pos =>
   obtain⟨a1,a2,a3⟩:=sgs_of hN hf h
   exact⟨sg_many hc a2 a3 a1,rfl⟩
  | _=>exact nof h
noncomputable def PEx (T:Tab) (cf:Nat→List D→Res D) (Tx:Txt) (x:E):Prop:=∀X p,OkX T cf Tx X→mE Tx x X.N X.env.scope p=true→SR T cf X x p∧(isRd x=false→SE T cf X x p)∧ST T cf X x p∧plainX p=true∧(isBoolX p=true→SW T cf X x p)
noncomputable def PAx (T:Tab) (cf:Nat→List D→Res D) (Tx:Txt) (x:E):Prop:=∀X rd ps,OkX T cf Tx X→mA Tx x rd X.N X.env.scope ps=true→SAr T cf X x ps∧(rd=false→SAv T cf X x ps)∧ps.all plainX=true
noncomputable def PIx (T:Tab) (cf:Nat→List D→Res D) (Tx:Txt) (x:E):Prop:=∀X rd tg p,OkX T cf Tx X→mI Tx x rd X.N X.env.scope tg p=true→SI T cf X tg x rd p∧plainX p=true
theorem noA {x:E} (h:∀rd N sc ps,mA Tx x rd N sc ps=false):PAx T cf Tx x:=λX rd ps _ m=>by rw[h] at m;cases m
theorem noI {x:E} (h:∀rd N sc tg p,mI Tx x rd N sc tg p=false):PIx T cf Tx x:=λX rd tg p _ m=>by rw[h] at m;cases m
theorem noE {x:E} (h:∀N sc p,mE Tx x N sc p=false):PEx T cf Tx x:=λX p _ m=>by rw[h] at m;cases m
theorem of_se {x:E} {p:Expr} (h:SE T cf X x p) (he:∀whole,isTrue p X.env whole=(do let v ←whole;standAt p.pos;holding [v] (truthy v))) (hp:plainX p=true) (hb:isBoolX p=false:=by rfl):SR T cf X x p∧(isRd x=false→SE T cf X x p)∧ST T cf X x p∧plainX p=true∧(isBoolX p=true→SW T cf X x p) :=
 ⟨h.sr,λ_=>h,st_gen h.sr he,hp,λz=>by rw[hb] at z;cases z⟩
theorem okC (ok:OkX T cf Tx X) {scope:Scope} {C:Addr} {Nc:List Str} {s2:Shared} {H2:Hp} {fp:List Addr} (h:Nc.Nodup):OkX T cf Tx (cxC X scope C Nc s2 H2 fp) :=
 ⟨ok.calm,ok.roomy,ok.defs,ok.globs,ok.blt,h,ok.tf,ok.ts⟩
theorem scC_of {scope:Scope} (h:scB X.env.scope scope=true):ScopeC X scope:=by
 simp only[scB,Bool.and_eq_true,List.all_eq_true,Bool.or_eq_true,Bool.not_eq_true',beq_iff_eq,beq_eq_false_iff_ne,ne_eq] at h
 obtain⟨⟨⟨h1,h2⟩,h3⟩,h4⟩:=h
 refine⟨h1,h2,λx hx e=>?_,λx hx e=>?_,λx hx e=>?_⟩
 ·rcases h3 x hx with z | z
  ·exact absurd e z
  ·exact z
 ·rcases h4 x hx with z | z
  ·exact absurd e z
  ·exact z.1
 ·rcases h4 x hx with z | z
  ·exact absurd e z
  ·exact z.2
theorem capsOk {scope:Scope} {caps:List Nat} {own:Nat} {tn:List Str} (h:capB X.N scope caps=true) (hn:nodupB caps=true) (ho:own=tn.length):CapsOk X scope own caps (tn++capNames X.N caps):=by
 refine⟨by rw[List.length_append,ho,capNames,List.length_map],nodup_of hn,λj i hj=>?_⟩
 simp only[capB,List.all_eq_true] at h
 have:=h i (List.mem_of_getElem? hj)
 cases e:X.N[i]? with
 | none=>rw[e] at this;cases this
 | some n =>
  rw[e] at this
  refine⟨n,rfl,?_,by simpa using this⟩
  rw[ho,List.getElem?_append_right (by lia),show tn.length+j - tn.length=j by lia,capNames,List.getElem?_map,hj]
  simp[e]
theorem i_rng {a:E} {rd:Bool} {N:List Str} {sc:Scope} {tg p:Expr} (h:mI Tx (.rng a) rd N sc tg p=true):∃n pn q pos,p=.Call (.Name n pn) [q] [] pos∧((n == "range")&&glB sc n&&!isRd a&&mE Tx a N sc q)=true:=by
 cases p with
 | Call fn es ks pos =>
  cases fn with
  | Name n pn =>
   rcases es with _ | ⟨q,_ | ⟨q',es⟩⟩
   ·exact nof h
   ·cases ks with
    | nil=>exact⟨n,pn,q,pos,rfl,h⟩
    | cons _ _=>exact nof h
   ·exact nof h
  | _=>exact nof h
 | _=>exact nof h
theorem i_enum {a:E} {rd:Bool} {N:List Str} {sc:Scope} {tg p:Expr} (h:mI Tx (.enum a) rd N sc tg p=true):∃n pn q pos,p=.Call (.Name n pn) [q] [] pos∧((n == "enumerate")&&glB sc n&&isTupX tg&&(rd||!isRd a)&&mE Tx a N sc q)=true:=by
 cases p with
 | Call fn es ks pos =>
  cases fn with
  | Name n pn =>
   rcases es with _ | ⟨q,_ | ⟨q',es⟩⟩
   ·exact nof h
   ·cases ks with
    | nil=>exact⟨n,pn,q,pos,rfl,h⟩
    | cons _ _=>exact nof h
   ·exact nof h
  | _=>exact nof h
 | _=>exact nof h
theorem i_comp {own:Nat} {caps:List Nat} {g:G} {elt src cond:E} {N:List Str} {sc:Scope} {p:Expr} (h:mE Tx (.comp own caps g elt src cond) N sc p=true):∃pe tg iter ifs scope pos,p=.ListComp pe [⟨tg,iter,ifs,0⟩] scope pos ∧
 scB sc scope=true∧capB N scope caps=true∧nodupB caps=true∧nodupB (tgNames tg++capNames N caps)=true∧own=(tgNames tg).length∧g.below own=true∧mG true (tgNames tg++capNames N caps) (relS scope sc) g tg=true ∧
 mI Tx src true N sc tg iter=true∧isRd elt=false∧mE Tx elt (tgNames tg++capNames N caps) (relS scope sc) pe=true ∧
 ((ifs=[]∧isTrueC cond=true)∨∃c,ifs=[c]∧mE Tx cond (tgNames tg++capNames N caps) (relS scope sc) c=true):=by
 cases p with
 | ListComp pe gens scope pos =>
  rcases gens with _ | ⟨⟨tg,iter,ifs,isa⟩,_ | ⟨g2,gens⟩⟩
  ·exact nof h
  ·change (_&&_)=true at h;simp only[Bool.and_eq_true,Bool.not_eq_true',beq_iff_eq] at h
   obtain⟨⟨⟨⟨⟨⟨⟨⟨⟨⟨⟨a1,a2⟩,a3⟩,a4⟩,a5⟩,a6⟩,a7⟩,a8⟩,a9⟩,a10⟩,a11⟩,a12⟩:=h
   subst a1
   refine⟨pe,tg,iter,ifs,scope,pos,rfl,a2,a3,a4,a5,a6,a7,a8,a9,a10,a11,?_⟩
   rcases ifs with _ | ⟨c,_ | ⟨c',ifs⟩⟩
   ·exact .inl ⟨rfl,a12⟩
   ·exact .inr ⟨c,rfl,a12⟩
   ·cases a12
  ·exact nof h
 | _=>exact nof h
theorem comp_parts {own:Nat} {caps:List Nat} {g:G} {elt src cond:E} {pe tg iter:Expr} {ifs:List Expr} {scope:Scope} (ok:OkX T cf Tx X) (ie:PEx T cf Tx elt) (is:PIx T cf Tx src) (ic:PEx T cf Tx cond)
 (a2:scB X.env.scope scope=true) (a3:capB X.N scope caps=true) (a4:nodupB caps=true) (a5:nodupB (tgNames tg++capNames X.N caps)=true) (a6:own=(tgNames tg).length) (a8:mG true (tgNames tg++capNames X.N caps) (relS scope X.env.scope) g tg=true)
 (a9:mI Tx src true X.N X.env.scope tg iter=true) (a10:isRd elt=false) (a11:mE Tx elt (tgNames tg++capNames X.N caps) (relS scope X.env.scope) pe=true)
 (a12:(ifs=[]∧isTrueC cond=true)∨∃c,ifs=[c]∧mE Tx cond (tgNames tg++capNames X.N caps) (relS scope X.env.scope) c=true) :
 ScopeC X scope∧CapsOk X scope own caps (tgNames tg++capNames X.N caps)∧plainX iter=true∧SI T cf X tg src true iter ∧
 ∀C s2 H2 fp,(cxC X scope C (tgNames tg++capNames X.N caps) s2 H2 fp).Ok→SG (cxC X scope C (tgNames tg++capNames X.N caps) s2 H2 fp) g tg∧SE T cf (cxC X scope C (tgNames tg++capNames X.N caps) s2 H2 fp) elt pe∧testsIs ifs cond (ST T cf (cxC X scope C (tgNames tg++capNames X.N caps) s2 H2 fp) cond):=by
 obtain⟨s1,s2⟩:=is X true tg iter ok a9
 refine⟨scC_of a2,capsOk a3 a4 a6,s2,s1,λC s2 H2 fp _=>?_⟩
 have okc:OkX T cf Tx (cxC X scope C (tgNames tg++capNames X.N caps) s2 H2 fp):=okC ok (nodup_of a5)
 refine⟨(sg_of (X:=cxC X scope C (tgNames tg++capNames X.N caps) s2 H2 fp) ok.calm okc.nd (λn z=>by cases z) a8).1,(ie _ _ okc a11).2.1 a10,?_⟩
 rcases a12 with ⟨z1,z2⟩ | ⟨c,z1,z2⟩
 ·refine .inl ⟨z1,?_⟩
  unfold isTrueC at z2
  split at z2
  ·rfl
  ·cases z2
 ·exact .inr ⟨c,z1,(ic _ _ okc z2).2.2.1⟩
theorem wholeE:∀x:E,PEx T cf Tx x∧PAx T cf Tx x∧PIx T cf Tx x:=by
 intro x
 induction x with
 | var i =>
  refine⟨λX p ok h=>?_,noA λrd N sc ps=>rfl,noI λrd N sc tg p=>rfl⟩
  obtain⟨n,pos,rfl,hn⟩:=i_var h
  obtain⟨a1,a2,a3,a4⟩:=name_of hn
  exact of_se (se_var a1 a2 a3 a4) (λ_=>rfl) rfl
 | rd i =>
  refine⟨λX p ok h=>?_,noA λrd N sc ps=>rfl,noI λrd N sc tg p=>rfl⟩
  obtain⟨n,pos,rfl,hn⟩:=i_rd h
  obtain⟨a1,a2,a3,a4⟩:=name_of hn
  exact⟨sr_rd a1 a2 a3 a4,(λz=>by cases z),st_gen (sr_rd a1 a2 a3 a4) (λ_=>rfl),rfl,λz=>by cases z⟩
 | con d =>
  refine⟨λX p ok h=>?_,noA λrd N sc ps=>rfl,noI λrd N sc tg p=>rfl⟩
  obtain⟨c,k,pos,rfl,hn⟩:=i_con h
  exact of_se (se_con hn) (λ_=>rfl) rfl
 | glob g =>
  refine⟨λX p ok h=>?_,noA λrd N sc ps=>rfl,noI λrd N sc tg p=>rfl⟩
  obtain⟨n,pos,rfl,hn⟩:=i_glob h
  simp only[Bool.and_eq_true,beq_iff_eq] at hn
  exact of_se (se_glob (gl_of hn.1.2) (ok.globs g n hn.1.1) (dbg_of hn.2)) (λ_=>rfl) rfl
 | bin o a b iha ihb =>
  refine⟨λX p ok h=>?_,noA λrd N sc ps=>rfl,noI λrd N sc tg p=>rfl⟩
  obtain⟨l,r,pos,rfl,h1,h2⟩:=i_bin h
  exact of_se (se_bin (iha.1 X l ok h1).1 (ihb.1 X r ok h2).1) (λ_=>rfl) rfl
 | cmp o a b iha ihb =>
  refine⟨λX p ok h=>?_,noA λrd N sc ps=>rfl,noI λrd N sc tg p=>rfl⟩
  obtain⟨l,r,pos,rfl,h1,h2⟩:=i_cmp h
  have hb:=ihb.1 X r ok h2
  have se:=se_cmp (o:=o) (pos:=pos) ok.roomy hb.2.2.2.1 (iha.1 X l ok h1).1 hb.1
  exact⟨se.sr,λ_=>se,st_cmp ok.roomy hb.2.2.2.1 (iha.1 X l ok h1).1 hb.1,rfl,λz=>by cases z⟩
 | chain o o' a b c iha ihb ihc =>
  refine⟨λX p ok h=>?_,noA λrd N sc ps=>rfl,noI λrd N sc tg p=>rfl⟩
  obtain⟨l,m,r,pos,rfl,h1,h2,h3⟩:=i_chain h
  have hc:=ihc.1 X r ok h3
  have se:=se_chain (o:=o) (o':=o') (pos:=pos) ok.roomy hc.2.2.2.1 (iha.1 X l ok h1).1 (ihb.1 X m ok h2).1 hc.1
  exact⟨se.sr,λ_=>se,st_chain ok.roomy hc.2.2.2.1 (iha.1 X l ok h1).1 (ihb.1 X m ok h2).1 hc.1,rfl,λz=>by cases z⟩
 | and a b iha ihb =>
  refine⟨λX p ok h=>?_,noA λrd N sc ps=>rfl,noI λrd N sc tg p=>rfl⟩
  obtain⟨l,r,rest,pos,rfl,ra,rb,h1,h2⟩:=i_and h
  obtain⟨_,sa,ta,_⟩:=iha.1 X l ok h1
  have sb:SE T cf X b (.BoolOp .And (r::rest) pos)∧SW T cf X b (.BoolOp .And (r::rest) pos):=by
   rcases h2 with ⟨rfl,h2⟩ | ⟨r',rs,rfl,h2⟩
   ·obtain⟨_,b1,b2,_⟩:=ihb.1 X r ok h2
    exact⟨se_one (b1 rb),sw_and1 b2⟩
   ·obtain⟨_,b1,b2,_,b5⟩:=ihb.1 X _ ok h2
    exact⟨b1 rb,b5 rfl⟩
  exact⟨(se_and (sa ra) sb.1).sr,λ_=>se_and (sa ra) sb.1,(sw_and ta sb.2).st,rfl,λ_=>sw_and ta sb.2⟩
 | or a b iha ihb =>
  refine⟨λX p ok h=>?_,noA λrd N sc ps=>rfl,noI λrd N sc tg p=>rfl⟩
  obtain⟨l,r,rest,pos,rfl,ra,rb,h1,h2⟩:=i_or h
  obtain⟨_,sa,ta,_⟩:=iha.1 X l ok h1
  have sb:SE T cf X b (.BoolOp .Or (r::rest) pos)∧SW T cf X b (.BoolOp .Or (r::rest) pos):=by
   rcases h2 with ⟨rfl,h2⟩ | ⟨r',rs,rfl,h2⟩
   ·obtain⟨_,b1,b2,_⟩:=ihb.1 X r ok h2
    exact⟨se_one (b1 rb),sw_or1 b2⟩
   ·obtain⟨_,b1,b2,_,b5⟩:=ihb.1 X _ ok h2
    exact⟨b1 rb,b5 rfl⟩
  exact⟨(se_or (sa ra) sb.1).sr,λ_=>se_or (sa ra) sb.1,(sw_or ta sb.2).st,rfl,λ_=>sw_or ta sb.2⟩
 | not a iha =>
  refine⟨λX p ok h=>?_,noA λrd N sc ps=>rfl,noI λrd N sc tg p=>rfl⟩
  obtain⟨l,pos,rfl,h1⟩:=i_not h
  obtain⟨a1,_,a3,_,_⟩:=iha.1 X l ok h1
  exact⟨(se_not a3 a1).sr,λ_=>se_not a3 a1,st_not a3,rfl,λz=>by cases z⟩
 | neg a iha =>
  refine⟨λX p ok h=>?_,noA λrd N sc ps=>rfl,noI λrd N sc tg p=>rfl⟩
  obtain⟨l,pos,rfl,h1⟩:=i_neg h
  exact of_se (se_neg (iha.1 X l ok h1).1) (λ_=>rfl) rfl
 | ife c a b ihc iha ihb =>
  refine⟨λX p ok h=>?_,noA λrd N sc ps=>rfl,noI λrd N sc tg p=>rfl⟩
  obtain⟨l,m,r,pos,rfl,ra,rb,h1,h2,h3⟩:=i_ife h
  have se:=se_ife (pos:=pos) (ihc.1 X l ok h1).2.2.1 ((iha.1 X m ok h2).2.1 ra) ((ihb.1 X r ok h3).2.1 rb)
  exact⟨se.sr,λ_=>se,st_ife (ihc.1 X l ok h1).2.2.1 (iha.1 X m ok h2).2.2.1 (ihb.1 X r ok h3).2.2.1,rfl,λz=>by cases z⟩
 | ix a b iha ihb =>
  refine⟨λX p ok h=>?_,noA λrd N sc ps=>rfl,noI λrd N sc tg p=>rfl⟩
  obtain⟨l,r,pos,rfl,h1,h2⟩:=i_ix h
  have hb:=ihb.1 X r ok h2
  exact of_se (se_ix ok.roomy hb.2.2.2.1 (iha.1 X l ok h1).1 hb.1) (λ_=>rfl) rfl
 | sl a lo hi iha ihl ihh =>
  refine⟨λX p ok h=>?_,noA λrd N sc ps=>rfl,noI λrd N sc tg p=>rfl⟩
  obtain⟨l,pl,ph,pos,pos',rfl,h1,h2,h3⟩:=i_sl h
  have part:∀ {y:E} {q:Option Expr},PEx T cf Tx y→((q=none∧isOmit y=true)∨∃r,q=some r∧isRd y=false∧mE Tx y X.N X.env.scope r=true)→SO T cf X y q:=by
   intro y q ih hq
   rcases hq with ⟨rfl,z⟩ | ⟨r,rfl,z1,z2⟩
   ·unfold isOmit at z
    split at z
    ·exact so_omit
    ·cases z
   ·exact so_some ((ih X r ok z2).2.1 z1)
  exact of_se (se_sl (iha.1 X l ok h1).1 (part ihl.1 h2) (part ihh.1 h3)) (λ_=>rfl) rfl
 | «omit»=>exact⟨noE λN sc p=>rfl,noA λrd N sc ps=>rfl,noI λrd N sc tg p=>rfl⟩
 | tup a iha =>
  refine⟨λX p ok h=>?_,noA λrd N sc ps=>rfl,noI λrd N sc tg p=>rfl⟩
  obtain⟨es,k,pos,rfl,h1⟩:=i_tup h
  exact of_se (se_tup ((iha.2.1 X false es ok h1).2.1 rfl)) (λ_=>rfl) rfl
 | lst a iha =>
  refine⟨λX p ok h=>?_,noA λrd N sc ps=>rfl,noI λrd N sc tg p=>rfl⟩
  obtain⟨es,pos,rfl,h1⟩:=i_lst h
  exact of_se (se_lst ((iha.2.1 X false es ok h1).2.1 rfl)) (λ_=>rfl) rfl
 | anil =>
  refine⟨noE λN sc p=>rfl,λX rd ps ok h=>?_,noI λrd N sc tg p=>rfl⟩
  cases ps with
  | nil=>exact⟨sar_nil,λ_=>sav_nil,rfl⟩
  | cons _ _=>exact nof h
 | acons a r iha ihr =>
  refine⟨noE λN sc p=>rfl,λX rd ps ok h=>?_,noI λrd N sc tg p=>rfl⟩
  cases ps with
  | nil=>exact nof h
  | cons p ps =>
   change (_&&_)=true at h;simp only[Bool.and_eq_true,Bool.or_eq_true,Bool.not_eq_true'] at h
   obtain⟨a1,a2,_,a4,_⟩:=iha.1 X p ok h.1.2
   obtain⟨b1,b2,b3⟩:=ihr.2.1 X rd ps ok h.2
   refine⟨sar_cons a4 a1 b1,λz=>sav_cons a4 (a2 ?_) (b2 z),by rw[List.all_cons,a4,b3];rfl⟩
   rcases h.1.1 with q | q
   ·rw[z] at q;cases q
   ·exact q
 | call f a iha =>
  refine⟨λX p ok h=>?_,noA λrd N sc ps=>rfl,noI λrd N sc tg p=>rfl⟩
  obtain⟨n,pn,es,pos,rfl,hn⟩:=i_call h
  simp only[Bool.and_eq_true,beq_iff_eq] at hn
  obtain⟨_,b2,b3⟩:=iha.2.1 X false es ok hn.2
  cases es with
  | nil =>
   cases a with
   | anil=>exact of_se (se_call0 (ok.defs f n hn.1.1.1) (gl_of hn.1.1.2) (dbg_of hn.1.2)) (λ_=>rfl) rfl
   | _=>exact nof hn.2
  | cons e es=>exact of_se (se_call (ok.defs f n hn.1.1.1) (gl_of hn.1.1.2) (dbg_of hn.1.2) b3 (b2 rfl)) (λ_=>rfl) rfl
 | bt b a iha =>
  refine⟨λX p ok h=>?_,noA λrd N sc ps=>rfl,noI λrd N sc tg p=>rfl⟩
  obtain⟨n,pn,e,es,pos,rfl,hn⟩:=i_bt h
  simp only[Bool.and_eq_true,beq_iff_eq] at hn
  obtain⟨b1,_,b3⟩:=iha.2.1 X true (e::es) ok hn.2
  exact of_se (se_bt hn.1.1.1 ok.calm hn.1.1.2 (ok.blt _ (by cases b<;>decide)) (gl_of hn.1.2) b3 b1) (λ_=>rfl) rfl
 | mth m a b iha ihb =>
  refine⟨λX p ok h=>?_,noA λrd N sc ps=>rfl,noI λrd N sc tg p=>rfl⟩
  obtain⟨o,nm,apos,q,cpos,rfl,hn⟩:=i_mth h
  simp only[Bool.and_eq_true,Bool.not_eq_true'] at hn
  obtain⟨_,a2,_⟩:=iha.1 X o ok hn.1.2
  obtain⟨b1,_,_,b4,_⟩:=ihb.1 X q ok hn.2
  have e:nm=m.nm:=eq_of_beq hn.1.1.1.1.1
  exact of_se (se_mth e (base_of hn.1.1.1.1.2 (by subst e;cases m<;>decide)) hn.1.1.1.2 b4 (a2 hn.1.1.2) b1) (λ_=>rfl) rfl
 | callT fs k a ihk iha =>
  refine⟨λX p ok h=>?_,noA λrd N sc ps=>rfl,noI λrd N sc tg p=>rfl⟩
  obtain⟨n,pn,q,pos',e,es,pos,rfl,hn⟩:=i_callT h
  simp only[Bool.and_eq_true,Bool.not_eq_true'] at hn
  obtain⟨⟨⟨⟨⟨h1,h2⟩,h3⟩,h4⟩,h5⟩,h6⟩:=hn
  obtain⟨_,a2,_,a4,_⟩:=ihk.1 X q ok h5
  obtain⟨_,b2,b3⟩:=iha.2.1 X false (e::es) ok h6
  exact of_se (se_callT a4 (ok.tf _ (List.contains_iff_mem.mp h1)) (gl_of h2) (dbg_of h3) b3 (a2 h4) (b2 rfl)) (λ_=>rfl) rfl
 | gidx ss a iha =>
  refine⟨λX p ok h=>?_,noA λrd N sc ps=>rfl,noI λrd N sc tg p=>rfl⟩
  obtain⟨n,pn,nm,apos,q,cpos,rfl,hn⟩:=i_gidx h
  simp only[Bool.and_eq_true] at hn
  obtain⟨⟨⟨⟨⟨h1,h2⟩,h3⟩,h4⟩,h5⟩,h6⟩:=hn
  obtain⟨b1,_,_,b4,_⟩:=iha.1 X q ok h6
  exact of_se (se_gidx (ok.ts _ (List.contains_iff_mem.mp h1)) (gl_of h2) (dbg_of h3) (eq_of_beq h4) h5 b4 b1) (λ_=>rfl) rfl
 | lset a iha =>
  refine⟨λX p ok h=>?_,noA λrd N sc ps=>rfl,noI λrd N sc tg p=>rfl⟩
  obtain⟨n,pn,m,pm,q,pos2,pos,rfl,hn⟩:=i_lset h
  simp only[Bool.and_eq_true] at hn
  obtain⟨⟨⟨⟨h1,h2⟩,h3⟩,h4⟩,h5⟩:=hn
  obtain⟨a1,_,_,a4,_⟩:=iha.1 X q ok h5
  cases eq_of_beq h1
  cases eq_of_beq h2
  exact of_se (se_lset ok.calm ok.roomy (ok.blt _ (by decide)) (ok.blt _ (by decide)) (gl_of h3) (gl_of h4) a4 a1) (λ_=>rfl) rfl
 | comp own caps g elt src cond ihe ihs ihc =>
  refine⟨λX p ok h=>?_,noA λrd N sc ps=>rfl,noI λrd N sc tg p=>rfl⟩
  obtain⟨pe,tg,iter,ifs,scope,pos,rfl,a2,a3,a4,a5,a6,a7,a8,a9,a10,a11,a12⟩:=i_comp h
  obtain⟨c1,c2,c3,c4,c5⟩:=comp_parts ok ihe.1 ihs.2.2 ihc.1 a2 a3 a4 a5 a6 a8 a9 a10 a11 a12
  exact of_se (se_comp ok.calm c1 c2 a7 c3 c4 c5) (λ_=>rfl) rfl
 | seq a iha =>
  refine⟨noE λN sc p=>rfl,noA λrd N sc ps=>rfl,λX rd tg p ok h=>?_⟩
  change (_&&_)=true at h;simp only[Bool.and_eq_true,Bool.or_eq_true,Bool.not_eq_true'] at h
  obtain⟨a1,a2,_,a4,_⟩:=iha.1 X p ok h.2
  refine⟨si_seq a1 λz=>a2 ?_,a4⟩
  rcases h.1 with q | q
  ·rw[z] at q;cases q
  ·exact q
 | rng a iha =>
  refine⟨noE λN sc p=>rfl,noA λrd N sc ps=>rfl,λX rd tg p ok h=>?_⟩
  obtain⟨n,pn,q,pos,rfl,hn⟩:=i_rng h
  simp only[Bool.and_eq_true,beq_iff_eq,Bool.not_eq_true'] at hn
  obtain⟨_,a2,_,a4,_⟩:=iha.1 X q ok hn.2
  exact⟨si_rng hn.1.1.1 (gl_of hn.1.1.2) (ok.blt _ (by simp[bltNames])) a4 (a2 hn.1.2),rfl⟩
 | enum a iha =>
  refine⟨noE λN sc p=>rfl,noA λrd N sc ps=>rfl,λX rd tg p ok h=>?_⟩
  obtain⟨n,pn,q,pos,rfl,hn⟩:=i_enum h
  simp only[Bool.and_eq_true,beq_iff_eq,Bool.not_eq_true',Bool.or_eq_true] at hn
  obtain⟨a1,a2,_,a4,_⟩:=iha.1 X q ok hn.2
  cases tg with
  | Tuple es kk tpos =>
   refine⟨si_enum hn.1.1.1.1 (gl_of hn.1.1.1.2) (ok.blt _ (by simp[bltNames])) a4 a1 λz=>a2 ?_,rfl⟩
   rcases hn.1.2 with q | q
   ·rw[z] at q;cases q
   ·exact q
  | _=>exact absurd hn.1.1.2 (by simp[isTupX])
end
section
variable (Tx:Txt)
noncomputable def isCallE:E→Bool
 | .call _ _=>true
 | _=>false
mutual
noncomputable def mB:S→List Str→Scope→List Stmt→Bool
 | .nil,_,_,[]=>true
 | .cons (.sealed _) r,N,sc,ps=>mB r N sc ps
 | .cons a r,N,sc,p::ps=>mS a N sc p&&mB r N sc ps
 | _,_,_,_=>false
termination_by structural x=>x
noncomputable def mS:S→List Str→Scope→Stmt→Bool
 | .ret x,N,sc,.Return (some p) _=>!isRd x&&mE Tx x N sc p
 | .retO i,N,sc,.Return (some (.Name n _)) _=>nameB N sc i n
 | .asg g x,N,sc,.Assign [tg] p _=>!isRd x&&mG false N sc g tg&&mE Tx x N sc p&&((notComp p&&notTup p)||(match g,tg with | .one _,.Name _ _=>true | _,_=>false))
 | .asgO i x,N,sc,.Assign [.Name n pn] p _=>!isRd x&&mG false N sc (.one i) (.Name n pn)&&mE Tx x N sc p
 | .ite c a b,N,sc,.If p ps qs _=>mE Tx c N sc p&&mB a N sc ps&&mB b N sc qs
 | .forS g src b,N,sc,.For tg p ps [] _=>mI Tx src false N sc tg p&&mG false N sc g tg&&mB b N sc ps
 | .app i x,N,sc,.Expr (.Call (.Attribute (.Name n _) nm apos) [p] [] cpos) _=>nameB N sc i n&&(nm == "append")&&(apos.endLine==cpos.line)&&!isRd x&&mE Tx x N sc p
 | .exp x,N,sc,.Expr p _=>isCallE x&&mE Tx x N sc p
 | .ins i y x,N,sc,.Expr (.Call (.Attribute (.Name n _) nm apos) [q,p] [] cpos) _=>nameB N sc i n&&(nm == "insert")&&(apos.endLine==cpos.line)&&!isRd y&&mE Tx y N sc q&&!isRd x&&mE Tx x N sc p
 | .raisI c a,N,sc,.Raise (some (.Call (.Name n _) es [] _)) none _=>(n==c)&&Tx.icl.contains n&&glB sc n&&dbgB n&&!es.isEmpty&&mA Tx a false N sc es
 | _,_,_,_=>false
termination_by structural x=>x
end
end
set_option genInjectivity false in
structure OkS (T:Tab) (cf:Nat→List D→Res D) (Tx:Txt) (X:Cx):Prop where
 ok:OkX T cf Tx X
 xe:X.xe=λ_ _=>False
 fn:∀n,X.fn n=true
section
variable {T:Tab} {cf:Nat→List D→Res D} {Tx:Txt} {X:Cx}
theorem OkS.pass (o:OkS T cf Tx X):PassesOwn (model X.prog X.w) X.A X.env X.xe:=by rw[o.xe];exact PassesOwn.never
noncomputable def PSx (T:Tab) (cf:Nat→List D→Res D) (Tx:Txt) (x:S):Prop:=∀X p,OkS T cf Tx X→mS Tx x X.N X.env.scope p=true→SS T cf X x p
noncomputable def PBx (T:Tab) (cf:Nat→List D→Res D) (Tx:Txt) (x:S):Prop:=∀X ps,OkS T cf Tx X→mB Tx x X.N X.env.scope ps=true→SB T cf X x ps
theorem noB {x:S} (h:∀N sc ps,mB Tx x N sc ps=false):PBx T cf Tx x:=λX ps _ m=>by rw[h] at m;cases m
theorem noS {x:S} (h:∀N sc p,mS Tx x N sc p=false):PSx T cf Tx x:=λX ps _ m=>by rw[h] at m;cases m
theorem x_comp {x:E} {N:List Str} {sc:Scope} {p:Expr} (hp:notComp p=false) (h:mE Tx x N sc p=true):∃own caps g elt src cond,x=.comp own caps g elt src cond:=by
 cases x with
 | comp own caps g elt src cond=>exact⟨_,_,_,_,_,_,rfl⟩
 | var i=>obtain⟨n,pos,rfl,_⟩:=i_var h;cases hp
 | rd i=>obtain⟨n,pos,rfl,_⟩:=i_rd h;cases hp
 | con d=>obtain⟨c,k,pos,rfl,_⟩:=i_con h;cases hp
 | glob d=>obtain⟨c,pos,rfl,_⟩:=i_glob h;cases hp
 | bin o a b=>obtain⟨c,_,pos,rfl,_⟩:=i_bin h;cases hp
 | cmp o a b=>obtain⟨c,_,pos,rfl,_⟩:=i_cmp h;cases hp
 | and a b=>obtain⟨c,_,_,pos,rfl,_⟩:=i_and h;cases hp
 | or a b=>obtain⟨c,_,_,pos,rfl,_⟩:=i_or h;cases hp
 | not a=>obtain⟨c,pos,rfl,_⟩:=i_not h;cases hp
 | ife c a b=>obtain⟨c,_,_,pos,rfl,_⟩:=i_ife h;cases hp
 | ix a b=>obtain⟨c,_,pos,rfl,_⟩:=i_ix h;cases hp
 | sl a b c=>obtain⟨c,_,_,_,pos,rfl,_⟩:=i_sl h;cases hp
 | tup a=>obtain⟨c,_,pos,rfl,_⟩:=i_tup h;cases hp
 | lst a=>obtain⟨c,pos,rfl,_⟩:=i_lst h;cases hp
 | call f a=>obtain⟨c,_,_,pos,rfl,_⟩:=i_call h;cases hp
 | bt f a=>obtain⟨c,_,_,_,pos,rfl,_⟩:=i_bt h;cases hp
 | callT fs k a=>obtain⟨_,_,_,_,_,_,pos,rfl,_⟩:=i_callT h;cases hp
 | gidx ss a=>obtain⟨_,_,_,_,_,pos,rfl,_⟩:=i_gidx h;cases hp
 | lset a=>obtain⟨_,_,_,_,_,_,pos,rfl,_⟩:=i_lset h;cases hp
 | mth m a b=>obtain⟨c,_,_,_,pos,rfl,_⟩:=i_mth h;cases hp
 | chain o o' a b c=>obtain⟨c,_,_,pos,rfl,_⟩:=i_chain h;cases hp
 | neg a=>obtain⟨c,pos,rfl,_⟩:=i_neg h;cases hp
 | _=>exact nof h
theorem mG_name {i:Nat} {n:Str} {pos:Pos} (o:OkS T cf Tx X) (h:mG false X.N X.env.scope (.one i) (.Name n pos)=true):X.N[i]?=some n∧Loc X.env.scope n∧(X.fn n=true∨X.env.scope.names.lookup n=some .local):=by
 simp only[mG,Bool.and_eq_true,Bool.or_eq_true,beq_iff_eq,Bool.not_eq_true',Bool.not_false,true_and] at h
 exact⟨h.1,h.2,.inl (o.fn n)⟩
theorem asg_comp {i:Nat} {n:Str} {pos pos':Pos} {x:E} {p:Expr} (b:Bool) (o:OkS T cf Tx X) (hp:notComp p=false) (h1:mG false X.N X.env.scope (.one i) (.Name n pos)=true) (h2:mE Tx x X.N X.env.scope p=true):SS T cf X (if b then .asgO i x else .asg (.one i) x) (.Assign [.Name n pos] p pos'):=by
 obtain⟨own,caps,g,elt,src,cond,rfl⟩:=x_comp hp h2
 obtain⟨pe,tg,iter,ifs,scope,pos2,rfl,a2,a3,a4,a5,a6,a7,a8,a9,a10,a11,a12⟩:=i_comp h2
 obtain⟨c1,c2,c3,c4,c5⟩:=comp_parts o.ok (wholeE elt).1 (wholeE src).2.2 (wholeE cond).1 a2 a3 a4 a5 a6 a8 a9 a10 a11 a12
 obtain⟨n1,n2,n3⟩:=mG_name o h1
 exact ss_asg_comp o.ok.nd n1 n2 n3 o.ok.calm c1 c2 a7 c3 c4 b c5
theorem i_app {i:Nat} {x:E} {N:List Str} {sc:Scope} {p:Stmt} (h:mS Tx (.app i x) N sc p=true):∃n px nm apos q cpos pos,p=.Expr (.Call (.Attribute (.Name n px) nm apos) [q] [] cpos) pos∧(nameB N sc i n&&(nm == "append")&&(apos.endLine==cpos.line)&&!isRd x&&mE Tx x N sc q)=true:=by
 cases p with
 | Expr v pos=>cases v with
  | Call f es ks cpos=>cases f with
   | Attribute o nm apos=>cases o with
    | Name n px =>
     rcases es with _ | ⟨q,_ | ⟨q',es⟩⟩
     ·exact nof h
     ·cases ks with
      | nil=>exact⟨n,px,nm,apos,q,cpos,pos,rfl,h⟩
      | cons _ _=>exact nof h
     ·exact nof h
    | _=>exact nof h
   | _=>exact nof h
  | _=>exact nof h
 | _=>exact nof h
theorem i_ins {i:Nat} {y x:E} {N:List Str} {sc:Scope} {p:Stmt} (h:mS Tx (.ins i y x) N sc p=true):∃n px nm apos q v cpos pos,p=.Expr (.Call (.Attribute (.Name n px) nm apos) [q,v] [] cpos) pos∧(nameB N sc i n&&(nm == "insert")&&(apos.endLine==cpos.line)&&!isRd y&&mE Tx y N sc q&&!isRd x&&mE Tx x N sc v)=true:=by
 cases p with
 | Expr v pos=>cases v with
  | Call f es ks cpos=>cases f with
   | Attribute o nm apos=>cases o with
    | Name n px =>
     rcases es with _ | ⟨q,_ | ⟨v,_ | ⟨v',es⟩⟩⟩
     ·exact nof h
     ·exact nof h
     ·cases ks with
      | nil=>exact⟨n,px,nm,apos,q,v,cpos,pos,rfl,h⟩
      | cons _ _=>exact nof h
     ·exact nof h
    | _=>exact nof h
   | _=>exact nof h
  | _=>exact nof h
 | _=>exact nof h
theorem ss_asg1 {i:Nat} {n:Str} {x:E} {p:Expr} {pos pos':Pos} (hx:notComp p=true) (hN:X.N.Nodup) (hi:X.N[i]?=some n) (hl:Loc X.env.scope n) (hf:X.fn n=true∨X.env.scope.names.lookup n=some .local) (h:SE T cf X x p):SS T cf X (.asg (.one i) x) (.Assign [.Name n pos'] p pos):=λH₀ O₀=>by
 refine PS.imp (λD' σ H hq=>?_) (ps_set hN hi hl (h H₀ O₀) (swaps_no hx) hf)
 obtain⟨ts,e,out,⟨O,own,F,tt⟩,ev,k⟩:=hq
 rw[xS_asg] at ev
 obtain⟨d,e1,ev⟩:=Res.bind_ok ev
 obtain⟨e2,e3,ev⟩:=Res.bind_ok ev
 cases ev
 cases e3
 exact⟨O,own,e,d,F,e1,λv H' s' r n=>k _ H' ⟨O,_,(F.grow s').setV i r,λt ht=>(tt t ht).same s'⟩⟩
theorem wholeS:∀x:S,PSx T cf Tx x∧PBx T cf Tx x:=by
 intro x
 induction x with
 | nil =>
  refine⟨noS λN sc p=>rfl,λX ps o h=>?_⟩
  cases ps with
  | nil=>exact sb_nil
  | cons _ _=>exact nof h
 | cons a r iha ihr =>
  refine⟨noS λN sc p=>rfl,λX ps o h=>?_⟩
  by_cases hs:∃i,a=.sealed i
  ·obtain⟨i,rfl⟩:=hs
   rw[mB] at h
   exact sb_seal (ihr.2 X ps o h)
  ·cases ps with
   | nil =>
    exfalso
    cases a<;>first | (exact hs ⟨_,rfl⟩) | exact nof h
   | cons p ps =>
    have h':(mS Tx a X.N X.env.scope p&&mB Tx r X.N X.env.scope ps)=true:=by
     cases a<;>first | (exact absurd ⟨_,rfl⟩ hs) | exact h
    rw[Bool.and_eq_true] at h'
    exact sb_cons (iha.1 X p o h'.1) (ihr.2 X ps o h'.2)
 | ret x =>
  refine⟨λX p o h=>?_,noB λN sc ps=>rfl⟩
  cases p with
  | Return v pos=>cases v with
   | some p =>
    change (_&&_)=true at h;simp only[Bool.and_eq_true,Bool.not_eq_true'] at h
    exact ss_ret (((wholeE x).1 X p o.ok h.2).2.1 h.1)
   | none=>exact nof h
  | _=>exact nof h
 | retO i =>
  refine⟨λX p o h=>?_,noB λN sc ps=>rfl⟩
  cases p with
  | Return v pos=>cases v with
   | some p=>cases p with
    | Name n pn =>
     obtain⟨a1,a2,a3,a4⟩:=name_of h
     exact ss_retO a1 a2 a3 a4
    | _=>exact nof h
   | none=>exact nof h
  | _=>exact nof h
 | asg g x =>
  refine⟨λX p o h=>?_,noB λN sc ps=>rfl⟩
  cases p with
  | Assign tgs p pos =>
   rcases tgs with _ | ⟨tg,_ | ⟨t2,tgs⟩⟩
   ·exact nof h
   ·change (_&&_)=true at h;simp only[Bool.and_eq_true,Bool.not_eq_true',Bool.or_eq_true] at h
    obtain⟨⟨⟨h1,h2⟩,h3⟩,h4⟩:=h
    obtain⟨g1,g2⟩:=sg_of o.ok.calm o.ok.nd (λn _=>o.fn n) h2
    by_cases hc:notComp p=true
    ·by_cases ht:notTup p=true
     ·exact ss_asg hc ht g2 (((wholeE x).1 X p o.ok h3).2.1 h1) g1
     ·rcases h4 with z | z
      ·exact absurd z.2 ht
      ·cases g with
       | one i=>cases tg with
        | Name n pn =>
         obtain⟨n1,n2,n3⟩:=mG_name o h2
         exact ss_asg1 hc o.ok.nd n1 n2 n3 (((wholeE x).1 X p o.ok h3).2.1 h1)
        | _=>cases z
       | many _=>cases z
    ·have hc':notComp p=false:=by simpa using hc
     rcases h4 with z | z
     ·exact absurd z.1 hc
     ·cases g with
      | one i=>cases tg with
       | Name n pn=>exact asg_comp false o hc' h2 h3
       | _=>cases z
      | many _=>cases z
   ·exact nof h
  | _=>exact nof h
 | asgO i x =>
  refine⟨λX p o h=>?_,noB λN sc ps=>rfl⟩
  cases p with
  | Assign tgs p pos =>
   rcases tgs with _ | ⟨tg,_ | ⟨t2,tgs⟩⟩
   ·exact nof h
   ·cases tg with
    | Name n pn =>
     change (_&&_)=true at h;simp only[Bool.and_eq_true,Bool.not_eq_true'] at h
     obtain⟨⟨h1,h2⟩,h3⟩:=h
     by_cases hc:notComp p=true
     ·obtain⟨n1,n2,n3⟩:=mG_name o h2
      exact ss_asgO hc o.ok.nd n1 n2 n3 (((wholeE x).1 X p o.ok h3).2.1 h1)
     ·exact asg_comp true o (by simpa using hc) h2 h3
    | _=>exact nof h
   ·cases tg<;>exact nof h
  | _=>exact nof h
 | «sealed» i=>exact⟨noS λN sc p=>rfl,noB λN sc ps=>rfl⟩
 | ite c a b iha ihb =>
  refine⟨λX p o h=>?_,noB λN sc ps=>rfl⟩
  cases p with
  | If p ps qs pos =>
   change (_&&_)=true at h;simp only[Bool.and_eq_true] at h
   exact ss_ite ((wholeE c).1 X p o.ok h.1.1).2.2.1 (iha.2 X ps o h.1.2) (ihb.2 X qs o h.2)
  | _=>exact nof h
 | forS g src b ihb =>
  refine⟨λX p o h=>?_,noB λN sc ps=>rfl⟩
  cases p with
  | For tg p ps qs pos=>cases qs with
   | nil =>
    change (_&&_)=true at h;simp only[Bool.and_eq_true] at h
    have hg:=(sg_of o.ok.calm o.ok.nd (λn _=>o.fn n) h.1.2).1
    obtain⟨s1,s2⟩:=(wholeE src).2.2 X false tg p o.ok h.1.1
    exact ss_for o.pass o.ok.calm s2 s1 hg (ihb.2 X ps o h.2)
   | cons _ _=>exact nof h
  | _=>exact nof h
 | app i x =>
  refine⟨λX p o h=>?_,noB λN sc ps=>rfl⟩
  obtain⟨n,px,nm,apos,q,cpos,pos,rfl,hn⟩:=i_app h
  simp only[Bool.and_eq_true,beq_iff_eq,Bool.not_eq_true'] at hn
  obtain⟨a1,a2,a3,a4⟩:=name_of hn.1.1.1.1
  obtain⟨_,b2,_,b4,_⟩:=(wholeE x).1 X q o.ok hn.2
  exact ss_app a1 a2 a3 a4 hn.1.1.1.2 (by simpa using hn.1.1.2) b4 (b2 hn.1.2)
 | exp x =>
  refine⟨λX p o h=>?_,noB λN sc ps=>rfl⟩
  cases p with
  | Expr q pos =>
   change (_&&_)=true at h;simp only[Bool.and_eq_true] at h
   cases x with
   | call f a =>
    have b:=((wholeE (.call f a)).1 X q o.ok h.2).2.1 rfl
    obtain⟨c,_,_,pos2,rfl,_⟩:=i_call h.2
    exact ss_exp rfl b
   | _=>exact nof h.1
  | _=>exact nof h
 | ins i y x =>
  refine⟨λX p o h=>?_,noB λN sc ps=>rfl⟩
  obtain⟨n,px,nm,apos,q,v,cpos,pos,rfl,hn⟩:=i_ins h
  simp only[Bool.and_eq_true,beq_iff_eq,Bool.not_eq_true'] at hn
  obtain⟨⟨⟨⟨⟨⟨h1,h2⟩,h3⟩,h4⟩,h5⟩,h6⟩,h7⟩:=hn
  obtain⟨a1,a2,a3,a4⟩:=name_of h1
  obtain⟨_,b2,_,b4,_⟩:=(wholeE y).1 X q o.ok h5
  obtain⟨_,c2,_,c4,_⟩:=(wholeE x).1 X v o.ok h7
  exact ss_ins a1 a2 a3 a4 h2 (by simpa using h3) b4 c4 (b2 h4) (c2 h6)
 | raisI c a =>
  refine⟨λX p o h H₀ O₀=>λpins s σ H D I q=>?_,noB λN sc ps=>rfl⟩
  obtain⟨ts,e,out,F,ev,k⟩:=q
  (first | rw[xS_nil] at ev | rw[xS_cons] at ev | rw[xS_ret] at ev | rw[xS_retO] at ev | rw[xS_asg] at ev | rw[xS_asgO] at ev | rw[xS_sealed] at ev | rw[xS_ite] at ev | rw[xS_forS] at ev | rw[xS_app] at ev | rw[xS_exp] at ev | rw[xS_ins] at ev | rw[xS_raisI] at ev)
  cases ev
end
end Tr
namespace Tr
open PySem PySem.Spec PyProof.Rows L2 PySem.W
structure RaiseOk (X:Cx) (E:XK):Prop where
 made:∀(pins:List (Addr×Obj)) (σ:L2.St) (H:Hp) (s:Shared) (h':Heap) (a:Addr) (cls:Value) (args:List Value),Inv X pins σ H s→Heap.MadeExcOf s.heap h' a cls args→E cls none H→X.xe (.ref a) { s with heap:=h' }
 ex:X.ex=[]
 bore:∀(pins:List (Addr×Obj)) (σ:L2.St) (H:Hp) (s:Shared) (a t dx C:Addr),Inv X pins σ H s→s.heap.get? a=some (excO C t (some dx))→H a=none→X.s₀.heap.get? a=none→E (.ref C) (some dx) H→X.xe (.ref a) s
 own:PassesOwn (model X.prog X.w) X.A X.env X.xe
noncomputable def IniOk (X:Cx) (c:Str):Prop:=∃(C fI:Addr) (fd:FuncData) (k:Nat) (ps:List Str),X.mg c=some (.ref C)∧cvK X.K c=.ref C∧InitCls X.K C fI "at" ∧ PySem.W.isFn X.K (.ref fI)=true ∧
 FnOk X.prog X.w X.K X.mg X.base (CXE X.prog X.w) k fI fd ps (spI C "at")∧Room (k+1) X.A∧Binds X.K fd ps []
structure OkE (T:Tab) (cf:Nat→List D→Res D) (Tx:Txt) (X:Cx) (E:XK):Prop where
 ok:OkS T cf Tx X.nox
 pass:Passes (CXE X.prog X.w) X E
 cls:∀c∈Tx.cls,∃C,ClsIs X.K X.mg c C
 ini:∀c∈Tx.icl,IniOk X c
noncomputable def tX (T:Tab) (cf:Nat→List D→Res D) (K:PySem.W.Frag) (H₀:Hp) (O₀:Addr→Prop) (E:XK) (x:S):TS:=λ_ σ H=>∃O own e c d,Fm K H₀ O₀ H O own e σ∧exX T cf x e=some (c,d)∧∀od H',Same H₀ H'→PayOk d od H'→E (cvK K c) od H'
noncomputable def SX (T:Tab) (cf:Nat→List D→Res D) (X:Cx) (E:XK) (x:S) (p:Stmt):Prop:=∀H₀ O₀,PS X p (tX T cf X.K H₀ O₀ E x)
noncomputable def SXs (T:Tab) (cf:Nat→List D→Res D) (X:Cx) (E:XK) (x:S) (p:List Stmt):Prop:=∀H₀ O₀,PSs X p (tX T cf X.K H₀ O₀ E x)
section
variable {T:Tab} {cf:Nat→List D→Res D} {Tx:Txt}
theorem ps_nox {X:Cx} {st:Stmt} {t:TS} (h:PS X.nox st t):PS X st t:=λpins s σ H D I hw =>
 wpAny_mono (h pins s σ H D (I.wish _) hw) (λ_ _ q=>q.unwish) λ_ _ z=>False.elim z
theorem pa_nox {X:Cx} {es:List Expr} {t:TA} (h:PA X.nox es t):PA X es t:=λpos pins s σ H Q I hw =>
 wpAny_mono (h pos pins s σ H Q (I.wish _) hw) (λ_ _ ⟨v,H',I',r,q⟩=>⟨v,H',I'.unwish,r,q⟩) λ_ _ z=>False.elim z
theorem pss_false {X:Cx} {ps:List Stmt}:PSs X ps (λ_ _ _=>False):=λ_ _ _ _ _ _ h=>h.elim
noncomputable def PSX (T:Tab) (cf:Nat→List D→Res D) (Tx:Txt) (x:S):Prop:=∀X E p,OkE T cf Tx X E→RaiseOk X E∨calmS x=true→mS Tx x X.N X.env.scope p=true→SX T cf X E x p
noncomputable def PBX (T:Tab) (cf:Nat→List D→Res D) (Tx:Txt) (x:S):Prop:=∀X E ps,OkE T cf Tx X E→RaiseOk X E∨calmS x=true→mB Tx x X.N X.env.scope ps=true→SXs T cf X E x ps
theorem noSX {x:S} (h:∀e,exX T cf x e=none):PSX T cf Tx x:=λX E p _ _ _ H₀ O₀ pins s σ H D I q=>by
 obtain⟨O,own,e,c,d,F,ev,k⟩:=q
 rw[h] at ev;cases ev
theorem noBX {x:S} (h:∀e,exX T cf x e=none):PBX T cf Tx x:=λX E p _ _ _ H₀ O₀ pins s σ H D I q=>by
 obtain⟨O,own,e,c,d,F,ev,k⟩:=q
 rw[h] at ev;cases ev
theorem noBX' {x:S} (h:∀N sc ps,mB Tx x N sc ps=false):PBX T cf Tx x:=λX E ps _ _ m=>by rw[h] at m;cases m
theorem noSX' {x:S} (h:∀N sc p,mS Tx x N sc p=false):PSX T cf Tx x:=λX E ps _ _ m=>by rw[h] at m;cases m
theorem exX_cons {a r:S} {e:Nv} {z:Str×D} (h:exX T cf (.cons a r) e=some z):exX T cf a e=some z∨(exX T cf a e=none∧∃e1,exS T cf a e=.ok (.nx e1)∧exX T cf r e1=some z):=by
 rw[xX_cons] at h
 cases ha:exX T cf a e with
 | some z'=>rw[ha] at h;exact .inl h
 | none =>
  rw[ha] at h
  refine .inr ⟨rfl,?_⟩
  cases hs:exS T cf a e with
  | ok o =>
   rw[hs] at h
   cases o with
   | nx e1=>exact⟨e1,rfl,h⟩
   | _=>cases h
  | err _ _=>rw[hs] at h;cases h
  | no=>rw[hs] at h;cases h
theorem exX_ite {c:E} {a b:S} {e:Nv} {z:Str×D} (h:exX T cf (.ite c a b) e=some z):∃x q,evE T cf c e=.ok x∧x.truth=.ok q∧(if q=true then exX T cf a e=some z else exX T cf b e=some z):=by
 rw[xX_ite] at h
 cases hc:evE T cf c e with
 | ok x =>
  rw[hc] at h
  cases ht:x.truth with
  | ok q =>
   simp only[ht] at h
   refine⟨x,q,rfl,ht,?_⟩
   cases q with
   | true=>exact h
   | false=>exact h
  | err _ _=>simp only[ht] at h;cases h
  | no=>simp only[ht] at h;cases h
 | err _ _=>rw[hc] at h;cases h
 | no=>rw[hc] at h;cases h
theorem exX_call {f:Nat} {a:E} {e:Nv} {c:Str} {d:D} (h:exX T cf (.exp (.call f a)) e=some (c,d)):∃ds,evA T cf a e=.ok ds∧cf f ds=.err c d:=by
 rw[xX_call] at h
 cases ha:evA T cf a e with
 | ok ds =>
  rw[ha] at h
  cases hf:cf f ds with
  | err c' d'=>simp only[hf] at h;cases h;exact⟨ds,rfl,hf⟩
  | ok _=>simp only[hf] at h;cases h
  | no=>simp only[hf] at h;cases h
 | err _ _=>rw[ha] at h;cases h
 | no=>rw[ha] at h;cases h
theorem exX_raisI {c:Str} {a:E} {e:Nv} {c':Str} {d:D} (h:exX T cf (.raisI c a) e=some (c',d)):c'=c∧∃v,d=.int v∧evA T cf a e=.ok [.int v]:=by
 rw[xX_raisI] at h
 split at h
 ·rename_i v ha
  cases h
  exact⟨rfl,v,rfl,ha⟩
 ·cases h
theorem pi_nox {X:Cx} {tg p:Expr} {t:TI} (h:PI X.nox tg p t):PI X tg p t:=λpins s σ H R I hw =>
 wpAny_mono (h pins s σ H R (I.wish _) hw) (λ_ _ q=>wpAny_mono q (λ_ _ ⟨it,fp,tn,J,H',e,I',T,n,f,r⟩=>⟨it,fp,tn,J,H',e,I'.unwish,T,n,f,r⟩) λ_ _ z=>False.elim z) λ_ _ z=>False.elim z
theorem pg_nox {X:Cx} {tg:Expr} {t:TG} (h:PG X.nox tg t):PG X tg t:=λpins s σ H v u Q I r hw =>
 wpAny_mono (h pins s σ H v u Q (I.wish _) r hw) (λ_ _ ⟨σ',H',I',q⟩=>⟨σ',H',I'.unwish,q⟩) λ_ _ z=>False.elim z
theorem pss_or {X:Cx} {ps:List Stmt} {t t':TS} (h:PSs X ps t) (h':PSs X ps t'):PSs X ps (λD σ H=>t D σ H∨t' D σ H):=λpins s σ H D I q=>q.elim (h pins s σ H D I) (h' pins s σ H D I)
theorem calm_l {X:Cx} {E:XK} {a b x:S} (e:calmS x=(calmS a&&calmS b)) (h:RaiseOk X E∨calmS x=true):(RaiseOk X E∨calmS a=true)∧(RaiseOk X E∨calmS b=true):=by
 rcases h with h | h
 ·exact⟨.inl h,.inl h⟩
 ·rw[e,Bool.and_eq_true] at h
  exact⟨.inr h.1,.inr h.2⟩
theorem wholeX (x:S):PSX T cf Tx x∧PBX T cf Tx x:=by
 induction x with
 | cons a r iha ihr =>
  refine⟨noSX' λN sc p=>rfl,λX E ps o hc h=>?_⟩
  have hc2:=calm_l (a:=a) (b:=r) rfl hc
  by_cases hs:∃i,a=.«sealed» i
  ·obtain⟨i,rfl⟩:=hs
   have h2:mB Tx r X.N X.env.scope ps=true:=by
    cases ps<;>exact h
   intro H₀ O₀ pins s σ H D I hq
   obtain⟨O,own,e,c,d,F,ev,k⟩:=hq
   rcases exX_cons ev with z | ⟨_,e1,e2,e3⟩
   ·cases z
   ·(first | rw[xS_nil] at e2 | rw[xS_cons] at e2 | rw[xS_sealed] at e2 | rw[xS_ite] at e2 | rw[xS_forS] at e2 | rw[xS_exp] at e2 | rw[xS_raisI] at e2)
    obtain⟨l,e4,e2⟩:=Res.bind_ok e2
    cases e2
    obtain⟨O',own',F',sub⟩:=F.seal i (Sl.ownA_ok e4)
    exact ihr.2 X E ps o hc2.2 h2 H₀ O₀ pins s σ H D I ⟨O',own',_,c,d,F',e3,k⟩
  ·cases ps with
   | nil=>cases a<;>first | exact nof h | exact absurd ⟨_,rfl⟩ hs
   | cons p ps =>
    have hm:(mS Tx a X.N X.env.scope p&&mB Tx r X.N X.env.scope ps)=true:=by
     cases a<;>first | exact h | exact absurd ⟨_,rfl⟩ hs
    rw[Bool.and_eq_true] at hm
    intro H₀ O₀ pins s σ H D I hq
    obtain⟨O,own,e,c,d,F,ev,k⟩:=hq
    rcases exX_cons ev with z | ⟨_,e1,e2,e3⟩
    ·exact pss_cons (iha.1 X E p o hc2.1 hm.1 H₀ O₀) pss_false pins s σ H D I ⟨O,own,e,c,d,F,z,k⟩
    ·refine pss_cons (ps_nox ((wholeS a).1 X.nox p o.ok hm.1 H₀ O₀)) (ihr.2 X E ps o hc2.2 hm.2 H₀ O₀) pins s σ H D I ?_
     exact⟨[],e,.nx e1,⟨O,own,F,λt ht=>by cases ht⟩,e2,λσ' H' ⟨O',own',F',_⟩=>⟨O',own',e1,c,d,F',e3,k⟩⟩
 | ite c a b iha ihb =>
  refine⟨λX E p o hc h=>?_,noBX' λN sc ps=>rfl⟩
  cases p with
  | If p ps qs pos =>
   have hc2:=calm_l (a:=a) (b:=b) rfl hc
   change (_&&_)=true at h;simp only[Bool.and_eq_true] at h
   intro H₀ O₀ pins s σ H D I hq
   obtain⟨O,own,e,cc,d,F,ev,k⟩:=hq
   obtain⟨x,q,e1,e2,e3⟩:=exX_ite ev
   refine ps_if ((((wholeE c).1 X.nox p o.ok.ok h.1.1).2.2.1 H₀ O₀).nox) (iha.2 X E ps o hc2.1 h.1.2 H₀ O₀) (ihb.2 X E qs o hc2.2 h.2 H₀ O₀) pins s σ H D I ?_
   refine⟨O,own,e,x,q,F,e1,e2,λH1 s1=>?_⟩
   cases q with
   | true=>rw[if_pos rfl] at e3 ⊢;exact⟨O,own,e,cc,d,F.grow s1,e3,k⟩
   | false=>rw[if_neg Bool.false_ne_true] at e3 ⊢;exact⟨O,own,e,cc,d,F.grow s1,e3,k⟩
  | _=>exact nof h
 | exp x =>
  refine⟨λX E p o _ h=>?_,noBX' λN sc ps=>rfl⟩
  cases p with
  | Expr q pos =>
   change (_&&_)=true at h;simp only[Bool.and_eq_true] at h
   cases x with
   | call f a =>
    obtain⟨n,pn,es,pos2,rfl,hn⟩:=i_call h.2
    simp only[Bool.and_eq_true,beq_iff_eq] at hn
    obtain⟨k0,a0,fd,ps,Fk,hr,hm,hk,hb⟩:=o.ok.ok.defs f n hn.1.1.1
    obtain⟨_,b2,b3⟩:=(wholeE a).2.1 X.nox false es o.ok.ok hn.2
    intro H₀ O₀ pins s σ H D I hq
    obtain⟨O,own,e,c,d,F,ev,k⟩:=hq
    obtain⟨ds,e1,e2⟩:=exX_call ev
    cases es with
    | nil =>
     refine ps_expr (pe_call0 (X:=X) Fk hr (gl_of hn.1.1.2) hm hk hb .nil o.pass (dbg_of hn.1.2)) rfl pins s σ H D I ?_
     cases a with
     | anil =>
      rw[xA_anil] at e1
      cases e1
      exact⟨O,[],F.trk,rfl,.inr ⟨c,d,e2,λod H' s2=>k od H' (F.same.trans s2)⟩⟩
     | _=>exact nof hn.2
    | cons p es =>
     rw[List.all_cons,Bool.and_eq_true] at b3
     refine ps_expr (pe_call (X:=X) Fk hr (gl_of hn.1.1.2) hm hk hb .nil o.pass (pa_nox (b2 rfl H₀ O₀)) (dbg_of hn.1.2) (plain_star b3.1) (plain_any b3.2)) rfl pins s σ H D I ?_
     refine⟨O,own,e,ds,F,e1,λvs H1 s1 r1=>?_⟩
     dsimp only
     rw[List.append_nil]
     exact⟨O,ds,(F.grow s1).trk,r1,.inr ⟨c,d,e2,λod H' s2=>k od H' (F.same.trans (s1.trans s2))⟩⟩
   | _=>exact nof h.1
  | _=>exact nof h
 | raisI c a =>
  refine⟨λX E p o hc h=>?_,noBX' λN sc ps=>rfl⟩
  have hr:RaiseOk X E:=hc.elim id λz=>by cases z
  cases p with
  | Raise v w pos=>cases v with
   | none=>exact nof h
   | some v=>cases v with
    | Call fn es ks cpos=>cases fn with
     | Name n pn =>
      cases ks with
      | nil =>
       cases w with
       | none =>
        change (_&&_)=true at h
        simp only[Bool.and_eq_true,beq_iff_eq,Bool.not_eq_true',List.contains_iff_mem] at h
        obtain⟨⟨⟨⟨⟨h1,h2⟩,h3⟩,h4⟩,h5⟩,h6⟩:=h
        subst h1
        obtain⟨C,fI,fd,k0,ps,m1,m2,m3,m4,m5,m6,m7⟩:=o.ini n h2
        obtain⟨_,b2,b3⟩:=(wholeE a).2.1 X.nox false es o.ok.ok h6
        intro H₀ O₀ pins s σ H D I hq
        obtain⟨O,own,e,c,d,F,ev,k⟩:=hq
        obtain⟨rfl,v,rfl,e1⟩:=exX_raisI ev
        cases es with
        | nil=>cases h5
        | cons p es =>
         rw[List.all_cons,Bool.and_eq_true] at b3
         refine ps_raiseI (ER:=λod H1=>E (.ref C) od H1) m3 m1 (gl_of h3) o.ok.ok.calm hr.ex m5 m6 m7 m4 (pa_nox (b2 rfl H₀ O₀)) (λpins σ H s a t dx I x1 x2 x3 hE=>hr.bore pins σ H s a t dx C I x1 x2 x3 hE) (dbg_of h4) (plain_star b3.1) (plain_any b3.2) pins s σ H D I ?_
         refine⟨O,own,e,_,F,e1,λvs H1 s1 r1=>?_⟩
         obtain⟨y,_,rfl,ry,rfl⟩:=r1
         cases (show y=V.int v from ry)
         refine⟨_,rfl,λdx H2 s2 hx=>?_⟩
         have:=k (some dx) H2 ((F.same.trans s1).trans s2) ⟨dx,rfl,hx⟩
         rw[m2] at this
         exact this
       | some _=>exact nof h
      | cons _ _=>cases w<;>exact nof h
     | _=>cases w<;>exact nof h
    | _=>cases w<;>exact nof h
  | _=>exact nof h
 | forS g src b ihb =>
  refine⟨λX E p o hc h=>?_,noBX' λN sc ps=>rfl⟩
  have hr:RaiseOk X E:=hc.elim id λz=>by cases z
  cases p with
  | For tg p ps qs pos=>cases qs with
   | nil =>
    change (_&&_)=true at h;simp only[Bool.and_eq_true] at h
    intro H₀ O₀ pins s σ H D I hq
    obtain⟨O,own,e,c,d,F,ev,k⟩:=hq
    rw[xX_for] at ev
    split at ev
    ·cases ev
    rename_i hsr
    cases hds:evI T cf src e with
    | err _ _=>rw[hds] at ev;cases ev
    | no=>rw[hds] at ev;cases ev
    | ok ds =>
    rw[hds] at ev
    have ev:forX (λd e0=>match g.put d e0 with
     | .ok e1=>exX T cf b e1
     | _=>none) (λd e0=>do let e1 ←g.put d e0;exS T cf b e1) ds e=some (c,d):=ev
    obtain⟨z2,z1⟩:=(wholeE src).2.2 X.nox false tg p o.ok.ok h.1.1
    have hg:=(sg_of o.ok.ok.calm o.ok.ok.nd (λn _=>o.ok.fn n) h.1.2).1
    refine ps_for hr.own o.ok.ok.calm (pi_nox (z2 H₀ O₀)) (pg_nox (hg H₀ O₀)) (pss_or (((wholeS b).2 X.nox ps o.ok h.2 H₀ O₀).nox) (ihb.2 X E ps o (.inl hr) h.2 H₀ O₀)) (plain_fold z1) pins s σ H D I ?_
    refine⟨O,own,e,ds,F,hds,λJ H1 srs s1 rr rv wk=>?_⟩
    refine⟨λi m σ H=>m=ds.length - i∧i≤ds.length∧∃e',Ft X.K H₀ O₀ srs e' σ H∧forX (λd e0=>match g.put d e0 with
     | .ok e1=>exX T cf b e1
     | _=>none) (λd e0=>do let e1 ←g.put d e0;exS T cf b e1) (ds.drop i) e'=some (c,d),⟨ds.length,by simp,Nat.zero_le _,e,⟨O,own,F.grow s1,λt ht=>rv rfl t ht⟩,by simpa using ev⟩,?_⟩
    rintro i m σ2 H2 ⟨rfl,hi',e',⟨O2,own2,F2,t2⟩,ev2⟩
    obtain⟨w1,w2,w3⟩:=wk i H2 O2 λt ht=>(t2 t ht).rr
    by_cases hlt:i < ds.length
    ·refine .inr ⟨w1 hlt,λσ' H'=>∃e',Ft X.K H₀ O₀ srs e' σ' H'∧forX (λd e0=>match g.put d e0 with
      | .ok e1=>exX T cf b e1
      | _=>none) (λd e0=>do let e1 ←g.put d e0;exS T cf b e1) (ds.drop (i+1)) e'=some (c,d),λσ' H' n=>⟨ds.length - (i+1),by lia,rfl,hlt,n⟩,λv H' y=>?_⟩
     obtain⟨s3,r3⟩:=w3 v H' _ (List.getElem?_eq_getElem hlt) y
     rw[List.drop_eq_getElem_cons hlt,forX] at ev2
     cases hp:g.put ds[i] e' with
     | ok e3 =>
      refine⟨O2,own2,e',_,e3,F2.grow s3,r3,hp,λσ' own' _ F'=>?_⟩
      simp only[hp] at ev2
      cases hx:exX T cf b e3 with
      | some z =>
       rw[hx] at ev2
       cases ev2
       exact .inr ⟨O2,own',e3,c,d,F',hx,k⟩
      | none =>
       rw[hx] at ev2
       simp only[Res.ok_bind] at ev2
       cases hs:exS T cf b e3 with
       | ok o1 =>
        rw[hs] at ev2
        refine .inl ⟨srs,e3,o1,⟨O2,own',F',λt ht=>(t2 t ht).same s3⟩,hs,?_⟩
        cases o1 with
        | nx e4=>exact λσ'' H'' F''=>⟨e4,F'',ev2⟩
        | ct e4=>exact λσ'' H'' F''=>⟨e4,F'',ev2⟩
        | bk e4=>cases ev2
        | rt d fr=>cases ev2
       | err _ _=>rw[hs] at ev2;cases ev2
       | no=>rw[hs] at ev2;cases ev2
     | err _ _=>simp only[hp,Res.err_bind] at ev2;cases ev2
     | no=>simp only[hp,Res.no_bind] at ev2;cases ev2
    ·have e4:i=ds.length:=by lia
     subst e4
     rw[List.drop_length,forX] at ev2
     cases ev2
   | cons _ _=>exact nof h
  | _=>exact nof h
 | nil=>exact⟨noSX λe=>rfl,noBX λe=>rfl⟩
 | _=>exact⟨noSX λe=>rfl,noBX λe=>rfl⟩
end
end Tr
namespace Tr
open PySem PySem.Spec PyProof.Rows L2
set_option genInjectivity false in
structure DefT where
 nm:Str
 st:Stmt
 N:List Str
 ps:List Str
 body:S
 told:Option Told:=none
noncomputable def DefT.df (t:DefT):Df:=⟨t.N.length,t.ps.length,t.body,t.told⟩
noncomputable def fnScB (N P:List Str) (sc:Scope):Bool:=(sc.kind==.function)&&!sc.isCoroutine&&!sc.isGenerator&&nodupB N&&(N.take P.length==P)&&P.all (λx=>(sc.names.lookup x==some .local)||(sc.names.lookup x==some .cell))&&sc.names.all (λy=>!(y.2==.free))
theorem fnSc_of {N P:List Str} {sc:Scope} (h:fnScB N P sc=true):FnScope N P sc:=by
 simp only[fnScB,Bool.and_eq_true,List.all_eq_true,Bool.or_eq_true,Bool.not_eq_true',beq_iff_eq,beq_eq_false_iff_ne,ne_eq] at h
 obtain⟨⟨⟨⟨⟨⟨h1,h2⟩,h3⟩,h4⟩,h5⟩,h6⟩,h7⟩:=h
 exact⟨h1,h2,h3,nodup_of h4,h5,h6,h7⟩
noncomputable def DefT.okB (Tx:Txt) (t:DefT):Bool:=fnScB t.N t.ps (defScope t.st)&&(t.told.isSome||mB Tx t.body t.N (defScope t.st) (defBody t.st))
noncomputable def GlobK (K:PySem.W.Frag) (mg:Str→Option Value) (n:Str) (d:D):Prop:=∃v u,mg n=some u∧RelV v u∧∀H O,RD K H O d v
noncomputable def initB (f:Str) (ps N:List Str) (st:Stmt):Bool:=fnScB N ps (defScope st)&&(ps.length==2)&&(match defBody st with
 | [.Assign [.Attribute (.Name s _) g _] (.Name x _) _]=>(g==f)&&nameB N (defScope st) 0 s&&nameB N (defScope st) 1 x
 | _=>false)
noncomputable def IniK (K:PySem.W.Frag) (mg:Str→Option Value) (c:Str):Prop:=∃(C fI:Addr) (fd:FuncData) (ps N:List Str) (qual:Str) (st:Stmt),mg c=some (.ref C)∧cvK K c=.ref C∧InitCls K C fI "at" ∧ PySem.W.isFn K (.ref fI)=true∧Fun K "__init__" qual st fI fd∧Binds K fd ps []∧initB "at" ps N st=true
structure TextOk0 (K:PySem.W.Frag) (mg:Str→Option Value) (T:Tab) (Tx:Txt) (defs:List DefT):Prop where
 dn:Tx.dn=defs.map (·.nm)
 ok:defs.all (·.okB Tx)=true
 funs:∀t∈defs,∃f fd,Fun K t.nm t.nm t.st f fd∧mg t.nm=some (.ref f)∧Binds K fd t.ps []
 globs:∀g n,Tx.gn[g]?=some n→GlobK K mg n (T.glob g)
 blt:∀n∈bltNames,mg n=none
 tf:∀q∈Tx.tf,∃(a:Addr) (xs:List V),mg q.1=some (.ref a)∧(∀H,SqT K H a xs)∧xs.length=q.2.length∧∀(j f:Nat),q.2[j]?=some f→∃(ad:Addr) (t:DefT),xs[j]?=some (V.ref ad)∧mg t.nm=some (.ref ad)∧defs[f]?=some t
 ts:∀q∈Tx.ts,∃a:Addr,mg q.1=some (.ref a)∧ModS K a q.2
 cls:∀c∈Tx.cls,∃C,ClsIs K mg c C
 ini:∀c∈Tx.icl,IniK K mg c
noncomputable def ToldOk (K:PySem.W.Frag) (mg:Str→Option Value) (T:Tab) (defs:List DefT) (t:DefT):Prop:=∀(P:Program) (w:World) (base:Heap) (n i:Nat) (f:Addr) (fd:FuncData),defs[i]?=some t→Fun K t.nm t.nm t.st f fd →
 (∀i t,defs[i]?=some t→∀f fd,Fun K t.nm t.nm t.st f fd→FnOk P w K mg base (CXE P w) (n+2) f fd t.ps (spD K (callF T (defs.map DefT.df) n i) (T.fresh i))) →
 FnOk P w K mg base (CXE P w) (n+1+2) f fd t.ps (spD K (callF T (defs.map DefT.df) (n+1) i) (T.fresh i))
set_option genInjectivity false in
structure TextOk (K:PySem.W.Frag) (mg:Str→Option Value) (T:Tab) (Tx:Txt) (defs:List DefT):Prop extends TextOk0 K mg T Tx defs where
 told:∀t∈defs,∀td,t.told=some td→ToldOk K mg T defs t
theorem fun_okE {P:Program} {w:World} {K:PySem.W.Frag} {mg:Str→Option Value} {base:Heap} {x qual:Str} {st:Stmt} {f:Addr} {fd:FuncData} {N ps:List Str} {k:Nat} {sp:Sp} (F:Fun K x qual st f fd) (S:FnScope N ps (defScope st)) (len:∀vs H Q E,sp vs H Q E→vs.length=ps.length)
 (hbody:∀(cdv:Value) (A:Around) (outer:List Env) (s:Shared) (H:Hp) (vs:List V) (Q:VK) (E:XK),Room k (A.deeper (envOfC qual (defScope st) s.heap.objs.size f cdv))→sp vs H Q E →
  ∃t,PSs (cxOf (CXE P w) P w K mg base N qual (defScope st) f cdv A outer s H E) (defBody st) t∧t { nx:=λ_ H'=>Q .non H',rt:=Q } (start N vs) H):FnOk P w K mg base (CXE P w) (k+1) f fd ps sp:=by
 obtain⟨oc,od,kV,doc,pm,an,cdv,ct,osl,rfl,lk,hcd⟩:=F.ex
 exact fn_of lk hcd S len λA outer s H vs Q E hr hsp=>hbody cdv A outer s H vs Q E hr hsp
theorem init_ok {P:Program} {w:World} {K:PySem.W.Frag} {mg:Str→Option Value} {base:Heap} {nm qual f:Str} {st:Stmt} {C fI:Addr} {fd:FuncData} {N ps:List Str} {k:Nat} (F:Fun K nm qual st fI fd) (hm:initB f ps N st=true) (FC:InitCls K C fI f):FnOk P w K mg base (CXE P w) (k+1) fI fd ps (spI C f):=by
 unfold initB at hm
 rw[Bool.and_eq_true,Bool.and_eq_true] at hm
 obtain⟨⟨m1,m2⟩,m3⟩:=hm
 refine fun_okE F (fnSc_of m1) (λvs H Q E ⟨e,t,y,ev,_⟩=>by rw[ev];exact (beq_iff_eq.mp m2).symm) (λcdv A outer s H vs Q E hr hz__=>?_)
 obtain⟨e,t,y,ev,he,q⟩:=hz__
 subst ev
 split at m3
 ·rename_i sn p1 g p2 x p3 p4 hb
  rw[Bool.and_eq_true,Bool.and_eq_true] at m3
  obtain⟨⟨m4,m5⟩,m6⟩:=m3
  obtain⟨a1,a2,a3,a4⟩:=name_of m5
  obtain⟨b1,b2,b3,b4⟩:=name_of m6
  cases beq_iff_eq.mp m4
  rw[hb]
  refine⟨_,pss_cons (ps_xfld (X:=cxOf (CXE P w) P w K mg base N qual (defScope st) fI cdv A outer s H E) FC (pe_var a1 a2 a3 a4) (pe_var b1 b2 b3 b4) rfl) pss_nil,?_⟩
  exact⟨y,rfl,.ref e,rfl,e,t,rfl,he,λdx hdx=>q dx hdx⟩
 ·cases m3
theorem ini_ok {P:Program} {w:World} {K:PySem.W.Frag} {mg:Str→Option Value} {base:Heap} {c:Str} {N:List Str} {qual:Str} {sc:Scope} {f:Addr} {cdv:Value} {A:Around} {outer:List Env} {s:Shared} {H:Hp} {E:XK} (h:IniK K mg c) (hr:Room 2 (A.deeper (envOfC qual sc s.heap.objs.size f cdv))):IniOk (cxOf (CXE P w) P w K mg base N qual sc f cdv A outer s H E) c:=by
 obtain⟨C,fI,fd,ps,M,ql,st,h1,h2,h3,h4,h5,h6,h7⟩:=h
 exact⟨C,fI,fd,1,ps,h1,h2,h3,h4,init_ok h5 h7 h3,hr,h6⟩
section
variable {P:Program} {w:World} {K:PySem.W.Frag} {mg:Str→Option Value} {base:Heap} {T:Tab} {Tx:Txt} {defs:List DefT}
theorem fm_start {H:Hp} {O:Addr→Prop} {N:List Str} {ds:List D} {vs:List V} (w:RDs K H O ds vs) (tr:∀a,O a→∃o,H a=some o) (n:Nat) (hn:n=N.length - vs.length) :
 Fm K H O H O (λ_=>none) (ds.map Sl.v++List.replicate n Sl.no) (start N vs) where
 len:=by
  unfold L2.start
  rw[List.length_append,List.length_append,List.length_map,List.length_map,List.length_replicate,List.length_replicate,w.length,hn,w.length]
 sl:=λi=>by
  by_cases hi:i < ds.length
  ·obtain⟨v,h1,h2⟩:=w.get (List.getElem?_eq_getElem hi)
   have e1:Nv.at (ds.map Sl.v++List.replicate n Sl.no) i=.v ds[i]:=by
    unfold Nv.at
    rw[List.getElem?_append_left (by rw[List.length_map];exact hi),List.getElem?_map,List.getElem?_eq_getElem hi];rfl
   have e2:stAt (start N vs) i=some v:=by
    unfold stAt L2.start
    rw[List.getElem?_append_left (by rw[List.length_map,w.length];exact hi),List.getElem?_map,h1];rfl
   rw[e1,e2]
   exact⟨v,rfl,h2⟩
  ·have e1:Nv.at (ds.map Sl.v++List.replicate n Sl.no) i=.no:=by
    unfold Nv.at
    rw[List.getElem?_append_right (by rw[List.length_map];lia),List.getElem?_replicate]
    split<;>rfl
   rw[e1];trivial
 inj:=λ_ _ _ h=>by cases h
 same:=Same.refl H
 sub:=λ_ h=>h
 trk0:=tr
 trk:=tr
 new:=λ_ _ h=>by cases h
theorem defs_ok (X:TextOk K mg T Tx defs):∀n i t,defs[i]?=some t→∀f fd,Fun K t.nm t.nm t.st f fd→FnOk P w K mg base (CXE P w) (n+2) f fd t.ps (spD K (callF T (defs.map DefT.df) n i) (T.fresh i))
 | 0,i,t,hi,f,fd,F=>by
  have no:∀vs H Q E,¬spD K (callF T (defs.map DefT.df) 0 i) (T.fresh i) vs H Q E:=λvs H Q E h=>by
   obtain⟨O,ds,_,_,⟨d,ev,_⟩ | ⟨c,d,ev,_⟩⟩:=h
   ·rw[callF] at ev;cases ev
   ·rw[callF] at ev;cases ev
  exact⟨λvs H Q E h=>absurd h (no vs H Q E),λA outer s H args us vs Q E _ _ _ _ h=>absurd h (no vs H Q E)⟩
 | n+1,i,t,hi,f,fd,F=>by
  have ih:=defs_ok X n
  cases ht:t.told with
  | some td=>exact X.told t (List.mem_of_getElem? hi) td ht P w base n i f fd hi F ih
  | none =>
  have hok:=List.all_eq_true.mp X.ok t (List.mem_of_getElem? hi)
  unfold DefT.okB at hok
  rw[ht,Option.isSome_none,Bool.false_or,Bool.and_eq_true] at hok
  have S:=fnSc_of hok.1
  have hdf:(defs.map DefT.df)[i]?=some ⟨t.N.length,t.ps.length,t.body,none⟩:=by rw[List.getElem?_map,hi];show some (DefT.df t)=_;unfold DefT.df;rw[ht]
  have lenOf:∀ds r,callF T (defs.map DefT.df) (n+1) i ds=r→r≠.no→ds.length=t.ps.length:=by
   intro ds r ev hr
   rw[callF,hdf] at ev
   by_cases c:(ds.length==t.df.pars)=true
   ·exact (by simpa using c:ds.length=t.df.pars)
   ·have c':(ds.length==t.df.pars)=false:=by simpa using c
    have ev:when (ds.length==t.df.pars) _=r:=ev
    rw[c'] at ev
    exact absurd ev.symm hr
  have open1:∀ds,ds.length=t.ps.length→callF T (defs.map DefT.df) (n+1) i ds=(match exX T (callF T (defs.map DefT.df) n) t.body (ds.map Sl.v++List.replicate (t.N.length - t.ps.length) Sl.no) with
   | some z=>.err z.1 z.2
   | none=>match exS T (callF T (defs.map DefT.df) n) t.body (ds.map Sl.v++List.replicate (t.N.length - t.ps.length) Sl.no) with
    | .ok (.rt x k)=>when (k||!T.fresh i) (.ok x)
    | .ok (.nx _)=>when (!T.fresh i) (.ok .non)
    | _=>.no):=by
   intro ds hl
   rw[callF,hdf]
   exact when_of (by simpa using hl) _
  have un:∀ds d,callF T (defs.map DefT.df) (n+1) i ds=.ok d→∃out,exS T (callF T (defs.map DefT.df) n) t.body (ds.map Sl.v++List.replicate (t.N.length - t.ps.length) Sl.no)=.ok out ∧
   ((∃k,out=.rt d k∧(k=true∨T.fresh i=false))∨(∃e,out=.nx e∧d=.non∧T.fresh i=false)):=by
   intro ds d ev
   rw[open1 ds (lenOf ds _ ev (λz=>by cases z))] at ev
   cases hx:exX T (callF T (defs.map DefT.df) n) t.body (ds.map Sl.v++List.replicate (t.N.length - t.ps.length) Sl.no) with
   | some z=>rw[hx] at ev;cases ev
   | none =>
    rw[hx] at ev
    cases hs:exS T (callF T (defs.map DefT.df) n) t.body (ds.map Sl.v++List.replicate (t.N.length - t.ps.length) Sl.no) with
    | ok out =>
     rw[hs] at ev
     refine⟨out,rfl,?_⟩
     cases out with
     | nx e =>
      obtain⟨c2,ev⟩:=when_ok ev
      cases ev
      exact .inr ⟨e,rfl,rfl,by simpa using c2⟩
     | rt x k =>
      obtain⟨c2,ev⟩:=when_ok ev
      cases ev
      exact .inl ⟨k,rfl,by simpa using c2⟩
     | bk e=>cases ev
     | ct e=>cases ev
    | err _ _=>rw[hs] at ev;cases ev
    | no=>rw[hs] at ev;cases ev
  have unX:∀ds c d,callF T (defs.map DefT.df) (n+1) i ds=.err c d→exX T (callF T (defs.map DefT.df) n) t.body (ds.map Sl.v++List.replicate (t.N.length - t.ps.length) Sl.no)=some (c,d):=by
   intro ds c d ev
   rw[open1 ds (lenOf ds _ ev (λz=>by cases z))] at ev
   cases hx:exX T (callF T (defs.map DefT.df) n) t.body (ds.map Sl.v++List.replicate (t.N.length - t.ps.length) Sl.no) with
   | some z=>rw[hx] at ev;cases ev;rfl
   | none =>
    rw[hx] at ev
    exfalso
    cases hs:exS T (callF T (defs.map DefT.df) n) t.body (ds.map Sl.v++List.replicate (t.N.length - t.ps.length) Sl.no) with
    | ok out =>
     rw[hs] at ev
     cases out with
     | nx e=>have ev:when (!T.fresh i) (Res.ok D.non)=Res.err c d:=ev;unfold when at ev;split at ev<;>cases ev
     | rt x k=>have ev:when (k||!T.fresh i) (Res.ok x)=Res.err c d:=ev;unfold when at ev;split at ev<;>cases ev
     | bk e=>cases ev
     | ct e=>cases ev
    | err _ _=>rw[hs] at ev;cases ev
    | no=>rw[hs] at ev;cases ev
  refine fun_okE F S (λvs H Q E h=>?_) (λcdv A outer s H vs Q E hr h=>?_)
  ·obtain⟨O,ds,_,rr,⟨d,ev,_⟩ | ⟨c,d,ev,_⟩⟩:=h
   ·rw[rr.length];exact lenOf ds _ ev (λz=>by cases z)
   ·rw[rr.length];exact lenOf ds _ ev (λz=>by cases z)
  ·have dfi:∀g t',defs[g]?=some t'→DefIs T (callF T (defs.map DefT.df) n) (cxOf (CXE P w) P w K mg base t.N t.nm (defScope t.st) f cdv A outer s H E).nox g t'.nm:=λg t' e=>by
    obtain⟨f',fd',F',m',b'⟩:=X.funs t' (List.mem_of_getElem? e)
    exact⟨n+2,f',fd',t'.ps,ih g t' e f' fd' F',hr,m',F'.kp,b'⟩
   have okx:OkX T (callF T (defs.map DefT.df) n) Tx (cxOf (CXE P w) P w K mg base t.N t.nm (defScope t.st) f cdv A outer s H E).nox :=
    ⟨rfl,hr.units,λg nm hg=>by
     rw[X.dn,List.getElem?_map] at hg
     cases e:defs[g]? with
     | none=>rw[e] at hg;cases hg
     | some t' =>
      rw[e] at hg
      cases hg
      exact dfi g t' e,λg nm hg=>X.globs g nm hg,X.blt,S.nd,λq hq=>by
     obtain⟨a,xs,h1,h2,h3,h4⟩:=X.tf q hq
     refine⟨a,xs,h1,h2,h3,λj g hg=>?_⟩
     obtain⟨ad,t',h5,h6,h7⟩:=h4 j g hg
     exact⟨ad,t'.nm,h5,h6,dfi g t' h7⟩,X.ts⟩
   have oks:OkS T (callF T (defs.map DefT.df) n) Tx (cxOf (CXE P w) P w K mg base t.N t.nm (defScope t.st) f cdv A outer s H E).nox:=⟨okx,rfl,λ_=>rfl⟩
   obtain⟨O,ds,tr,rr,⟨d,ev,k⟩ | ⟨c,d,ev,k⟩⟩:=h
   ·have hl:=lenOf ds _ ev (λz=>by cases z)
    obtain⟨out,e1,e2⟩:=un ds d ev
    refine⟨_,((wholeS t.body).2 _ _ oks hok.2 H O).nox,?_⟩
    refine⟨[],_,out,⟨O,_,fm_start (N:=t.N) rr tr (t.N.length - t.ps.length) (by rw[rr.length,hl]),λt ht=>by cases ht⟩,e1,?_⟩
    rcases e2 with ⟨fr,rfl,hf⟩ | ⟨e,rfl,rfl,hf⟩
    ·intro v H' s' r nl
     refine k v H' s' r λz=>nl ?_
     rcases hf with q | q
     ·exact q
     ·rw[z] at q;cases q
    ·rintro σ' H' ⟨O',own',F',_⟩
     exact k .non H' F'.same rfl λz=>by rw[z] at hf;cases hf
   ·have hl:=lenOf ds _ ev (λz=>by cases z)
    have oke:OkE T (callF T (defs.map DefT.df) n) Tx (cxOf (CXE P w) P w K mg base t.N t.nm (defScope t.st) f cdv A outer s H E) E :=
     ⟨oks,pass_xe,X.cls,λc hc=>ini_ok (X.ini c hc) (hr.mono (by lia))⟩
    refine⟨_,(wholeX t.body).2 _ E _ oke (.inl ⟨λpins σ H s h' a cls args I hm hE=>raise_xe I hm hE,rfl,λpins σ H s a t dx C I x1 x2 x3 hE=>raise_xeD I x1 rfl rfl rfl x2 x3 hE,PassesOwn.leaving⟩) hok.2 H O,?_⟩
    exact⟨O,_,_,c,d,fm_start (N:=t.N) rr tr (t.N.length - t.ps.length) (by rw[rr.length,hl]),unX ds c d ev,k⟩
theorem law_sp {i n:Nat} (hT:∀ns:List Int,ns.length≤63→callF T (defs.map DefT.df) n i [.lst (ns.map D.int)]=.ok (.bl true)) (K:PySem.W.Frag) (H:Hp) (a:Addr) (ns:List Int) (hl:ns.length≤63) (hS:SqL K H a (ns.map V.int)) :
 spD K (callF T (defs.map DefT.df) n i) (T.fresh i) [.ref a] H (λv _=>v=.bl true) (λ_ _ _=>False):=by
 refine⟨no,[.lst (ns.map D.int)],λa h=>h.elim,⟨.ref a,[],rfl,⟨a,ns.map V.int,rfl,?_,?_⟩,rfl⟩,.inl ⟨.bl true,hT ns hl,λv H' _ r _=>r⟩⟩
 ·rcases hS with z | z
  ·exact .inl ⟨λq=>q,z⟩
  ·exact .inr z
 ·clear hl hS
  induction ns with
  | nil=>exact rfl
  | cons i r ih=>exact⟨.int i,r.map V.int,rfl,rfl,ih⟩
end
end Tr
namespace Tr
open PySem PySem.Spec PyProof.Rows L2 PySem.W
structure ToldT where
 ct:Str
 on:Str
 ost:Stmt
 oN:List Str
 op:Str
 ocs:List Str
noncomputable def isiB (sc:Scope) (x c:Str):Expr→Bool
 | .Call (.Name n _) [.Name y _,.Name m _] [] _=>(n == "isinstance")&&(y==x)&&(m==c)&&glB sc n&&glB sc m&&dbgB m
 | _=>false
noncomputable def isisB (sc:Scope) (x:Str):List Str→List Expr→Bool
 | [c],[e]=>isiB sc x c e
 | c::cs,e::es=>isiB sc x c e&&isisB sc x cs es
 | _,_=>false
noncomputable def mOth (x:ToldT):Bool:=fnScB x.oN [x.op] (defScope x.ost)&&nameB x.oN (defScope x.ost) 0 x.op&&(match defBody x.ost with
 | [.Return (some (.BoolOp .Or es _)) _]=>isisB (defScope x.ost) x.op x.ocs es
 | _=>false)
theorem isiB_inv {sc:Scope} {x c:Str} {p:Expr} (h:isiB sc x c p=true):∃pn py pm pos,p=.Call (.Name "isinstance" pn) [.Name x py,.Name c pm] [] pos∧glB sc "isinstance" = true∧glB sc c=true∧dbgB c=true:=by
 unfold isiB at h
 split at h
 ·simp only[Bool.and_eq_true,beq_iff_eq] at h
  obtain⟨⟨⟨⟨⟨rfl,rfl⟩,rfl⟩,h1⟩,h2⟩,h3⟩:=h
  exact⟨_,_,_,_,rfl,h1,h2,h3⟩
 ·cases h
noncomputable def tIsi (i:Nat) (C:Addr) (b:Bool):TE:=λσ H Q=>∃a od,σ[i]?=some (some (.ref a))∧H a=some (ExcAt C a od)∧Q (.bl b) H
section
variable {X:Cx} {i:Nat} {x c:Str} {C:Addr} {b:Bool} {p:Expr}
theorem pe_isi {cv:V} {cu:Value} (hx:nameB X.N X.env.scope i x=true) (h0:X.mg "isinstance" = none) (hc:∀pm,PE X (.Name c pm) (tC cv)) (hcv:∀u,RelV cv u→u=cu) (Z:ExcCls X.K C) (e:PySem.W.kitOne X.K (.ref C) cu=some b) (hm:isiB X.env.scope x c p=true):PE X p (tIsi i C b):=by
 obtain⟨pn,py,pm,pos,rfl,g1,g2,d⟩:=isiB_inv hm
 obtain⟨n1,n2,n3,n4⟩:=name_of hx
 refine PE.imp (λσ H Q hq=>?_) (pe_callB (isi_exc Z hcv e) (gl_of g1) h0 PyProof.Rows.boot_isinstance (pa_cons (pe_var n1 n2 n3 n4) (pa_cons (hc pm) pa_nil (plain_star rfl)) (plain_star rfl)) (by decide) (by decide) (plain_star rfl) (plain_any rfl))
 obtain⟨a,od,h1,h2,q⟩:=hq
 exact⟨.ref a,h1,a,od,rfl,h2,q⟩
theorem pe_cls {D:Addr} (hg:glB X.env.scope c=true) (hd:dbgB c=true) (hm:X.mg c=some (.ref D)) (pm:Pos):PE X (.Name c pm) (tC (.ref D)):=pe_glob (gl_of hg) hm rfl (dbg_of hd)
theorem pe_isis {pos:Pos} (hx:nameB X.N X.env.scope i x=true) (h0:X.mg "isinstance" = none) (Z:ExcCls X.K C):∀(cs:List Str) (es:List Expr),(∀c∈cs,∃D,X.mg c=some (.ref D)∧PySem.W.kitOne X.K (.ref C) (.ref D)=some false)→isisB X.env.scope x cs es=true →
 PE X (.BoolOp .Or es pos) (tIsi i C false)
 | [],[],_,h=>by cases h
 | [],_::_,_,h=>by cases h
 | c::cs,[],_,h=>by cases cs<;>cases h
 | [c],[e],hc,h=>by
  obtain⟨D,m,k⟩:=hc c (by simp)
  have h:isiB X.env.scope x c e=true:=h
  obtain⟨_,_,_,_,_,_,g2,d⟩:=isiB_inv h
  exact pe_one (pe_isi hx h0 (pe_cls g2 d m) (λu r=>r) Z k h)
 | [c],e::e2::es,hc,h=>by
  have h:(isiB X.env.scope x c e&&isisB X.env.scope x [] (e2::es))=true:=h
  rw[Bool.and_eq_true] at h
  cases h.2
 | c::c2::cs,[e],hc,h=>by
  have h:(isiB X.env.scope x c e&&isisB X.env.scope x (c2::cs) [])=true:=h
  rw[Bool.and_eq_true] at h
  cases cs<;>cases h.2
 | c::c2::cs,e::e2::es,hc,h=>by
  obtain⟨D,m,k⟩:=hc c (by simp)
  have h:(isiB X.env.scope x c e&&isisB X.env.scope x (c2::cs) (e2::es))=true:=h
  rw[Bool.and_eq_true] at h
  obtain⟨_,_,_,_,_,_,g2,d⟩:=isiB_inv h.1
  refine PE.imp (λσ H Q hq=>?_) (pe_or (pe_isi hx h0 (pe_cls g2 d m) (λu r=>r) Z k h.1) (pe_isis hx h0 Z (c2::cs) (e2::es) (λy hy=>hc y (List.mem_cons_of_mem _ hy)) h.2))
  obtain⟨a,od,h1,h2,q⟩:=hq
  exact⟨a,od,h1,h2,false,rfl,by rw[if_neg Bool.false_ne_true];exact⟨a,od,h1,h2,q⟩⟩
end
noncomputable def spOth (C:Addr):Sp:=λvs H Q _=>∃a od,vs=[.ref a]∧H a=some (ExcAt C a od)∧Q (.bl false) H
theorem oth_ok {P:Program} {w:World} {K:PySem.W.Frag} {mg:Str→Option Value} {base:Heap} {x:ToldT} {C:Addr} {k:Nat} {f:Addr} {fd:FuncData} (hm:mOth x=true) (Z:ExcCls K C) (h0:mg "isinstance" = none)
 (hc:∀c∈x.ocs,∃D,mg c=some (.ref D)∧PySem.W.kitOne K (.ref C) (.ref D)=some false) (F:Fun K x.on x.on x.ost f fd):FnOk P w K mg base (CXE P w) (k+1) f fd [x.op] (spOth C):=by
 unfold mOth at hm
 rw[Bool.and_eq_true,Bool.and_eq_true] at hm
 obtain⟨⟨m1,m2⟩,m3⟩:=hm
 refine fun_okE F (fnSc_of m1) (λvs H Q E ⟨a,od,e,_⟩=>by rw[e];rfl) (λcdv A outer s H vs Q E hr hz__=>?_)
 obtain⟨a,od,e,ha,q⟩:=hz__
 subst e
 split at m3
 ·rename_i es bp rp hb
  rw[hb]
  refine⟨_,pss_cons (ps_ret (pe_isis (X:=cxOf (CXE P w) P w K mg base x.oN x.on (defScope x.ost) f cdv A outer s H E) (i:=0) m2 h0 Z x.ocs es hc m3)) pss_nil,?_⟩
  exact⟨a,od,rfl,ha,q⟩
 ·cases m3
noncomputable def isNon:D→Bool
 | .non=>true
 | _=>false
theorem isNon_of {d:D} (h:isNon d=true):d=.non:=by cases d<;>first | rfl | cases h
section
variable {T:Tab} {cf:Nat→List D→Res D}
theorem calm_nx:∀ {x:S} {e:Nv} {o:Out},calmS x=true→exS T cf x e=.ok o→o=.nx e
 | .nil,e,o,_,h=>by (first | rw[xS_nil] at h | rw[xS_cons] at h | rw[xS_ite] at h | rw[xS_exp] at h);cases h;rfl
 | .cons a r,e,o,c,h=>by
  have c:(calmS a&&calmS r)=true:=c
  rw[Bool.and_eq_true] at c
  (first | rw[xS_nil] at h | rw[xS_cons] at h | rw[xS_ite] at h | rw[xS_exp] at h)
  obtain⟨o1,h1,h2⟩:=Res.bind_ok h
  cases calm_nx c.1 h1
  exact calm_nx c.2 h2
 | .ite q a b,e,o,c,h=>by
  have c:(calmS a&&calmS b)=true:=c
  rw[Bool.and_eq_true] at c
  (first | rw[xS_nil] at h | rw[xS_cons] at h | rw[xS_ite] at h | rw[xS_exp] at h)
  obtain⟨x,_,h⟩:=Res.bind_ok h
  obtain⟨t,_,h⟩:=Res.bind_ok h
  cases t with
  | true=>exact calm_nx c.1 h
  | false=>exact calm_nx c.2 h
 | .exp x,e,o,c,h=>by
  (first | rw[xS_nil] at h | rw[xS_cons] at h | rw[xS_ite] at h | rw[xS_exp] at h)
  obtain⟨_,_,h⟩:=Res.bind_ok h
  cases h;rfl
theorem calm_no:∀ {x:S} {e:Nv},calmS x=true→(∀f ds c d,cf f ds≠.err c d)→exX T cf x e=none
 | .nil,e,_,_=>rfl
 | .cons a r,e,c,n=>by
  have c:(calmS a&&calmS r)=true:=c
  rw[Bool.and_eq_true] at c
  rw[xX_cons,calm_no c.1 n]
  dsimp only
  cases exS T cf a e with
  | ok o =>
   cases o with
   | nx e1=>exact calm_no c.2 n
   | _=>rfl
  | err _ _=>rfl
  | no=>rfl
 | .ite q a b,e,c,n=>by
  have c:(calmS a&&calmS b)=true:=c
  rw[Bool.and_eq_true] at c
  rw[xX_ite]
  cases evE T cf q e with
  | ok x =>
   dsimp only
   cases x.truth with
   | ok t =>
    cases t with
    | true=>exact calm_no c.1 n
    | false=>exact calm_no c.2 n
   | err _ _=>rfl
   | no=>rfl
  | err _ _=>rfl
  | no=>rfl
 | .exp x,e,c,n=>by
  cases x with
  | call f a =>
   rw[xX_call]
   cases evA T cf a e with
   | ok ds =>
    dsimp only
    cases h:cf f ds with
    | err c d=>exact absurd h (n _ _ _ _)
    | ok _=>rfl
    | no=>rfl
   | err _ _=>rfl
   | no=>rfl
  | _=>rfl
end
section
variable {K:PySem.W.Frag} {mg:Str→Option Value} {T:Tab} {Tx:Txt} {defs:List DefT}
end
section
variable {K:PySem.W.Frag} {mg:Str→Option Value} {T:Tab} {Tx:Txt} {defs:List DefT}
theorem cls_in {h:Heap} (X:K.In h) (G:h.Ns mainGlobals mg) {c:Str} {C:Addr} (a:PySem.W.nsIn K mainGlobals c=some (some (.ref C))) (e:excIn K C bmV newV=true):ClsIs K mg c C :=
 ⟨PySem.W.mg_of X G a,by unfold cvK;rw[a],e⟩
theorem cls_no {h:Heap} (X:K.In h) (G:h.Ns mainGlobals mg) {c:Str} {C D:Addr} (a:PySem.W.nsIn K mainGlobals c=some (some (.ref D))) (e:PySem.W.kitOne K (.ref C) (.ref D)=some false):∃D,mg c=some (.ref D)∧PySem.W.kitOne K (.ref C) (.ref D)=some false:=⟨D,PySem.W.mg_of X G a,e⟩
theorem kit_self {C:Addr}:PySem.W.kitOne K (.ref C) (.ref C)=some true:=by unfold PySem.W.kitOne;rw[if_pos (by simp)]
end
noncomputable def isM1:D→Bool
 | .int v=>v == -1
 | _=>false
theorem isM1_of {d:D} (h:isM1 d=true):d=.int (-1):=by
 cases d with
 | int v=>exact congrArg D.int (beq_iff_eq.mp h)
 | _=>cases h
structure ToldM (K:PySem.W.Frag) (mg:Str→Option Value) (td:Told) (C fI:Addr):Prop where
 c:mg td.c=some (.ref C)
 cv:cvK K td.c=.ref C
 ini:InitCls K C fI "at"
 ec:ExcCls K C
section
variable {K:PySem.W.Frag} {mg:Str→Option Value} {T:Tab} {Tx:Txt} {defs:List DefT}
theorem ini_in {h:Heap} (X:K.In h) (G:h.Ns mainGlobals mg) {c:Str} {C fI:Addr} (a:PySem.W.nsIn K mainGlobals c=some (some (.ref C))) (e1:initIn K C fI=true) (e2:findIn K (.ref C) "__setattr__" = some (some (.builtin "object.__setattr__"))) (e3:findIn K (.ref C) "at" = some none) (ec:ExcCls K C) {td:Told} (hc:td.c=c):ToldM K mg td C fI:=by
 subst hc
 exact⟨PySem.W.mg_of X G a,by unfold cvK;rw[a],⟨e1,e2,e3⟩,ec⟩
end
noncomputable def atB (sc:Scope) (x fld ty:Str):Expr→Bool
 | .Call (.Name n _) [.Attribute (.Name y _) f _,.Name m _] [] _=>(n == "isinstance")&&(y==x)&&(f==fld)&&(m==ty)&&glB sc n&&glB sc m
 | _=>false
theorem atB_inv {sc:Scope} {x fld ty:Str} {p:Expr} (h:atB sc x fld ty p=true):∃pn py pa pm pos,p=.Call (.Name "isinstance" pn) [.Attribute (.Name x py) fld pa,.Name ty pm] [] pos∧glB sc "isinstance" = true∧glB sc ty=true:=by
 unfold atB at h
 split at h
 ·simp only[Bool.and_eq_true,beq_iff_eq] at h
  obtain⟨⟨⟨⟨⟨rfl,rfl⟩,rfl⟩,rfl⟩,h1⟩,h2⟩:=h
  exact⟨_,_,_,_,_,rfl,h1,h2⟩
 ·cases h
noncomputable def toldW (Tx:Txt) (td:Told) (x:ToldT) (k:Nat) (N:List Str) (sc:Scope) (a:Stmt) (body:List Stmt) (cxn n wr n2 w1:Str) (r1:Stmt) (e1 e2:Expr) (o1 w4:Str) (e3 e4:Expr) (w5 fld:Str):Bool :=
 mS Tx (.asg (.one k) (.con .non)) N sc a&&mB Tx td.b N sc body&&calmS td.b&&(cxn==x.ct)&&glB sc cxn&&dbgB cxn&&(n2==n)&&nameB N sc (k+1) n&&(sc.names.lookup n==some .local)&&nameB N sc k wr&&(sc.names.lookup wr==some .local) &&
  (w1==wr)&&mS Tx (.ret (.neg (.con (.int 1)))) N sc r1&&isiB sc wr td.c e1&&isiB sc wr "ValueError" e2&&(o1==x.on)&&(w4==wr)&&glB sc o1&&dbgB o1&&(atB sc wr "at" "int" e3&&atB sc wr "at" "bool" e4&&(w5==wr)&&(fld == "at")&&td.num&&isNon td.ini&&isM1 td.thr)
structure ToldX (K:PySem.W.Frag) (mg:Str→Option Value) (td:Told) (x:ToldT) (CT C fI:Addr):Prop where
 ct:ClsIs K mg x.ct CT
 m:ToldM K mg td C fI
 mro:Tr.mroIn K C CT=true
 self:PySem.W.kitOne K (.ref C) (.ref C)=some true
 ve:PySem.W.kitOne K (.ref C) (.type "ValueError")=some true
 ocs:∀c∈x.ocs,∃D,mg c=some (.ref D)∧PySem.W.kitOne K (.ref C) (.ref D)=some false
 vm:mg "ValueError" = none
 oth:∃f fd,Fun K x.on x.on x.ost f fd∧mg x.on=some (.ref f)∧Binds K fd [x.op] []
noncomputable def tAt (i:Nat) (C:Addr) (b:Bool) (y:Int):TE:=λσ H Q=>∃a dx,σ[i]?=some (some (.ref a))∧H a=some (ExcAt C a (some dx))∧H dx=some (.xd [("at", .int y)])∧Q (.bl b) H
theorem pe_atT {X:Cx} {i:Nat} {x:Str} {C fI:Addr} {y:Int} {p:Expr} (t:Ty) (hx:nameB X.N X.env.scope i x=true) (h0:X.mg "isinstance" = none) (h1:X.mg (Str.ofString t.nm)=none) (Z:ExcCls X.K C) (FC:InitCls X.K C fI "at") (hm:atB X.env.scope x "at" (Str.ofString t.nm) p=true):PE X p (tAt i C (D.isTy (.int y) t) y):=by
 obtain⟨pn,py,pa,pm,pos,rfl,g1,g2⟩:=atB_inv hm
 obtain⟨n1,n2,n3,n4⟩:=name_of hx
 have ht:PE X (.Name (Str.ofString t.nm) pm) (tC (.ty t.nm)):=pe_bltn (gl_of g2) h1 (boot_ty t) rfl (by cases t<;>decide) (by cases t<;>decide)
 refine PE.imp (λσ H Q hq=>?_) (pe_callB (isi_D t) (gl_of g1) h0 PyProof.Rows.boot_isinstance (pa_cons (pe_xat (y:=y) Z FC n1 n2 n3 n4 rfl) (pa_cons ht pa_nil (plain_star rfl)) rfl) (by decide) (by decide) rfl (plain_any rfl))
 obtain⟨a,dx,e1,e2,e3,q⟩:=hq
 exact⟨a,dx,e1,e2,e3,no,.int y,.int y,rfl,.inl rfl,rfl,q⟩
section
variable {K:PySem.W.Frag} {mg:Str→Option Value} {T:Tab} {Tx:Txt} {defs:List DefT}
theorem told3 (X:TextOk0 K mg T Tx defs) {t:DefT} {td:Told} {x:ToldT} {CT C fI:Addr} {a:Stmt} {body:List Stmt} {cxn n' wr n2 w1:Str} {r1:Stmt} {e1 e2 e3 e4:Expr} {o1 w4 w5 fld:Str} {r2 r3:Stmt} {q0 q1 q2 q3 q4 q5 q6 q7 q8 q9 q10 q11 q12 q13 q14 q15 q16 q17 q18 q19 q20 q21 q9':Pos} {j1:Nat} (ht:t.told=some td) (hs:fnScB t.N t.ps (defScope t.st)=true) (hN2:t.N.length=t.ps.length+2)
 (hbody:defBody t.st=[a,.Try body [.ExceptHandler (some (.Name cxn q0)) (some n') [.Assign [.Name wr q1] (.Name n2 q2) q3] q4] [] [] q5,
  .If (.Compare (.Name w1 q6) [.Is] [.Constant .none j1 q7] q8) [r1] [] q9,.If (.BoolOp .Or [.UnaryOp .Not e1 q10,.UnaryOp .Not e2 q11,.Call (.Name o1 q12) [.Name w4 q13] [] q14] q15) [r2] [] q16,
  .If (.BoolOp .Or [.UnaryOp .Not e3 q17,e4] q18) [r3] [] q19,.Return (some (.Attribute (.Name w5 q20) fld q21)) q9'])
 (hm:toldW Tx td x t.ps.length t.N (defScope t.st) a body cxn n' wr n2 w1 r1 e1 e2 o1 w4 e3 e4 w5 fld=true) (ho:mOth x=true) (kk:ToldX K mg td x CT C fI):ToldOk K mg T defs t:=by
 intro P w base n i f fd hi F ih
 have S:=fnSc_of hs
 unfold toldW at hm
 simp only[Bool.and_eq_true,beq_iff_eq] at hm
 obtain⟨⟨⟨⟨⟨⟨⟨⟨⟨⟨⟨⟨⟨⟨⟨⟨⟨⟨⟨m1,m2⟩,m3⟩,m4⟩,m5⟩,m6⟩,m7⟩,m8⟩,m9⟩,m10⟩,m11⟩,m12⟩,m13⟩,m14⟩,m15⟩,m16⟩,m17⟩,m18⟩,m19⟩,⟨⟨⟨⟨⟨⟨m20,m21⟩,m22⟩,m23⟩,m24⟩,m25⟩,m26⟩⟩:=hm
 replace m25:=isNon_of m25
 replace m26:=isM1_of m26
 have hdf:(defs.map DefT.df)[i]?=some ⟨t.N.length,t.ps.length,t.body,some td⟩:=by rw[List.getElem?_map,hi];show some (DefT.df t)=_;unfold DefT.df;rw[ht]
 have op:∀ds r,callF T (defs.map DefT.df) (n+1) i ds=r→r≠.no→ds.length=t.ps.length∧T.fresh i=false ∧
  ((∃v,exX T (callF T (defs.map DefT.df) n) td.b (ds.map Sl.v++[.v .non,.no])=some (td.c,.int v)∧r=.ok (.int v)) ∨
   (∃o,exS T (callF T (defs.map DefT.df) n) td.b (ds.map Sl.v++[.v .non,.no])=.ok o∧r=.ok (.int (-1)))):=by
  intro ds r ev hr
  rw[callF,hdf] at ev
  by_cases c:(ds.length==t.ps.length)=true
  ·have ev:when (ds.length==t.ps.length) _=r:=ev
   rw[c,when_true] at ev
   refine⟨by simpa using c,?_⟩
   dsimp only at ev
   rw[m25] at ev
   cases hx:exX T (callF T (defs.map DefT.df) n) td.b (ds.map Sl.v++[.v .non,.no]) with
   | some z =>
    rw[hx] at ev
    dsimp only at ev
    cases q:(z.1==td.c&&!T.fresh i) with
    | false=>rw[q] at ev;exact absurd ev.symm hr
    | true =>
     rw[q,m24,when_true,if_pos rfl] at ev
     rw[Bool.and_eq_true] at q
     obtain⟨z1,z2⟩:=z
     have q1:z1=td.c:=by simpa using q.1
     subst q1
     cases z2 with
     | int v=>exact⟨by simpa using q.2,.inl ⟨v,rfl,ev.symm⟩⟩
     | _=>exact absurd ev.symm hr
   | none =>
    rw[hx] at ev
    dsimp only at ev
    cases hy:exS T (callF T (defs.map DefT.df) n) td.b (ds.map Sl.v++[.v .non,.no]) with
    | ok o =>
     rw[hy] at ev
     cases o with
     | nx e =>
      dsimp only at ev
      cases q:(!T.fresh i) with
      | false=>rw[q] at ev;exact absurd ev.symm hr
      | true=>rw[q,m26] at ev;exact⟨by simpa using q,.inr ⟨_,rfl,ev.symm⟩⟩
     | rt _ _=>exact absurd ev.symm hr
     | bk _=>exact absurd ev.symm hr
     | ct _=>exact absurd ev.symm hr
    | err _ _=>rw[hy] at ev;exact absurd ev.symm hr
    | no=>rw[hy] at ev;exact absurd ev.symm hr
  ·have c':(ds.length==t.ps.length)=false:=by simpa using c
   have ev:when (ds.length==t.ps.length) _=r:=ev
   rw[c'] at ev
   exact absurd ev.symm hr
 refine fun_okE F S (λvs H Q E h=>?_) (λcdv A outer s H vs Q E hr h=>?_)
 ·obtain⟨O,ds,_,rr,⟨d,ev,_⟩ | ⟨c,d,ev,_⟩⟩:=h
  ·rw[rr.length];exact (op ds _ ev (λz=>by cases z)).1
  ·rw[rr.length];exact (op ds _ ev (λz=>by cases z)).1
 ·have dfi:∀g t',defs[g]?=some t'→DefIs T (callF T (defs.map DefT.df) n) (cxOf (CXE P w) P w K mg base t.N t.nm (defScope t.st) f cdv A outer s H E).nox g t'.nm:=λg t' e=>by
   obtain⟨f',fd',F',m',b'⟩:=X.funs t' (List.mem_of_getElem? e)
   exact⟨n+2,f',fd',t'.ps,ih g t' e f' fd' F',hr,m',F'.kp,b'⟩
  have okx:OkX T (callF T (defs.map DefT.df) n) Tx (cxOf (CXE P w) P w K mg base t.N t.nm (defScope t.st) f cdv A outer s H E).nox :=
   ⟨rfl,hr.units,λg nm hg=>by
    rw[X.dn,List.getElem?_map] at hg
    cases e:defs[g]? with
    | none=>rw[e] at hg;cases hg
    | some t' =>
     rw[e] at hg
     cases hg
     exact dfi g t' e,λg nm hg=>X.globs g nm hg,X.blt,S.nd,λq hq=>by
    obtain⟨a,xs,h1,h2,h3,h4⟩:=X.tf q hq
    refine⟨a,xs,h1,h2,h3,λj g hg=>?_⟩
    obtain⟨ad,t',h5,h6,h7⟩:=h4 j g hg
    exact⟨ad,t'.nm,h5,h6,dfi g t' h7⟩,X.ts⟩
  have oks:OkS T (callF T (defs.map DefT.df) n) Tx (cxOf (CXE P w) P w K mg base t.N t.nm (defScope t.st) f cdv A outer s H E).nox:=⟨okx,rfl,λ_=>rfl⟩
  obtain⟨O,ds,tr,rr,⟨d,ev,k⟩ | ⟨c,d,ev,k⟩⟩:=h
  ·obtain⟨hl,fr,hab⟩:=op ds _ ev (λz=>by cases z)
   subst m4 m7 m12 m16 m17 m22 m23
   obtain⟨v1,v2,v3,v4⟩:=name_of m10
   obtain⟨v5,v6,v7,v8⟩:=name_of m8
   rw[hbody]
   have st1:exS T (callF T (defs.map DefT.df) n) (.asg (.one t.ps.length) (.con .non)) (ds.map Sl.v++List.replicate (t.N.length - t.ps.length) Sl.no)=.ok (.nx (ds.map Sl.v++[.v .non,.no])):=by
    have e:t.N.length - t.ps.length=2:=by lia
    rw[e,xS_asg]
    show Res.ok (Out.nx ((ds.map Sl.v++[Sl.no,Sl.no]).set t.ps.length (.v .non)))=_
    rw[←hl,List.set_append_right _ _ (by rw[List.length_map];exact Nat.le_refl _),List.length_map,Nat.sub_self]
    rfl
   have f0:Fm K H O H O (λ_=>none) (ds.map Sl.v++List.replicate (t.N.length - t.ps.length) Sl.no) (start t.N vs):=fm_start (N:=t.N) rr tr (t.N.length - t.ps.length) (by rw[rr.length,hl])
   have wat:∀ {H' O' own' σ'},Fm K H O H' O' own' (ds.map Sl.v++[.v .non,.no]) σ'→σ'[t.ps.length]?=some (some .non):=by
    intro H' O' own' σ' f1
    have:=f1.sl t.ps.length
    have e:Nv.at (ds.map Sl.v++[.v .non,.no]) t.ps.length=.v .non:=by
     unfold Nv.at
     rw[←hl,List.getElem?_append_right (by rw[List.length_map];exact Nat.le_refl _),List.length_map,Nat.sub_self];rfl
    rw[e] at this
    obtain⟨v,h1,h2⟩:=this
    cases (show v=V.non from h2)
    unfold stAt at h1
    cases q:σ'[t.ps.length]? with
    | none=>rw[q] at h1;cases h1
    | some z=>rw[q] at h1;exact congrArg some h1
   have pn:∀p,PE (cxOf (CXE P w) P w K mg base t.N t.nm (defScope t.st) f cdv A outer s H E) (.Name w5 p) (tVar t.ps.length):=λp=>pe_var v1 v2 v3 v4
   have p1:=ps_nox ((wholeS (.asg (.one t.ps.length) (.con .non))).1 (cxOf (CXE P w) P w K mg base t.N t.nm (defScope t.st) f cdv A outer s H E).nox a oks m1 H O)
   rcases hab with ⟨v,hx,hd⟩ | ⟨o,hx,hd⟩
   ·cases hd
    cases n with
    | zero =>
     rw[calm_no m3 (λf ds c d z=>by rw[callF] at z;cases z)] at hx
     cases hx
    | succ n' =>
    obtain⟨fo,fdo,Fo,mo,bo⟩:=kk.oth
    obtain⟨_,_,_,_,rfl,g1,g2,d1⟩:=isiB_inv m14
    obtain⟨_,_,_,_,rfl,g3,g4,d2⟩:=isiB_inv m15
    have h0:mg "isinstance" = none:=X.blt _ (by simp[bltNames])
    have oo:=oth_ok (P:=P) (w:=w) (base:=base) (k:=n'+2) ho kk.m.ec h0 kk.ocs Fo
    have hb:∀pins,PSs (tryCx (cxOf (CXE P w) P w K mg base t.N t.nm (defScope t.st) f cdv A outer s H E) pins (λev s'=>∃σ' H1 s1,Inv (cxOf (CXE P w) P w K mg base t.N t.nm (defScope t.st) f cdv A outer s H E) pins σ' H1 s1∧CXE P w (cxOf (CXE P w) P w K mg base t.N t.nm (defScope t.st) f cdv A outer s H E).stack H1 s1 (λcls od H'=>cls=cvK K td.c∧Same H H'∧PayOk (.int v) od H') ev s')) body (tX T (callF T (defs.map DefT.df) (n'+1)) K H O (λcls od H'=>cls=cvK K td.c∧Same H H'∧PayOk (.int v) od H') td.b):=λpins =>
     (wholeX td.b).2 (tryCx (cxOf (CXE P w) P w K mg base t.N t.nm (defScope t.st) f cdv A outer s H E) pins (λev s'=>∃σ' H1 s1,Inv (cxOf (CXE P w) P w K mg base t.N t.nm (defScope t.st) f cdv A outer s H E) pins σ' H1 s1∧CXE P w (cxOf (CXE P w) P w K mg base t.N t.nm (defScope t.st) f cdv A outer s H E).stack H1 s1 (λcls od H'=>cls=cvK K td.c∧Same H H'∧PayOk (.int v) od H') ev s')) (λcls od H'=>cls=cvK K td.c∧Same H H'∧PayOk (.int v) od H') body ⟨⟨⟨okx.calm,okx.roomy,okx.defs,okx.globs,okx.blt,okx.nd,okx.tf,okx.ts⟩,rfl,λ_=>rfl⟩,λps σ' H1 s1 ev s' I hc=>⟨σ',H1,s1,inv_untry I,hc⟩,X.cls,λc hc=>(ini_ok (X.ini c hc) (hr.mono (by lia)):IniOk (cxOf (CXE P w) P w K mg base t.N t.nm (defScope t.st) f cdv A outer s H E) c)⟩ (.inr m3) m2 H O
    have p2:=ps_try_x (X:=cxOf (CXE P w) P w K mg base t.N t.nm (defScope t.st) f cdv A outer s H E) (np:=q0) (hpos:=q4) (p1:=q1) (p2:=q2) (p3:=q3) (pos:=q5) rfl rfl rfl hb (λkin=>.of (kk.ct.own kin)) (gl_of m5) (dbg_of m6)
     (λkin cls od H' z=>⟨td.c,C,by rw[z.1,kk.m.cv],initW kin kk.m.c kk.m.ini.obj,mroHas_of kin kk.mro⟩) S.nd v5 m9 v1 m11 (by lia) v7 v8 rfl
    have pe1:=pe_isi (X:=cxOf (CXE P w) P w K mg base t.N t.nm (defScope t.st) f cdv A outer s H E) (i:=t.ps.length) m10 h0 (pe_cls g2 d1 kk.m.c) (λu r=>r) kk.m.ec kk.self m14
    have pe2:=pe_isi (X:=cxOf (CXE P w) P w K mg base t.N t.nm (defScope t.st) f cdv A outer s H E) (i:=t.ps.length) (cv:=.ty "ValueError") (cu:=.type "ValueError") m10 h0 (λpm=>pe_bltn (gl_of g4) kk.vm (by decide +kernel) rfl (by decide) (by decide)) (λu r=>r) kk.m.ec kk.ve m15
    have pe3:PE (cxOf (CXE P w) P w K mg base t.N t.nm (defScope t.st) f cdv A outer s H E) (.Call (.Name x.on q12) [.Name w5 q13] [] q14) (tCall (spOth C) [] E0 (tCons (tVar t.ps.length) tNil)) :=
     pe_call oo hr (gl_of m18) mo Fo.kp bo .nil passE0 (pa_cons (pn _) pa_nil (plain_star rfl)) (dbg_of m19) (plain_star rfl) (plain_any rfl)
    have pe4:=pe_atT (X:=cxOf (CXE P w) P w K mg base t.N t.nm (defScope t.st) f cdv A outer s H E) (y:=v) .int m10 h0 (X.blt _ (by simp[bltNames,Ty.nm])) kk.m.ec kk.m.ini m20
    have pe5:=pe_atT (X:=cxOf (CXE P w) P w K mg base t.N t.nm (defScope t.st) f cdv A outer s H E) (y:=v) .bool m10 h0 (X.blt _ (by simp[bltNames,Ty.nm])) kk.m.ec kk.m.ini m21
    obtain⟨_,_,_,_,_,rfl,_,_⟩:=atB_inv m20
    obtain⟨_,_,_,_,_,rfl,_,_⟩:=atB_inv m21
    refine⟨_,pss_cons p1 (pss_cons p2 (pss_cons (ps_if (pt_cmp (pc_isN (pn _))) pss_false pss_nil)
     (pss_cons (ps_if (pw_or (pt_not (pt_val pe1)) (pw_or (pt_not (pt_val pe2)) (pw_or1 (pt_val pe3)))).pt pss_false pss_nil)
     (pss_cons (ps_if (pw_or (pt_not (pt_val pe4)) (pw_or1 (pt_val pe5))).pt pss_false pss_nil)
     (pss_cons (ps_ret (pe_xat (y:=v) kk.m.ec kk.m.ini v1 v2 v3 v4 rfl)) pss_nil))))),?_⟩
    refine⟨[],_,_,⟨O,_,f0,λt ht=>by cases ht⟩,st1,λσ1 H1 ⟨O1,own1,f1,_⟩=>?_⟩
    refine⟨⟨O1,own1,_,td.c,.int v,f1,hx,λod H' s' hp=>⟨rfl,s',hp⟩⟩,λea C' od τ H' hE free hτ=>?_⟩
    obtain rfl:C'=C:=Value.ref.inj (hE.1.trans kk.m.cv)
    obtain⟨dx,hod,hdx⟩:=hE.2.2
    subst hod
    have hH:(L2.upd H' ea (ExcAt C' ea (some dx))) ea=some (ExcAt C' ea (some dx)):=by simp[L2.upd]
    have dne:dx≠ea:=λz=>by rw[z,free] at hdx;cases hdx
    have hdx2:(L2.upd H' ea (ExcAt C' ea (some dx))) dx=some (.xd [("at", .int v)]):=by rw[upd_ne dne];exact hdx
    have hsame:Same H (L2.upd H' ea (ExcAt C' ea (some dx))):=λb o q=>by
     have q2:=hE.2.1 b o q
     by_cases e:b=ea
     ·rw[e,free] at q2;cases q2
     ·simp[L2.upd,e,q2]
    refine⟨.ref ea,hτ,false,rfl,?_⟩
    refine⟨ea,some dx,hτ,hH,true,rfl,?_⟩
    refine⟨ea,some dx,hτ,hH,true,rfl,?_⟩
    refine⟨.ref ea,hτ,ea,some dx,rfl,hH,false,rfl,?_⟩
    refine⟨ea,dx,hτ,hH,hdx2,true,rfl,?_⟩
    refine⟨ea,dx,hτ,hH,hdx2,false,rfl,?_⟩
    exact⟨ea,dx,hτ,hH,hdx2,k (.int v) _ hsame rfl (λz=>by rw[fr] at z;cases z)⟩
   ·cases hd
    refine⟨_,pss_cons p1 (pss_cons (ps_try_ok ((wholeS td.b).2 (cxOf (CXE P w) P w K mg base t.N t.nm (defScope t.st) f cdv A outer s H E).nox body oks m2 H O))
     (pss_cons (ps_if (pt_cmp (pc_isN (pn _))) (pss_cons (ps_nox ((wholeS (.ret (.neg (.con (.int 1))))).1 (cxOf (CXE P w) P w K mg base t.N t.nm (defScope t.st) f cdv A outer s H E).nox r1 oks m13 H O)) pss_nil) pss_nil) pss_false)),?_⟩
    cases calm_nx m3 hx
    refine⟨[],_,_,⟨O,_,f0,λt ht=>by cases ht⟩,st1,λσ1 H1 ⟨O1,own1,f1,_⟩=>?_⟩
    refine⟨[],_,_,⟨O1,own1,f1,λt ht=>by cases ht⟩,hx,λσ2 H2 ⟨O2,own2,f2,_⟩=>?_⟩
    refine⟨.non,wat f2,true,rfl,?_⟩
    exact⟨[],_,.rt (.int (-1)) false,⟨O2,own2,f2,λt ht=>by cases ht⟩,rfl,λv H' s' r _=>k v H' s' r (λz=>by rw[fr] at z;cases z)⟩
  ·obtain⟨_,_,⟨_,_,z⟩ | ⟨_,_,z⟩⟩:=op ds _ ev (λz=>by cases z)
   ·cases z
   ·cases z
theorem text_at {t:DefT} {td:Told} {x:ToldT} {CT C fI:Addr} {a:Stmt} {body:List Stmt} {cxn n' wr n2 w1:Str} {r1:Stmt} {e1 e2 e3 e4:Expr} {o1 w4 w5 fld:Str} {r2 r3:Stmt} {q0 q1 q2 q3 q4 q5 q6 q7 q8 q9 q10 q11 q12 q13 q14 q15 q16 q17 q18 q19 q20 q21 q9':Pos} {j1:Nat} (X:TextOk0 K mg T Tx defs) (h:defs.filter (λt=>t.told.isSome)=[t]) (ht:t.told=some td) (hs:fnScB t.N t.ps (defScope t.st)=true) (hN2:t.N.length=t.ps.length+2)
 (hbody:defBody t.st=[a,.Try body [.ExceptHandler (some (.Name cxn q0)) (some n') [.Assign [.Name wr q1] (.Name n2 q2) q3] q4] [] [] q5,
  .If (.Compare (.Name w1 q6) [.Is] [.Constant .none j1 q7] q8) [r1] [] q9,.If (.BoolOp .Or [.UnaryOp .Not e1 q10,.UnaryOp .Not e2 q11,.Call (.Name o1 q12) [.Name w4 q13] [] q14] q15) [r2] [] q16,
  .If (.BoolOp .Or [.UnaryOp .Not e3 q17,e4] q18) [r3] [] q19,.Return (some (.Attribute (.Name w5 q20) fld q21)) q9'])
 (hm:toldW Tx td x t.ps.length t.N (defScope t.st) a body cxn n' wr n2 w1 r1 e1 e2 o1 w4 e3 e4 w5 fld=true) (ho:mOth x=true) (kk:ToldX K mg td x CT C fI):TextOk K mg T Tx defs :=
 ⟨X,λt' ht' td' e=>by
  have:t'∈defs.filter (λt=>t.told.isSome):=List.mem_filter.mpr ⟨ht',by rw[e];rfl⟩
  rw[h,List.mem_singleton] at this
  subst this
  exact told3 X ht hs hN2 hbody hm ho kk⟩
end
end Tr
namespace Tr
open PySem PySem.Spec PyProof.Rows L2
theorem len1 {P:List Value→Prop} (h:∀a0:Value,P [a0]):∀us:List Value,us.length=1→P us:=by
 intro us e
 cases us with
 | nil=>cases e
 | cons a r =>
  cases r with
  | nil=>exact h a
  | cons b r=>cases e
theorem len2 {P:List Value→Prop} (h:∀a0 a1:Value,P [a0,a1]):∀us:List Value,us.length=2→P us:=by
 intro us e
 cases us with
 | nil=>cases e
 | cons a r=>exact len1 (P:=λr=>P (a::r)) (λb=>h a b) r (by simpa using e)
theorem len3 {P:List Value→Prop} (h:∀a0 a1 a2:Value,P [a0,a1,a2]):∀us:List Value,us.length=3→P us:=by
 intro us e
 cases us with
 | nil=>cases e
 | cons a r=>exact len2 (P:=λr=>P (a::r)) (λb c=>h a b c) r (by simpa using e)
theorem len4 {P:List Value→Prop} (h:∀a0 a1 a2 a3:Value,P [a0,a1,a2,a3]):∀us:List Value,us.length=4→P us:=by
 intro us e
 cases us with
 | nil=>cases e
 | cons a r=>exact len3 (P:=λr=>P (a::r)) (λb c d=>h a b c d) r (by simpa using e)
theorem fun_in {K:PySem.W.Frag} {h:Heap} {mg:Str→Option Value} (X:K.In h) (G:h.Ns mainGlobals mg) {x:Str} {st:Stmt} {ps:List Str} {f:Addr} {oc:Value} {od an:Option Addr} {osl:Array (Option Value)} {kV doc pm cdv ct:Value}
 (a:PySem.W.nsIn K mainGlobals x=some (some (.ref f))) (l:K.lookup f=some ⟨oc,od,.func (PySem.W.fnOf x x (defArgs st) (defBody st) (defScope st) .none kV doc pm an cdv ct),osl⟩)
 (c:PySem.W.codeIn K cdv x=true) (k:PySem.W.keepIn K (.ref f)=true)
 (hb:∀(kV doc pm:Value) (an:Option Addr) (cdv ct:Value) (us:List Value),us.length=ps.length→bindArgs (PySem.W.fnOf x x (defArgs st) (defBody st) (defScope st) .none kV doc pm an cdv ct) ⟨us,[]⟩=pure (ps.zip us)) :
 ∃f fd,Fun K x x st f fd∧mg x=some (.ref f)∧Binds K fd ps [] :=
 ⟨f,_,fun_mk l c k,PySem.W.mg_of X G a,(fun_mk (st:=st) l c k).binds hb⟩
theorem iniK_in {K:PySem.W.Frag} {h:Heap} {mg:Str→Option Value} (X:K.In h) (G:h.Ns mainGlobals mg) {c qual:Str} {st:Stmt} {ps N:List Str} {C fI:Addr} {cd:ClassData} {sl osl:Array (Option Value)} {oc:Value} {dd od an:Option Addr} {kV doc pm cdv ct:Value}
 (a:PySem.W.nsIn K mainGlobals c=some (some (.ref C))) (lC:K.lookup C=some ⟨.type "type", dd,.cls cd,sl⟩) (n1:PySem.W.nsIn K cd.ns "__init__" = some (some (.ref fI)))
 (e1:initIn K C fI=true) (e2:PySem.W.findIn K (.ref C) "__setattr__" = some (some (.builtin "object.__setattr__"))) (e3:PySem.W.findIn K (.ref C) "at" = some none) (fn:PySem.W.isFn K (.ref fI)=true)
 (l:K.lookup fI=some ⟨oc,od,.func (PySem.W.fnOf "__init__" qual (defArgs st) (defBody st) (defScope st) .none kV doc pm an cdv ct),osl⟩) (c0:PySem.W.codeIn K cdv qual=true) (k:PySem.W.keepIn K (.ref fI)=true)
 (hb:∀(kV doc pm:Value) (an:Option Addr) (cdv ct:Value) (us:List Value),us.length=ps.length→bindArgs (PySem.W.fnOf "__init__" qual (defArgs st) (defBody st) (defScope st) .none kV doc pm an cdv ct) ⟨us,[]⟩=pure (ps.zip us))
 (hB:initB "at" ps N st=true):IniK K mg c :=
 ⟨C,fI,_,ps,N,qual,st,PySem.W.mg_of X G a,by unfold cvK;rw[a],⟨e1,e2,e3⟩,fn,⟨⟨oc,od,kV,doc,pm,an,cdv,ct,osl,rfl,l,c0⟩,k⟩,.all λus hl=>hb kV doc pm an cdv ct us hl,hB⟩
theorem glob_int {K:PySem.W.Frag} {h:Heap} {mg:Str→Option Value} (X:K.In h) (G:h.Ns mainGlobals mg) {x:Str} {i:Int} {t:Tok} (a:PySem.W.nsIn K mainGlobals x=some (some (.int i t))):GlobK K mg x (.int i) :=
 ⟨.int i,.int i t,PySem.W.mg_of X G a,⟨t,rfl⟩,λ_ _=>rfl⟩
theorem glob_str {K:PySem.W.Frag} {h:Heap} {mg:Str→Option Value} (X:K.In h) (G:h.Ns mainGlobals mg) {x:Str} {i:Str} {t:Tok} (a:PySem.W.nsIn K mainGlobals x=some (some (.str i t))):GlobK K mg x (.str i) :=
 ⟨.str i,.str i t,PySem.W.mg_of X G a,⟨t,rfl⟩,λ_ _=>rfl⟩
noncomputable def strVals:List Value→List Str→Bool
 | [],[]=>true
 | .str x _::r,y::q=>(x==y)&&strVals r q
 | _,_=>false
theorem strVals_ok:∀ {us:List Value} {ss:List Str},strVals us ss=true→Vals (ss.map V.str) us
 | [],[],_=>.nil
 | [],_::_,h=>nof h
 | .str x t::r,y::q,h=>by
  have h:=and2 (show ((x==y)&&strVals r q)=true from h)
  cases eq_of_beq h.1
  exact .cons ⟨t,rfl⟩ (strVals_ok h.2)
 | u::_,[],h=>by cases u<;>exact nof h
 | .none::_,_::_,h=>nof h
 | .bool _::_,_::_,h=>nof h
 | .int _ _::_,_::_,h=>nof h
 | .float _ _::_,_::_,h=>nof h
 | .bytes _ _::_,_::_,h=>nof h
 | .ref _::_,_::_,h=>nof h
 | .type _::_,_::_,h=>nof h
 | .builtin _::_,_::_,h=>nof h
 | .ellipsis::_,_::_,h=>nof h
 | .notImplemented::_,_::_,h=>nof h
theorem rds_strs {K:PySem.W.Frag} {H:Hp} {O:Addr→Prop}:∀ss:List Str,RDs K H O (ss.map D.str) (ss.map V.str)
 | []=>rfl
 | s::r=>⟨.str s,r.map V.str,rfl,rfl,rds_strs r⟩
theorem glob_tupS {K:PySem.W.Frag} {h:Heap} {mg:Str→Option Value} (X:K.In h) (G:h.Ns mainGlobals mg) {x:Str} {ss:List Str} {ds:List D} {ad:Addr} {dd:Option Addr} {its:Array Value} {n:Nat} {sl:Array (Option Value)}
 (a:PySem.W.nsIn K mainGlobals x=some (some (.ref ad))) (l:K.lookup ad=some ⟨.type "tuple", dd,.seq its n,sl⟩) (hz:its.size≤sizeLine) (hv:strVals its.toList ss=true) (hd:ds=ss.map D.str):GlobK K mg x (.tup ds):=by
 subst hd
 exact⟨.ref ad,.ref ad,PySem.W.mg_of X G a,rfl,λH O=>⟨ad,ss.map V.str,rfl,.inr ⟨_,its,n,l,rfl,rfl,hz,strVals_ok hv⟩,rds_strs ss⟩⟩
theorem modS_in {K:PySem.W.Frag} {h:Heap} {mg:Str→Option Value} (X:K.In h) (G:h.Ns mainGlobals mg) {x:Str} {ss:List Str} {ad:Addr} {its:Array Value} {n:Nat} {sl:Array (Option Value)}
 (a:PySem.W.nsIn K mainGlobals x=some (some (.ref ad))) (l:K.lookup ad=some ⟨.type "tuple", none,.seq its n,sl⟩) (hv:strVals its.toList ss=true):∃a:Addr,mg (x,ss).1=some (.ref a)∧ModS K a (x,ss).2 :=
 ⟨ad,PySem.W.mg_of X G a,_,its,n,l,rfl,rfl,rfl,strVals_ok hv⟩
noncomputable def Ents (K:PySem.W.Frag) (defs:List DefT):List Value→List Nat→Prop
 | [],[]=>True
 | u::us,f::fs=>(∃ad t m,u=.ref ad∧defs[f]?=some t∧t.nm=m∧PySem.W.nsIn K mainGlobals m=some (some (.ref ad)))∧Ents K defs us fs
 | _,_=>False
theorem ents_ok {K:PySem.W.Frag} {h:Heap} {mg:Str→Option Value} (X:K.In h) (G:h.Ns mainGlobals mg) {defs:List DefT}:∀ {us:List Value} {fs:List Nat},Ents K defs us fs →
 ∃xs:List V,Vals xs us∧xs.length=fs.length∧∀(j f:Nat),fs[j]?=some f→∃(ad:Addr) (t:DefT),xs[j]?=some (V.ref ad)∧mg t.nm=some (.ref ad)∧defs[f]?=some t
 | [],[],_=>⟨[],.nil,rfl,λj f h=>by simp at h⟩
 | [],_::_,h=>h.elim
 | _::_,[],h=>h.elim
 | u::us,f::fs,⟨⟨ad,t,m,h1,h2,h3,h4⟩,r⟩=>by
  obtain⟨xs,q1,q2,q3⟩:=ents_ok X G r
  subst h1 h3
  refine⟨.ref ad::xs,.cons rfl q1,by rw[List.length_cons,List.length_cons,q2],λj g hj=>?_⟩
  cases j with
  | zero=>simp at hj;subst hj;exact⟨ad,t,rfl,PySem.W.mg_of X G h4,h2⟩
  | succ j=>exact q3 j g (by simpa using hj)
theorem tab_in {K:PySem.W.Frag} {h:Heap} {mg:Str→Option Value} (X:K.In h) (G:h.Ns mainGlobals mg) {x:Str} {fs:List Nat} {defs:List DefT} {ad:Addr} {dd:Option Addr} {its:Array Value} {n:Nat} {sl:Array (Option Value)}
 (a:PySem.W.nsIn K mainGlobals x=some (some (.ref ad))) (l:K.lookup ad=some ⟨.type "tuple", dd,.seq its n,sl⟩) (hz:its.size≤sizeLine) (hr:Ents K defs its.toList fs) :
 ∃(a:Addr) (xs:List V),mg (x,fs).1=some (.ref a)∧(∀H,SqT K H a xs)∧xs.length=(x,fs).2.length∧∀(j f:Nat),(x,fs).2[j]?=some f→∃(ad:Addr) (t:DefT),xs[j]?=some (V.ref ad)∧mg t.nm=some (.ref ad)∧defs[f]?=some t:=by
 obtain⟨xs,q1,q2,q3⟩:=ents_ok X G hr
 exact⟨ad,xs,PySem.W.mg_of X G a,λH=>.inr ⟨_,its,n,l,rfl,rfl,hz,q1⟩,q2,q3⟩
theorem blt_none {K:PySem.W.Frag} {h:Heap} {mg:Str→Option Value} (X:K.In h) (G:h.Ns mainGlobals mg) {x:Str} (a:PySem.W.nsIn K mainGlobals x=some none):mg x=none:=PySem.W.mg_none_of X G a
theorem walkT {l:PySem.W.OpenLaw} {q:Program} {loose:List Str} {XP:(Str→Option Value)→Heap→Prop} {YP:World→Heap→Prop} {d:DefRec} {K:Params→PySem.W.Frag} {T:Tab} {Tx:Txt} {defs:List DefT} {i n:Nat} {tl:DefT} {x:Str}
 (hi:defs[i]?=some tl) (hps:tl.ps=[x]) (hnm:tl.nm=d.name)
 (hn:l.most=some 63) (hdf:d.params.defaults=[]) (hr:Room (n+2) callerA)
 (hT:∀ns:List Int,ns.length≤63→callF T (defs.map DefT.df) n i [.lst (ns.map D.int)]=.ok (.bl true))
 (hY:∀(w:World) (h:Heap),YP w h→(K w.params).In h)
 (hX:∀(w:World) (mg:Str→Option Value) (h:Heap),(K w.params).In h→h.Ns mainGlobals mg→TextOk (K w.params) mg T Tx defs)
 (hb:∀(kV doc pm:Value) (an:Option Addr) (cdv ct:Value) (u:Value),bindArgs (PySem.W.fnOf tl.nm tl.nm (defArgs tl.st) (defBody tl.st) (defScope tl.st) .none kV doc pm an cdv ct) ⟨[u],[]⟩=pure [(x,u)]) :
 PySem.W.WalkO q loose XP YP l.row.toRowW d [] (λf vs=>PySem.call f vs):=by
 refine L2.walk_of (K:=K) (n:=63) (k:=n+2) (x:=x) (CX:=λw=>CXE l.prog w) (sp:=λw=>spD (K w.params) (callF T (defs.map DefT.df) n i) (T.fresh i)) hn (by decide) hdf hr hY ?_ (λw H a ns hl _ hS=>law_sp hT (K w.params) H a ns hl hS) (λ_ _ _ _ _ h=>by obtain⟨_,_,_,_,_,_,_,_,_,_,_,_,_,_,_,_,_,z⟩:=h;exact z.elim)
 intro w mg fa h KX G hmg
 have tx:=hX w mg h KX G
 obtain⟨f,fd,F,m,_⟩:=tx.funs tl (List.mem_of_getElem? hi)
 rw[hnm,hmg] at m
 cases m
 refine⟨fd,λs u=>?_,λbase kb nb=>?_⟩
 ·obtain⟨oc,od,kV,doc,pm,an,cdv,ct,osl,rfl,lk,hcd⟩:=F.ex
  exact .of_eq (hb kV doc pm an cdv ct u)
 ·have:=defs_ok (P:=l.prog) (w:=w) (base:=base) tx n i tl hi fa fd F
  rw[hps] at this
  exact this
end Tr
namespace Tr
theorem all_cons {α:Type} {p:α→Prop} {a:α} {l:List α} (h:p a) (r:∀x∈l,p x):∀x∈a::l,p x:=List.forall_mem_cons.mpr ⟨h,r⟩
theorem all_nil {α:Type} {p:α→Prop}:∀x∈([]:List α),p x:=λ_ h=>by cases h
theorem gl_cons {α:Type} {p:Nat→α→Prop} {a:α} {l:List α} (h:p 0 a) (r:∀g n,l[g]?=some n→p (g+1) n):∀g n,(a::l)[g]?=some n→p g n
 | 0,n,e=>by simp at e;subst e;exact h
 | g+1,n,e=>r g n (by simpa using e)
theorem gl_nil {α:Type} {p:Nat→α→Prop}:∀g n,([]:List α)[g]?=some n→p g n:=λg n e=>by simp at e
end Tr
namespace Tr
open PySem
section
variable {T:Tab} {cf:Nat→List D→Res D} {e:Nv}
@[simp] theorem evE_var {i:Nat}:evE T cf (.var i) e=(e.at i).val:=id rfl
@[simp] theorem evE_rd {i:Nat}:evE T cf (.rd i) e=(e.at i).any:=id rfl
@[simp] theorem evE_con {d:D}:evE T cf (.con d) e=.ok d:=id rfl
@[simp] theorem evE_glob {g:Nat}:evE T cf (.glob g) e=.ok (T.glob g):=id rfl
@[simp] theorem evE_bin {o:Operator} {a b:E}:evE T cf (.bin o a b) e=(do let x ←evE T cf a e;let y ←evE T cf b e;D.bin o x y):=id rfl
@[simp] theorem evE_cmp {o:CmpOp} {a b:E}:evE T cf (.cmp o a b) e=(do let x ←evE T cf a e;let y ←evE T cf b e;D.cmp o x y):=id rfl
@[simp] theorem evE_and {a b:E}:evE T cf (.and a b) e=(do let x ←evE T cf a e;let k ←x.truth;if k then evE T cf b e else .ok x):=id rfl
@[simp] theorem evE_or {a b:E}:evE T cf (.or a b) e=(do let x ←evE T cf a e;let k ←x.truth;if k then .ok x else evE T cf b e):=id rfl
@[simp] theorem evE_not {a:E}:evE T cf (.not a) e=(do let x ←evE T cf a e;let k ←x.truth;.ok (.bl (!k))):=id rfl
@[simp] theorem evE_ife {c a b:E}:evE T cf (.ife c a b) e=(do let x ←evE T cf c e;let k ←x.truth;if k then evE T cf a e else evE T cf b e):=id rfl
@[simp] theorem evE_ix {a b:E}:evE T cf (.ix a b) e=(do let x ←evE T cf a e;let y ←evE T cf b e;D.ix x y):=id rfl
@[simp] theorem evE_sl {a lo hi:E}:evE T cf (.sl a lo hi) e=(do let x ←evE T cf a e;let l ←evE T cf lo e;let l ←l.part;let h ←evE T cf hi e;let h ←h.part;D.sl x l h):=id rfl
@[simp] theorem evE_omit:evE T cf .omit e=.ok .non:=id rfl
@[simp] theorem evE_tup {a:E}:evE T cf (.tup a) e=(do let xs ←evA T cf a e;.ok (.tup xs)):=id rfl
@[simp] theorem evE_lst {a:E}:evE T cf (.lst a) e=(do let xs ←evA T cf a e;.ok (.lst xs)):=id rfl
@[simp] theorem evE_call {f:Nat} {a:E}:evE T cf (.call f a) e=(do let xs ←evA T cf a e;cf f xs):=id rfl
@[simp] theorem evE_bt {b:Bt} {a:E}:evE T cf (.bt b a) e=(do let xs ←evA T cf a e;b.run xs):=id rfl
@[simp] theorem evE_mth {m:Mt} {a b:E}:evE T cf (.mth m a b) e=(do let x ←evE T cf a e;let y ←evE T cf b e;m.run x y):=id rfl
@[simp] theorem evE_callT {fs:List Nat} {k a:E}:evE T cf (.callT fs k a) e=(do let x ←evE T cf k e;let f ←tabAt fs x;let xs ←evA T cf a e;cf f xs):=id rfl
@[simp] theorem evE_gidx {ss:List Str} {a:E}:evE T cf (.gidx ss a) e=(do let x ←evE T cf a e;idxS ss x):=id rfl
@[simp] theorem evE_lset {a:E}:evE T cf (.lset a) e=(do let x ←evE T cf a e;x.setN):=id rfl
theorem setN_of {x:D} {ks:List (Sum Int Str)} (h:x.keys=.ok ks):x.setN=when (decide (ks.length+1 < 4096)) (.ok (.int (metD ks).length)):=by
 unfold D.setN
 rw[h]
noncomputable def negR:D→Res D
 | .int i=>.ok (.int (-i))
 | _=>.no
@[simp] theorem neg_int {i:Int}:negR (.int i)=.ok (.int (-i)):=id rfl
@[simp] theorem evE_neg {a:E}:evE T cf (.neg a) e=(evE T cf a e>>=negR):=by
 rw[xE_neg]
 cases evE T cf a e with
 | ok x=>cases x<;>rfl
 | err _ _=>rfl
 | no=>rfl
noncomputable def thenC (r:Res D):D→Res D
 | .bl true=>r
 | .bl false=>.ok (.bl false)
 | _=>.no
@[simp] theorem thenC_bl {r:Res D} {b:Bool}:thenC r (.bl b)=if b=true then r else .ok (.bl false):=by cases b<;>rfl
@[simp] theorem evE_chain {o p:CmpOp} {a b c:E}:evE T cf (.chain o p a b c) e=(do
 let x ←evE T cf a e
 let y ←evE T cf b e
 let w ←D.cmp o x y
 thenC (do let z ←evE T cf c e;D.cmp p y z) w):=by
 rw[xE_chain]
 cases evE T cf a e with
 | ok x =>
  cases evE T cf b e with
  | ok y =>
   show (D.cmp o x y>>=_)=(D.cmp o x y>>=_)
   cases D.cmp o x y with
   | ok w =>
    cases w with
    | bl b=>cases b<;>rfl
    | _=>rfl
   | err _ _=>rfl
   | no=>rfl
  | err _ _=>rfl
  | no=>rfl
 | err _ _=>rfl
 | no=>rfl
noncomputable def compF (T:Tab) (cf:Nat→List D→Res D) (own:Nat) (caps:List Nat) (g:G) (elt cond:E) (e:Nv) (d:D):Res (Option D):=do
 let e1 ←g.put d (compEnv own caps e)
 let c ←evE T cf cond e1
 let k ←c.truth
 if k then do let y ←evE T cf elt e1;.ok (some y) else .ok none
@[simp] theorem evE_comp {own:Nat} {caps:List Nat} {g:G} {elt src cond:E}:evE T cf (.comp own caps g elt src cond) e=(do
 let ds ←evI T cf src e
 let ys ←compL (compF T cf own caps g elt cond e) ds
 when (decide (ds.length≤big)) (.ok (.lst ys))):=id rfl
@[simp] theorem evA_nil:evA T cf .anil e=.ok []:=id rfl
@[simp] theorem evA_cons {a r:E}:evA T cf (.acons a r) e=(do let x ←evE T cf a e;let q ←evA T cf r e;when (decide (q.length < 1000)) (.ok (x::q))):=id rfl
@[simp] theorem evI_seq {a:E}:evI T cf (.seq a) e=(do let x ←evE T cf a e;x.items):=id rfl
noncomputable def rngR:D→Res (List D)
 | .int n=>when (small62 n) (.ok (rangeD 0 n.toNat))
 | _=>.no
noncomputable def enumR:D→Res (List D)
 | .lst ds=>.ok (enumD 0 ds)
 | .tup ds=>.ok (enumD 0 ds)
 | _=>.no
@[simp] theorem evI_rng {a:E}:evI T cf (.rng a) e=(do let x ←evE T cf a e;rngR x):=by
 rw[xI_rng]
 cases evE T cf a e with
 | ok x=>cases x<;>rfl
 | err _ _=>rfl
 | no=>rfl
@[simp] theorem evI_enum {a:E}:evI T cf (.enum a) e=(do let x ←evE T cf a e;enumR x):=by
 rw[xI_enum]
 cases evE T cf a e with
 | ok x=>cases x<;>rfl
 | err _ _=>rfl
 | no=>rfl
theorem rng_ok {n:Nat} (h:n < 4611686018427387904):rngR (.int n)=.ok (rangeD 0 n):=by
 show when (small62 n) _=_
 rw[when_of (by unfold small62;rw[decide_eq_true (by lia),decide_eq_true (by lia)];rfl)]
 simp
noncomputable def bodyF (T:Tab) (cf:Nat→List D→Res D) (g:G) (b:S) (d:D) (e0:Nv):Res Out:=do let e1 ←g.put d e0;exS T cf b e1
noncomputable def thenS (T:Tab) (cf:Nat→List D→Res D) (r:S):Out→Res Out
 | .nx e1=>exS T cf r e1
 | o=>.ok o
@[simp] theorem thenS_nx {r:S}:thenS T cf r (.nx e)=exS T cf r e:=id rfl
@[simp] theorem thenS_rt {r:S} {d:D} {k:Bool}:thenS T cf r (.rt d k)=.ok (.rt d k):=id rfl
@[simp] theorem exS_nil:exS T cf .nil e=.ok (.nx e):=id rfl
@[simp] theorem exS_cons {a r:S}:exS T cf (.cons a r) e=(exS T cf a e>>=thenS T cf r):=by
 rw[xS_cons]
 cases exS T cf a e with
 | ok o=>cases o<;>rfl
 | err _ _=>rfl
 | no=>rfl
@[simp] theorem exS_ret {x:E}:exS T cf (.ret x) e=(do let d ←evE T cf x e;.ok (.rt d (freshE T x&&!tupL d))):=id rfl
@[simp] theorem tupL_lst {a:List D}:tupL (.lst a)=false:=id rfl
@[simp] theorem tupL_str {a:Str}:tupL (.str a)=false:=id rfl
@[simp] theorem tupL_ttup {a r:List D}:tupL (.tup (.tup a::r))=false:=id rfl
@[simp] theorem exS_retO {i:Nat}:exS T cf (.retO i) e=(do let a ←(e.at i).ownA;.ok (.rt a true)):=id rfl
@[simp] theorem exS_asg {g:G} {x:E}:exS T cf (.asg g x) e=(do let d ←evE T cf x e;let e1 ←g.put d e;.ok (.nx e1)):=id rfl
noncomputable def setO (k:Bool) (i:Nat) (e:Nv):D→Res Out
 | .lst a=>when k (.ok (.nx (e.set i (.o (.lst a)))))
 | _=>.no
@[simp] theorem setO_ok {i:Nat} {a:List D}:setO true i e (.lst a)=.ok (.nx (e.set i (.o (.lst a)))):=id rfl
@[simp] theorem exS_asgO {i:Nat} {x:E}:exS T cf (.asgO i x) e=(do let d ←evE T cf x e;setO (freshE T x) i e d):=by
 rw[xS_asgO]
 cases evE T cf x e with
 | ok o=>cases o<;>rfl
 | err _ _=>rfl
 | no=>rfl
@[simp] theorem exS_sealed {i:Nat}:exS T cf (.sealed i) e=(do let a ←(e.at i).ownA;.ok (.nx (e.set i (.v a)))):=id rfl
@[simp] theorem exS_ite {c:E} {a b:S}:exS T cf (.ite c a b) e=(do let x ←evE T cf c e;let k ←x.truth;if k then exS T cf a e else exS T cf b e):=id rfl
@[simp] theorem exS_for {g:G} {src:E} {b:S}:exS T cf (.forS g src b) e=(do let ds ←evI T cf src e;forL (bodyF T cf g b) ds e):=id rfl
@[simp] theorem exS_app {i:Nat} {x:E}:exS T cf (.app i x) e=(do
 let d ←evE T cf x e
 let a ←(e.at i).own
 when (decide (a.length < big)) (.ok (.nx (e.set i (.o (.lst (a++[d]))))))):=id rfl
@[simp] theorem exS_exp {x:E}:exS T cf (.exp x) e=(do let _ ←evE T cf x e;.ok (.nx e)):=id rfl
@[simp] theorem exS_ins {i:Nat} {k x:E}:exS T cf (.ins i k x) e=(do
 let y ←evE T cf k e
 let d ←evE T cf x e
 let a ←(e.at i).own
 let j ←insIx a.length y
 .ok (.nx (e.set i (.o (.lst (a.take j++d::a.drop j)))))):=id rfl
theorem insIx_ok {n j:Nat} (h:j≤n) (hn:n < big):insIx n (.int (j:Int))=.ok j:=by
 show when (decide ((0:Int)≤(j:Int))&&decide ((j:Int)≤(n:Int))&&decide (n < big)) (.ok (j:Int).toNat)=_
 rw[when_of (by rw[Bool.and_eq_true,Bool.and_eq_true,decide_eq_true_eq,decide_eq_true_eq,decide_eq_true_eq];exact⟨⟨by lia,by lia⟩,hn⟩),Int.toNat_natCast]
@[simp] theorem fresh_lst {a:E}:freshE T (.lst a)=true:=id rfl
@[simp] theorem fresh_add {a b:E}:freshE T (.bin .Add a b)=true:=id rfl
@[simp] theorem fresh_comp {n:Nat} {c:List Nat} {g:G} {x y z:E}:freshE T (.comp n c g x y z)=true:=id rfl
@[simp] theorem fresh_list {a:E}:freshE T (.bt .list a)=true:=id rfl
end
@[simp] theorem when_if {α:Type} {c:Bool} (h:c=true) (r:Res α):when c r=r:=when_of h r
@[simp] theorem at_zero {x:Sl} {r:List Sl}:Nv.at (x::r) 0=x:=id rfl
@[simp] theorem at_succ {x:Sl} {r:List Sl} {i:Nat}:Nv.at (x::r) (i+1)=Nv.at r i:=id rfl
@[simp] theorem val_v {d:D}:(Sl.v d).val=.ok d:=id rfl
@[simp] theorem any_o {d:D}:(Sl.o d).any=.ok d:=id rfl
@[simp] theorem own_o {a:List D}:(Sl.o (.lst a)).own=.ok a:=id rfl
@[simp] theorem ownA_o {d:D}:(Sl.o d).ownA=.ok d:=id rfl
@[simp] theorem put_one {i:Nat} {d:D} {e:Nv}:G.put (.one i) d e=.ok (e.set i (.v d)):=id rfl
@[simp] theorem put_many {is:List Nat} {ds:List D} {e:Nv}:G.put (.many is) (.tup ds) e=puts is ds e:=id rfl
@[simp] theorem puts_nil {e:Nv}:puts [] [] e=.ok e:=id rfl
@[simp] theorem puts_cons {i:Nat} {is:List Nat} {d:D} {ds:List D} {e:Nv}:puts (i::is) (d::ds) e=puts is ds (e.set i (.v d)):=id rfl
@[simp] theorem truth_bl {b:Bool}:(D.bl b).truth=.ok b:=id rfl
@[simp] theorem bin_add {i j:Int}:D.bin .Add (.int i) (.int j)=.ok (.int (i+j)):=id rfl
@[simp] theorem bin_sub {i j:Int}:D.bin .Sub (.int i) (.int j)=.ok (.int (i - j)):=id rfl
@[simp] theorem bin_mulL {i j:Int} (h:-(2^64) < i∧i < 2^64):D.bin .Mult (.int i) (.int j)=.ok (.int (i*j)):=by
 show when (small64 i||small64 j) _=_
 rw[when_of]
 unfold small64
 rw[decide_eq_true h.1,decide_eq_true h.2];rfl
@[simp] theorem bin_mod {i j:Int} (h:0 < j):D.bin .Mod (.int i) (.int j)=.ok (.int (i % j)):=by
 show when (decide (0 < j)) _=_
 rw[when_of (decide_eq_true h)]
@[simp] theorem bin_fdiv {i j:Int} (h:0 < j∧j < 1073741824):D.bin .FloorDiv (.int i) (.int j)=.ok (.int (i / j)):=by
 show when (decide (0 < j)&&decide (j < 1073741824)) _=_
 rw[when_of]
 rw[decide_eq_true h.1,decide_eq_true h.2];rfl
theorem bin_pow {i j:Int} (h:0≤j∧j≤1000000∧i.natAbs < 2^64):D.bin .Pow (.int i) (.int j)=.ok (.int (i^j.toNat)):=by
 show when (decide (0≤j)&&decide (j≤1000000)&&decide (i.natAbs < 2^64)) _=_
 rw[when_of]
 rw[decide_eq_true h.1,decide_eq_true h.2.1,decide_eq_true h.2.2];rfl
@[simp] theorem bin_pow9:D.bin .Pow (.int 10) (.int 9)=.ok (.int 1000000000):=bin_pow ⟨by decide,by decide,by decide⟩
@[simp] theorem cmp_lt {i j:Int}:D.cmp .Lt (.int i) (.int j)=.ok (.bl (decide (i < j))):=id rfl
@[simp] theorem cmp_le {i j:Int}:D.cmp .LtE (.int i) (.int j)=.ok (.bl (decide (i≤j))):=id rfl
@[simp] theorem cmp_eqi {i j:Int}:D.cmp .Eq (.int i) (.int j)=.ok (.bl (i==j)):=id rfl
@[simp] theorem cmp_nei {i j:Int}:D.cmp .NotEq (.int i) (.int j)=.ok (.bl (!(i==j))):=id rfl
@[simp] theorem cmp_is {a:D}:D.cmp .Is a .non=.ok (.bl a.isNon):=id rfl
@[simp] theorem isNon_non:D.non.isNon=true:=id rfl
@[simp] theorem isNon_int {i:Int}:(D.int i).isNon=false:=id rfl
@[simp] theorem isNon_tup {i:List D}:(D.tup i).isNon=false:=id rfl
@[simp] theorem run_len_l {a:List D}:Bt.run .len [.lst a]=.ok (.int a.length):=id rfl
@[simp] theorem run_len_t {a:List D}:Bt.run .len [.tup a]=.ok (.int a.length):=id rfl
@[simp] theorem run_tup_l {a:List D}:Bt.run .tuple [.lst a]=.ok (.tup a):=id rfl
@[simp] theorem run_lst_l {a:List D}:Bt.run .list [.lst a]=.ok (.lst a):=id rfl
@[simp] theorem run_int_b {b:Bool}:Bt.run .int [.bl b]=.ok (.int (b2z b)):=id rfl
@[simp] theorem part_int {i:Int}:(D.int i).part=.ok (some i):=id rfl
@[simp] theorem part_non:D.non.part=.ok none:=id rfl
@[simp] theorem sl_l {a:List D} {lo hi:Option Int}:D.sl (.lst a) lo hi=.ok (.lst (cut a lo hi)):=id rfl
@[simp] theorem sl_t {a:List D} {lo hi:Option Int}:D.sl (.tup a) lo hi=.ok (.tup (cut a lo hi)):=id rfl
@[simp] theorem items_l {a:List D}:(D.lst a).items=.ok a:=id rfl
@[simp] theorem items_t {a:List D}:(D.tup a).items=.ok a:=id rfl
theorem ix_l {a:List D} {i:Nat} {d:D} (h:a[i]?=some d):D.ix (.lst a) (.int i)=.ok d:=by
 have hi:=(List.getElem?_eq_some_iff.mp h).1
 show Res.of (atI a i)=_
 unfold atI ixN
 rw[if_pos (Int.natCast_nonneg i),if_pos (by lia)]
 simp[h,Res.of]
theorem ix_t {a:List D} {i:Nat} {d:D} (h:a[i]?=some d):D.ix (.tup a) (.int i)=.ok d:=by
 have hi:=(List.getElem?_eq_some_iff.mp h).1
 show Res.of (atI a i)=_
 unfold atI ixN
 rw[if_pos (Int.natCast_nonneg i),if_pos (by lia)]
 simp[h,Res.of]
theorem callF_rt {T:Tab} {D:List Df} {n f:Nat} {ds:List Tr.D} {d:Df} {x:Tr.D} {k:Bool} (h:D[f]?=some d) (hl:ds.length=d.pars) (hk:(k||!T.fresh f)=true)
 (he:exS T (callF T D n) d.body (ds.map Sl.v++List.replicate (d.names - d.pars) Sl.no)=.ok (.rt x k)) (ht:d.told=none:=by rfl):callF T D (n+1) f ds=.ok x:=by
 rw[callF,h]
 show when (ds.length==d.pars) _=_
 rw[when_of (by simpa using hl),ht]
 cases hx:exX T (callF T D n) d.body (ds.map Sl.v++List.replicate (d.names - d.pars) Sl.no) with
 | some z=>exact absurd he (exX_not hx _)
 | none =>
  dsimp only
  rw[he]
  show when (k||!T.fresh f) _=_
  rw[when_of hk]
theorem callF_err {T:Tab} {D:List Df} {n f:Nat} {ds:List Tr.D} {d:Df} {c:Str} {v:Tr.D} (h:D[f]?=some d) (hl:ds.length=d.pars)
 (he:exX T (callF T D n) d.body (ds.map Sl.v++List.replicate (d.names - d.pars) Sl.no)=some (c,v)) (ht:d.told=none:=by rfl):callF T D (n+1) f ds=.err c v:=by
 rw[callF,h]
 show when (ds.length==d.pars) _=_
 rw[when_of (by simpa using hl),ht]
 dsimp only
 rw[he]
@[simp] theorem ix_t0 {a:D} {r:List D}:D.ix (.tup (a::r)) (.int 0)=.ok a:=ix_t (i:=0) rfl
@[simp] theorem ix_t1 {a b:D} {r:List D}:D.ix (.tup (a::b::r)) (.int 1)=.ok b:=ix_t (i:=1) rfl
@[simp] theorem ix_t2 {a b c:D} {r:List D}:D.ix (.tup (a::b::c::r)) (.int 2)=.ok c:=ix_t (i:=2) rfl
@[simp] theorem ix_t3 {a b c d:D} {r:List D}:D.ix (.tup (a::b::c::d::r)) (.int 3)=.ok d:=ix_t (i:=3) rfl
@[simp] theorem ix_t4 {a b c d e:D} {r:List D}:D.ix (.tup (a::b::c::d::e::r)) (.int 4)=.ok e:=ix_t (i:=4) rfl
@[simp] theorem ix_l0 {a:D} {r:List D}:D.ix (.lst (a::r)) (.int 0)=.ok a:=ix_l (i:=0) rfl
@[simp] theorem ix_l1 {a b:D} {r:List D}:D.ix (.lst (a::b::r)) (.int 1)=.ok b:=ix_l (i:=1) rfl
theorem forL_nil {f:D→Nv→Res Out} {e:Nv}:forL f [] e=.ok (.nx e):=rfl
theorem forL_nx {f:D→Nv→Res Out} {d:D} {r:List D} {e e1:Nv} (h:f d e=.ok (.nx e1)):forL f (d::r) e=forL f r e1:=by rw[forL,h];rfl
theorem forL_rt {f:D→Nv→Res Out} {d:D} {r:List D} {e:Nv} {x:D} {k:Bool} (h:f d e=.ok (.rt x k)):forL f (d::r) e=.ok (.rt x k):=by rw[forL,h];rfl
theorem rangeD_eq:∀(lo:Int) (n:Nat),rangeD lo n=(List.range n).map λi=>.int (lo+(i:Int))
 | lo,0=>rfl
 | lo,n+1=>by
  rw[rangeD,rangeD_eq (lo+1) n,List.range_succ_eq_map,List.map_cons,List.map_map]
  congr 1
  ·simp
  ·apply List.map_congr_left
   intro i _
   simp only[Function.comp]
   congr 1
   push_cast
   lia
@[simp] theorem rangeD_length {lo:Int} {n:Nat}:(rangeD lo n).length=n:=by rw[rangeD_eq];simp
end Tr
set_option maxRecDepth 100000
namespace Tr
open PySem
noncomputable def cellV (ns:List Int) (k:Nat):Int:=ns.getD k 0
noncomputable def minV (n:Int):Int:=([0,n / 5 % 7,n / 5 % 31,n / 5 % 400,n*n % 1000000000]:List Int).getD (n % 5).toNat 0
set_option genInjectivity false in
structure Part where
 name:Str
 voice:Str
 off:Int
 on:Int
noncomputable def Part.enc (p:Part):D:=.tup [.str p.name,.str p.voice,.int p.off,.int p.on]
structure Scene where
 name:Str
 len:Int
 pause:Int
 who:List Nat
noncomputable def natD (ws:List Nat):List D:=ws.map λ(i:Nat)=>D.int (i:Int)
noncomputable def Scene.enc (s:Scene):D:=.tup [.str s.name,.int s.len,.int s.pause,.tup (natD s.who)]
theorem ix_str {x:Str} {i:Nat} (h:i < x.cps.size) (hb:x.length≤big):∃y:Str,D.ix (.str x) (.int i)=.ok (.str y)∧y.length=1:=by
 refine⟨⟨#[x.cps[i]]⟩,?_,rfl⟩
 show when (decide (x.length≤big)) (Res.of ((atI x.cps.toList i).map λc=>D.str ⟨#[c]⟩))=_
 rw[when_of (decide_eq_true hb)]
 unfold atI ixN
 rw[if_pos (Int.natCast_nonneg i),if_pos (by simp;lia)]
 simp[h,Res.of]
@[simp] theorem add_str {x y:Str} (h:x.length+y.length≤big):D.bin .Add (.str x) (.str y)=.ok (.str (x++y)):=by
 show when (decide (x.length+y.length≤big)) _=_
 rw[when_of (decide_eq_true h)]
theorem ix2 {a b:D} {c:Bool}:D.ix (.lst [a,b]) (.int (b2z c))=.ok (if c then b else a):=by cases c<;>rfl
theorem ten_big:(1000:Nat) < big:=by decide
set_option genInjectivity false in
theorem pls_map {α:Type} (f:α→D) (k:Nat) (h:∀a,D.pl k (f a)=true):∀xs:List α,D.pls (k+1) (xs.map f)=true
 | []=>rfl
 | a::r=>by rw[List.map_cons,D.pls,h a,pls_map f k h r];rfl
@[simp] theorem pl_tup {n:Nat} {a:List D}:D.pl n (.tup a)=D.pls n a:=by rw[D.pl]
@[simp] theorem pl_lst {n:Nat} {a:List D}:D.pl n (.lst a)=D.pls n a:=by rw[D.pl]
theorem cmp_same {a:D} (h:D.pl 30 a=true):D.cmp .Eq a a=.ok (.bl true):=by
 show when (D.eqOk a a) (.ok (D.bl (D.eqb a a)))=_
 rw[D.eqb_refl 30 a h,when_of (by unfold D.eqOk;rw[h];rfl)]
noncomputable def Scene.both (s:Scene):Int:=s.len+s.pause
theorem take_add_one {α:Type} (l:List α) (n:Nat) (a:α) (h:l[n]?=some a):l.take (n+1)=l.take n++[a]:=by
 rw[List.take_add_one,h];rfl
end Tr
set_option maxRecDepth 100000
namespace Tr
open PySem
inductive Rz where
 | sc (s:Nat) | ch (s t:Nat) (have_ need:Int)
noncomputable def Rz.enc:Rz→D
 | .sc s=>.tup [.str "scene", .int s]
 | .ch s t h n=>.tup [.str "change", .int s,.int t,.int h,.int n]
noncomputable def whoAt (ss:List Scene) (t:Nat):List Nat:=((ss[t]?).map Scene.who).getD []
noncomputable def needV (ps:List Part) (i j:Nat):Int:=((ps[i]?).map Part.off).getD 0+((ps[j]?).map Part.on).getD 0
noncomputable def begV (ss:List Scene) (k:Nat):Int:=((ss.take k).map Scene.both).sum
noncomputable def Rz.out (r:Rz):D×Bool:=(r.enc,false)
end Tr
set_option maxRecDepth 100000
namespace Tr
open PySem
noncomputable def lenAt (ss:List Scene) (t:Nat):Int:=((ss[t]?).map Scene.len).getD 0
noncomputable def lastEnd (ss:List Scene) (one:Nat):Nat→Option Int
 | 0=>none
 | k+1=>if one∈whoAt ss k then some (begV ss k+lenAt ss k) else lastEnd ss one k
noncomputable def hitAt (ps:List Part) (ss:List Scene) (one other t:Nat):Bool :=
 decide (other∈whoAt ss t)&&(match lastEnd ss one t with | some e=>decide (begV ss t - e < needV ps one other) | none=>false)
noncomputable def hit (ps:List Part) (ss:List Scene) (i j t:Nat):Bool:=(decide (i∈whoAt ss t)&&decide (j∈whoAt ss t))||hitAt ps ss i j t||hitAt ps ss j i t
end Tr
set_option maxRecDepth 100000
namespace Tr
open PySem
theorem splitC_lone {c:Nat}:∀ {w:List Nat},c∉w→splitC c w=[w]
 | [],_=>rfl
 | x::r,h=>by
  have h1:¬x=c:=λe=>h (by rw[e];exact List.mem_cons_self)
  have h2:c∉r:=λe=>h (List.mem_cons_of_mem _ e)
  rw[splitC,if_neg h1,splitC_lone h2]
theorem splitC_sep {c:Nat} (q:List Nat):∀ {w:List Nat},c∉w→splitC c (w++c::q)=w::splitC c q
 | [],_=>by rw[List.nil_append,splitC,if_pos rfl]
 | x::r,h=>by
  have h1:¬x=c:=λe=>h (by rw[e];exact List.mem_cons_self)
  have h2:c∉r:=λe=>h (List.mem_cons_of_mem _ e)
  rw[List.cons_append,splitC,if_neg h1,splitC_sep q h2]
theorem splitC_join {c:Nat}:∀ {ws:List (List Nat)},ws≠[]→(∀w∈ws,c∉w)→splitC c (joinC [c] ws)=ws
 | [],h,_=>absurd rfl h
 | [a],_,h=>by rw[joinC];exact splitC_lone (h a List.mem_cons_self)
 | a::b::r,_,h=>by
  rw[joinC,List.append_assoc,show [c]++joinC [c] (b::r)=c::joinC [c] (b::r) from rfl,splitC_sep _ (h a List.mem_cons_self),
   splitC_join (by simp) λw hw=>h w (List.mem_cons_of_mem _ hw)]
theorem str_of (x:Str):(⟨x.cps.toList.toArray⟩:Str)=x:=by cases x;simp
theorem splitS_join {c:Nat} {xs:List Str} (hn:xs≠[]) (h:∀x∈xs,c∉x.cps.toList):splitS (joinS ⟨#[c]⟩ xs) c=xs:=by
 unfold splitS joinS
 show (splitC c (joinC [c] (xs.map λx=>x.cps.toList)).toArray.toList).map _=xs
 rw[List.toList_toArray,splitC_join (by simpa using hn) (by simpa using h),List.map_map]
 exact (List.map_congr_left λx _=>str_of x).trans (List.map_id _)
noncomputable def digs (n:Nat):List Nat:=(Nat.toDigits 10 n).map Char.toNat
noncomputable def numS (n:Nat):Str:=⟨(digs n).toArray⟩
theorem ofString_num (n:Nat):Str.ofString (toString (n:Int))=numS n:=by
 rw[Str.ofString_eq_toList]
 unfold numS digs
 have e:(toString (n:Int)).toList=Nat.toDigits 10 n:=by
  show (Int.repr (Int.ofNat n)).toList=_
  exact Nat.toList_repr
 rw[e]
theorem digs_small {n:Nat} (h:n < 10):digs n=[48+n]:=by
 unfold digs
 rw[Nat.toDigits_of_lt_base h]
 have:n=0∨n=1∨n=2∨n=3∨n=4∨n=5∨n=6∨n=7∨n=8∨n=9:=by lia
 rcases this with rfl | rfl | rfl | rfl | rfl | rfl | rfl | rfl | rfl | rfl<;>decide
theorem digs_big {n:Nat} (h:10≤n):digs n=digs (n / 10)++[48+n % 10]:=by
 have e:=digs_small (n:=n % 10) (by lia)
 unfold digs at e ⊢
 rw[Nat.toDigits_of_base_le (by lia) h,List.map_append]
 rw[Nat.toDigits_of_lt_base (by lia)] at e
 rw[show List.map Char.toNat [(n % 10).digitChar]=[48+n % 10] from e]
theorem digs_ind {P:Nat→Prop} (h0:∀n,n < 10→P n) (h1:∀n,10≤n→P (n / 10)→P n) (n:Nat):P n:=by
 induction n using Nat.strongRecOn with
 | ind n ih =>
  by_cases h:n < 10
  ·exact h0 n h
  ·exact h1 n (by lia) (ih _ (by lia))
theorem digs_mem {n c:Nat} (h:c∈digs n):48≤c∧c≤57:=by
 revert h
 refine digs_ind (P:=λn=>c∈digs n→48≤c∧c≤57) (λn hn h=>?_) (λn hn ih h=>?_) n
 ·rw[digs_small hn] at h;simp at h;lia
 ·rw[digs_big hn,List.mem_append] at h
  rcases h with h | h
  ·exact ih h
  ·simp at h;lia
theorem digs_ne (n:Nat):digs n≠[]:=by
 by_cases h:n < 10
 ·rw[digs_small h];simp
 ·rw[digs_big (by lia)];simp
theorem digs_digits (n:Nat):isDigits (digs n)=true:=by
 unfold isDigits
 have h1:=digs_ne n
 rw[Bool.and_eq_true]
 refine⟨by cases e:digs n with | nil=>exact absurd e h1 | cons _ _=>rfl,?_⟩
 rw[List.all_eq_true]
 intro c hc
 have:=digs_mem hc
 simp[this.1,this.2]
theorem digitsN_digs (n:Nat):digitsN (digs n)=n:=by
 refine digs_ind (P:=λn=>digitsN (digs n)=n) (λn hn=>?_) (λn hn ih=>?_) n
 ·rw[digs_small hn]
  show (0*10+(48+n - 48))=n
  lia
 ·rw[digs_big hn]
  unfold digitsN at ih ⊢
  rw[List.foldl_append,ih]
  show (n / 10*10+(48+n % 10 - 48))=n
  lia
theorem digs_len {n k:Nat} (hk:0 < k) (h:n < 10^k):(digs n).length≤k:=by
 unfold digs
 rw[List.length_map]
 exact (Nat.length_toDigits_le_iff (by lia) hk).mpr h
theorem digs_head {n:Nat} (hn:n≠0):∃c r,digs n=c::r∧c≠48:=by
 refine digs_ind (P:=λn=>n≠0→∃c r,digs n=c::r∧c≠48) (λn h hn=>?_) (λn h ih hn=>?_) n hn
 ·exact⟨48+n,[],digs_small h,by lia⟩
 ·obtain⟨c,r,e,hc⟩:=ih (by lia)
  exact⟨c,r++[48+n % 10],by rw[digs_big h,e];rfl,hc⟩
theorem digs_zero:digs 0=[48]:=digs_small (by lia)
theorem metD_go {α:Type} [DecidableEq α]:∀(ks acc:List α),acc.Nodup→(∀k∈ks,k∉acc)→ks.Nodup→ks.foldl (λacc k=>if acc.any (λx=>decide (x=k)) then acc else acc++[k]) acc=acc++ks
 | [],acc,_,_,_=>by simp
 | k::r,acc,ha,hd,hn=>by
  have h1:acc.any (λx=>decide (x=k))=false:=by
   rw[List.any_eq_false]
   intro x hx
   simp only[decide_eq_true_eq]
   exact λe=>hd k List.mem_cons_self (e▸hx)
  rw[List.foldl_cons,h1]
  simp only[Bool.false_eq_true,if_false]
  rw[List.nodup_cons] at hn
  rw[metD_go r (acc++[k]) ?_ ?_ hn.2]
  ·simp
  ·rw[List.nodup_append]
   exact⟨ha,by simp,λa g1 b g2=>by simp at g2;subst g2;exact λe=>hd b List.mem_cons_self (e▸g1)⟩
  ·intro x hx hx'
   rw[List.mem_append] at hx'
   rcases hx' with z | z
   ·exact hd x (List.mem_cons_of_mem _ hx) z
   ·simp at z;subst z;exact hn.1 hx
theorem metD_nodup {ks:List (Sum Int Str)} (h:ks.Nodup):metD ks=ks:=by
 have:=metD_go ks [] List.nodup_nil (λ_ _=>by simp) h
 rw[List.nil_append] at this
 exact this
theorem blsOf_map (f:α→Bool):∀xs:List α,blsOf (xs.map λx=>D.bl (f x))=.ok (xs.map f)
 | []=>rfl
 | x::r=>by
  rw[List.map_cons,blsOf,blsOf_map f r];rfl
noncomputable def hasC (g:Str) (c:Nat):Bool:=decide (c∈g.cps.toList)
@[simp] theorem cmp_in_chr (c:Nat) (g:Str):D.cmp .In (.str (chr1 c)) (.str g)=.ok (.bl (hasC g c)):=id rfl
noncomputable def signs (x:Str):List Nat:=x.cps.toList
@[simp] theorem run_all (xs:List D):Bt.run .all [.lst xs]=(do let q ←blsOf xs;.ok (.bl (q.all id))):=id rfl
@[simp] theorem run_len_str (x:Str):Bt.run .len [.str x]=when (decide (x.length≤big)) (.ok (.int x.length)):=id rfl
@[simp] theorem keys_str (x:Str):D.keys (.str x)=.ok ((signs x).map λc=>.inr (chr1 c)):=id rfl
@[simp] theorem items_str (x:Str):D.items (.str x)=.ok ((signs x).map λc=>.str (chr1 c)):=id rfl
theorem len_signs (x:Str):x.length=(signs x).length:=by cases x;simp[Str.length,signs]
theorem len_cps (x:Str):x.length=x.cps.toList.length:=by cases x;simp[Str.length]
theorem nodup_map {α β:Type} {f:α→β} (hf:∀a b,f a=f b→a=b):∀ {l:List α},l.Nodup→(l.map f).Nodup
 | [],_=>List.nodup_nil
 | a::r,h=>by
  rw[List.nodup_cons] at h
  rw[List.map_cons,List.nodup_cons]
  refine⟨λhm=>?_,nodup_map hf h.2⟩
  obtain⟨b,hb,e⟩:=List.mem_map.mp hm
  exact h.1 (hf _ _ e▸hb)
section
variable {T:Tab}
@[simp] theorem fresh_cmp {o:CmpOp} {a b:E}:freshE T (.cmp o a b)=false:=id rfl
@[simp] theorem fresh_and {a b:E}:freshE T (.and a b)=false:=id rfl
@[simp] theorem fresh_or {a b:E}:freshE T (.or a b)=false:=id rfl
@[simp] theorem fresh_mod {a b:E}:freshE T (.bin .Mod a b)=false:=id rfl
@[simp] theorem fresh_all {a:E}:freshE T (.bt .all a)=false:=id rfl
@[simp] theorem fresh_con {d:D}:freshE T (.con d)=false:=id rfl
@[simp] theorem fresh_var {i:Nat}:freshE T (.var i)=false:=id rfl
@[simp] theorem fresh_tup {a:E}:freshE T (.tup a)=false:=id rfl
end
theorem cmp_eq_str (x y:Str):D.cmp .Eq (.str x) (.str y)=.ok (.bl (x==y)):=rfl
theorem cmp_ne_str (x y:Str):D.cmp .NotEq (.str x) (.str y)=.ok (.bl (!(x==y))):=rfl
theorem ix_str0 {x:Str} {c:Nat} {r:List Nat} (h:signs x=c::r) (hl:x.length≤big):(D.str x).ix (.int 0)=.ok (.str (chr1 c)):=by
 have e:atI x.cps.toList 0=some c:=by
  show atI (signs x) 0=some c
  rw[h];unfold atI ixN;simp;try lia
 show when (decide (x.length≤big)) (Res.of ((atI x.cps.toList 0).map λc=>D.str ⟨#[c]⟩))=_
 rw[e,show decide (x.length≤big)=true from by simpa using hl]
 rfl
theorem str_eq_signs {x y:Str} (h:signs x=signs y):x=y:=by
 cases x;cases y
 simp only[signs] at h
 congr 1
 exact Array.toList_inj.mp h
theorem beq_str_false {x y:Str} (h:signs x≠signs y):(x==y)=false:=by
 rw[beq_eq_false_iff_ne]
 exact λe=>h (by rw[e])
theorem run_int_num (m:Nat) (h:m < 10^9):Bt.run .int [.str (numS m)]=.ok (.int m):=by
 have hs:(numS m).cps.toList=digs m:=by simp[numS]
 have hl:(numS m).length≤640:=by
  rw[len_signs,show signs (numS m)=digs m from hs]
  have:=digs_len (k:=9) (by lia) h
  lia
 show when (isDigits (numS m).cps.toList&&decide ((numS m).length≤640)) (.ok (D.int (digitsN (numS m).cps.toList)))=_
 rw[hs,digs_digits,digitsN_digs,show decide ((numS m).length≤640)=true from by simpa using hl]
 rfl
theorem mem_pairs (i k:Nat):∀cs:List (Nat×Nat),(i,k)∉cs→D.mem (.tup [.int i,.int k]) (cs.map λc:Nat×Nat=>D.tup [.int c.1,.int c.2])=false
 | [],_=>rfl
 | c::r,h=>by
  have h1:c≠(i,k):=λe=>h (by rw[e];exact List.mem_cons_self)
  have h2:=mem_pairs i k r λe=>h (List.mem_cons_of_mem _ e)
  rw[List.map_cons,D.mem,h2,Bool.or_false]
  show ((((c.1:Int)==(i:Int))&&(((c.2:Int)==(k:Int))&&true)))=false
  by_cases a:c.1=i
  ·by_cases b:c.2=k
   ·exact absurd (Prod.ext a b) h1
   ·have:((c.2:Int)==(k:Int))=false:=by simp;lia
    rw[this];simp
  ·have:((c.1:Int)==(i:Int))=false:=by simp;lia
   rw[this];rfl
theorem pls_pairs (n:Nat):∀cs:List (Nat×Nat),D.pls (n+2) (cs.map λc:Nat×Nat=>D.tup [.int c.1,.int c.2])=true
 | []=>rfl
 | c::r=>by
  have:=pls_pairs n r
  rw[List.map_cons,D.pls,this]
  rfl
theorem in_pairs {i k:Nat} {cs:List (Nat×Nat)} (h:(i,k)∉cs):D.inn (.tup [.int i,.int k]) (.tup (cs.map λc:Nat×Nat=>D.tup [.int c.1,.int c.2]))=.ok false:=by
 show when (D.pls 30 _&&D.pl 29 (.tup [.int i,.int k])) (.ok (D.mem _ _))=_
 rw[mem_pairs i k cs h,pls_pairs 28 cs]
 rfl
theorem in_pairsL {i k:Nat} {cs:List (Nat×Nat)} (h:(i,k)∉cs):D.inn (.tup [.int i,.int k]) (.lst (cs.map λc:Nat×Nat=>D.tup [.int c.1,.int c.2]))=.ok false:=by
 show when (D.pls 30 _&&D.pl 29 (.tup [.int i,.int k])) (.ok (D.mem _ _))=_
 rw[mem_pairs i k cs h,pls_pairs 28 cs]
 rfl
theorem atI_nat {α:Type} {xs:List α} {k:Nat} {x:α} (h:xs[k]?=some x):atI xs (k:Int)=some x:=by
 have hk:=(List.getElem?_eq_some_iff.mp h).1
 unfold atI ixN
 rw[if_pos (by lia),if_pos (by lia)]
 exact h
@[simp] theorem ix_lst2 {a b c:D} {r:List D}:(D.lst (a::b::c::r)).ix (.int 2)=.ok c:=by
 show Res.of (atI _ ((2:Nat):Int))=_
 rw[atI_nat (x:=c) rfl];rfl
@[simp] theorem ix_lst3 {a b c d:D} {r:List D}:(D.lst (a::b::c::d::r)).ix (.int 3)=.ok d:=by
 show Res.of (atI _ ((3:Nat):Int))=_
 rw[atI_nat (x:=d) rfl];rfl
@[simp] theorem ix_lst4 {a b c d f:D} {r:List D}:(D.lst (a::b::c::d::f::r)).ix (.int 4)=.ok f:=by
 show Res.of (atI _ ((4:Nat):Int))=_
 rw[atI_nat (x:=f) rfl];rfl
theorem cut_from {α:Type} {xs:List α} {a:Nat} (ha:a≤xs.length):cut xs (some (a:Int)) none=xs.drop a:=by
 unfold cut sIx
 simp only[]
 rw[if_neg (by lia),Int.toNat_natCast,Nat.min_eq_left ha,List.take_of_length_le (by simp)]
theorem add_strs {a b:List Nat} (h:a.length+b.length≤big):D.bin .Add (.str ⟨a.toArray⟩) (.str ⟨b.toArray⟩)=.ok (.str ⟨(a++b).toArray⟩):=by
 show when (decide ((⟨a.toArray⟩:Str).length+(⟨b.toArray⟩:Str).length≤big)) (.ok (D.str ((⟨a.toArray⟩:Str)++(⟨b.toArray⟩:Str))))=_
 rw[show decide ((⟨a.toArray⟩:Str).length+(⟨b.toArray⟩:Str).length≤big)=true by
  rw[len_signs,len_signs];simp only[signs,List.toList_toArray];exact decide_eq_true h]
 refine congrArg (λz=>Res.ok (D.str z)) (str_eq_signs ?_)
 show (a.toArray++b.toArray).toList=(a++b).toArray.toList
 simp
theorem cut_to {α:Type} {xs:List α} {b:Nat} (hb:b≤xs.length):cut xs none (some (b:Int))=xs.take b:=by
 unfold cut sIx
 simp only[]
 rw[if_neg (by lia),Int.toNat_natCast,Nat.min_eq_left hb,List.drop_zero,Nat.sub_zero]
theorem add_lsts {a b:List D} (h:a.length+b.length≤big):D.bin .Add (.lst a) (.lst b)=.ok (.lst (a++b)):=by
 show when (decide (a.length+b.length≤big)) (.ok (D.lst (a++b)))=_
 rw[show decide (a.length+b.length≤big)=true by simpa using h]
 rfl
noncomputable def rotV {α:Type} (c:Int) (l:List α):List α:=l.drop (c % ((l.length:Int)+1)).toNat++l.take (c % ((l.length:Int)+1)).toNat
theorem rot_le {α:Type} (c:Int) (l:List α):(c % ((l.length:Int)+1)).toNat≤l.length:=by
 have:=Int.emod_lt_of_pos c (show (0:Int) < (l.length:Int)+1 by lia)
 lia
theorem rot_mem {α:Type} {c:Int} {l:List α} {x:α}:x∈rotV c l↔x∈l:=by
 unfold rotV
 rw[List.mem_append]
 constructor
 ·rintro (h | h)
  ·exact List.mem_of_mem_drop h
  ·exact List.mem_of_mem_take h
 ·intro h
  rw[←List.take_append_drop (c % ((l.length:Int)+1)).toNat l,List.mem_append] at h
  exact h.symm
theorem rot_perm {α:Type} (c:Int) (l:List α):(rotV c l).Perm l:=by
 unfold rotV
 refine (List.perm_append_comm).trans ?_
 rw[List.take_append_drop]
theorem rot_map {α β:Type} (f:α→β) (c:Int) (l:List α):rotV c (l.map f)=(rotV c l).map f:=by
 unfold rotV
 rw[List.length_map,List.map_append,List.map_drop,List.map_take]
@[simp] theorem ix_lst5 {a b c d f g:D} {r:List D}:(D.lst (a::b::c::d::f::g::r)).ix (.int 5)=.ok g:=by
 show Res.of (atI _ ((5:Nat):Int))=_
 rw[atI_nat (x:=g) rfl];rfl
@[simp] theorem ix_lst6 {a b c d f g h:D} {r:List D}:(D.lst (a::b::c::d::f::g::h::r)).ix (.int 6)=.ok h:=by
 show Res.of (atI _ ((6:Nat):Int))=_
 rw[atI_nat (x:=h) rfl];rfl
@[simp] theorem ix_lst7 {a b c d f g h i:D} {r:List D}:(D.lst (a::b::c::d::f::g::h::i::r)).ix (.int 7)=.ok i:=by
 show Res.of (atI _ ((7:Nat):Int))=_
 rw[atI_nat (x:=i) rfl];rfl
noncomputable def isNm (w:Str):Prop:=1≤(signs w).length∧(signs w).length≤8∧(signs w).all (hasC "abcdefghijklmnopqrstuvwxyz")=true
noncomputable def ent (p:Str×List D):D:=.tup (.str p.1::p.2)
end Tr
set_option maxRecDepth 100000
namespace Tr
open PySem
set_option genInjectivity false in
structure Player where
 name:Str
 voices:Str
 hire:Int
noncomputable def Player.enc (p:Player):D:=.tup [.str p.name,.str p.voices,.int p.hire]
inductive Flt where
 | nob (i:Nat) | voi (i k:Nat) | cla (i j:Nat)
noncomputable def Flt.enc:Flt→D
 | .nob i=>.tup [.str "nobody", .int i]
 | .voi i k=>.tup [.str "voice", .int i,.int k]
 | .cla i j=>.tup [.str "clash", .int i,.int j]
noncomputable def Flt.names (p:Nat):Flt→Bool
 | .nob i=>i==p
 | .voi i _=>i==p
 | .cla i j=>i==p||j==p
end Tr
set_option maxRecDepth 100000
namespace Tr
open PySem
set_option genInjectivity false in
structure PtB where
 name:Str
 v:Nat
 off:Nat
 on:Nat
set_option genInjectivity false in
structure PlB where
 name:Str
 voices:Str
 hire:Nat
set_option genInjectivity false in
structure ScB where
 name:Str
 len:Nat
 pause:Nat
 who:List Nat
noncomputable def PtB.p (x:PtB):Str×List D:=(x.name,[.str (chr1 x.v),.int x.off,.int x.on])
noncomputable def PlB.p (x:PlB):Str×List D:=(x.name,[.str x.voices,.int x.hire])
noncomputable def ScB.p (x:ScB):Str×List D:=(x.name,[.int x.len,.int x.pause,.tup (x.who.map λi:Nat=>D.int i)])
noncomputable def nmAt (ps:List (Str×List D)) (i:Nat):Str:=((ps[i]?).map (·.1)).getD ""
noncomputable def wordP (x:PtB):List Str:=["part", x.name,chr1 x.v,numS x.off,numS x.on]
noncomputable def voW (w:Str):Str:=if signs w=[] then "-" else w
noncomputable def wordQ (x:PlB):List Str:=["player", x.name,voW x.voices,numS x.hire]
noncomputable def wordS (ps:List (Str×List D)) (x:ScB):List Str := "scene" :: x.name::numS x.len::numS x.pause::x.who.map (nmAt ps)
noncomputable def wordL (ps qs:List (Str×List D)) (l:Nat×Nat×Nat):List Str:=["like", nmAt qs l.1,nmAt ps l.2.1,numS l.2.2]
noncomputable def wordC (ps qs:List (Str×List D)) (c:Nat×Nat):List Str:=["cover", nmAt ps c.1,nmAt qs c.2]
noncomputable def rowT (ws:List Str):Str:=joinS " " ws
noncomputable def lkT (l:Nat×Nat×Nat):D:=.tup [.int l.1,.int l.2.1,.int l.2.2]
noncomputable def cvT (c:Nat×Nat):D:=.tup [.int c.1,.int c.2]
noncomputable def bkT (ps qs ss:List (Str×List D)) (ls:List (Nat×Nat×Nat)) (cs:List (Nat×Nat)):List D:=[.tup (ps.map ent),.tup (qs.map ent),.tup (ss.map ent),.tup (ls.map lkT),.tup (cs.map cvT)]
noncomputable def wd (w:Str):Prop:=32∉signs w∧w.length≤100
theorem blank_eq:(" " : Str)=⟨#[32]⟩:=by decide +kernel
theorem joinC_len (g:List Nat):∀ls:List (List Nat),(joinC g ls).length≤(ls.map List.length).sum+ls.length*g.length
 | []=>by simp[joinC]
 | [a]=>by simp[joinC]
 | a::b::r=>by
  have ih:=joinC_len g (b::r)
  rw[joinC,List.length_append,List.length_append,List.map_cons,List.sum_cons,List.length_cons,Nat.succ_mul]
  lia
theorem sum_le (c:Nat):∀ls:List Nat,(∀x∈ls,x≤c)→ls.sum≤ls.length*c
 | [],_=>by simp
 | a::r,h=>by
  have ih:=sum_le c r λx hx=>h x (List.mem_cons_of_mem _ hx)
  have:=h a List.mem_cons_self
  rw[List.sum_cons,List.length_cons,Nat.succ_mul];lia
theorem row_len {ws:List Str} (h:∀w∈ws,wd w) (hl:ws.length≤100):(rowT ws).length≤20000:=by
 unfold rowT joinS
 have e:(⟨(joinC (" " : Str).cps.toList (ws.map λx=>x.cps.toList)).toArray⟩:Str).length=(joinC (" " : Str).cps.toList (ws.map λx=>x.cps.toList)).length:=by simp[Str.length]
 rw[e]
 have h1:=joinC_len (" " : Str).cps.toList (ws.map λx=>x.cps.toList)
 have h2:=sum_le 100 ((ws.map λx=>x.cps.toList).map List.length) (by
  intro x hx
  rw[List.map_map] at hx
  obtain⟨w,hw,rfl⟩:=List.mem_map.mp hx
  have:=(h w hw).2
  rw[len_cps] at this
  exact this)
 have h3:(" " : Str).cps.toList.length=1:=by rw[blank_eq];rfl
 rw[h3] at h1
 simp only[List.length_map] at h1 h2
 lia
theorem row_split {ws:List Str} (hn:ws≠[]) (h:∀w∈ws,wd w):splitS (rowT ws) 32=ws:=by
 unfold rowT
 rw[blank_eq]
 exact splitS_join hn λx hx=>(h x hx).1
theorem run_join {ws:List Str} (h:∀w∈ws,wd w) (hl:ws.length≤100):Mt.run .join (.str " ") (.lst (ws.map D.str))=.ok (.str (rowT ws)):=by
 have e:∀l:List Str,strsOf (l.map D.str)=.ok l:=by
  intro l
  induction l with
  | nil=>rfl
  | cons a r ih=>rw[List.map_cons,strsOf,ih];rfl
 show (do let xs ←strsOf (ws.map D.str);when (decide ((" " : Str).length≤64)&&decide ((xs.map λx:Str=>x.length).sum+xs.length*64≤big)) (.ok (D.str (joinS " " xs))))=_
 rw[e,Res.ok_bind,when_of]
 ·rfl
 ·have h2:=sum_le 100 (ws.map λx:Str=>x.length) (by
   intro x hx
   obtain⟨w,hw,rfl⟩:=List.mem_map.mp hx
   exact (h w hw).2)
  rw[List.length_map] at h2
  have h3:(" " : Str).length≤64:=by decide +kernel
  have hb:20000 < big:=by decide
  rw[decide_eq_true h3,decide_eq_true (by lia)];rfl
theorem wd_nm {w:Str} (h:isNm w):wd w:=by
 obtain⟨h1,h2,h3⟩:=h
 refine⟨λhm=>?_,by rw[len_signs];lia⟩
 have:=List.all_eq_true.mp h3 32 hm
 revert this
 decide +kernel
theorem wd_num {n:Nat} (h:n < 10^9):wd (numS n):=by
 have e:signs (numS n)=digs n:=by simp[signs,numS]
 refine⟨λhm=>?_,?_⟩
 ·rw[e] at hm
  have:=digs_mem hm
  lia
 ·rw[len_signs,e]
  have:=digs_len (by lia) h
  lia
theorem wd_letters {w:Str} (h:(signs w).all (hasC "abcdefghijklmnopqrstuvwxyz")=true) (hl:(signs w).length≤100):wd w:=by
 refine⟨λhm=>?_,by rw[len_signs];exact hl⟩
 have:=List.all_eq_true.mp h 32 hm
 revert this
 decide +kernel
theorem wd_part:wd "part" := ⟨by decide +kernel,by decide +kernel⟩
theorem wd_player:wd "player" := ⟨by decide +kernel,by decide +kernel⟩
theorem wd_scene:wd "scene" := ⟨by decide +kernel,by decide +kernel⟩
theorem wd_like:wd "like" := ⟨by decide +kernel,by decide +kernel⟩
theorem wd_cover:wd "cover" := ⟨by decide +kernel,by decide +kernel⟩
theorem wd_dash:wd "-" := ⟨by decide +kernel,by decide +kernel⟩
set_option genInjectivity false in
structure GP (x:PtB):Prop where
 nm:isNm x.name
 v:hasC "abcdefghijklmnopqrstuvwxyz" x.v=true
 off:x.off < 10^9
 on:x.on < 10^9
set_option genInjectivity false in
structure GQ (x:PlB):Prop where
 nm:isNm x.name
 nd:(signs x.voices).Nodup
 vs:(signs x.voices).all (hasC "abcdefghijklmnopqrstuvwxyz")=true
 len:(signs x.voices).length≤100
 hire:x.hire < 10^9
set_option genInjectivity false in
structure GS (many:Nat) (x:ScB):Prop where
 nm:isNm x.name
 len:x.len < 10^9
 pause:x.pause < 10^9
 nd:x.who.Nodup
 lt:∀i∈x.who,i < many
 cnt:x.who.length≤50
theorem words_P {x:PtB} (g:GP x):∀w∈wordP x,wd w:=by
 intro w hw
 unfold wordP at hw
 simp only[List.mem_cons,List.not_mem_nil,or_false] at hw
 rcases hw with rfl | rfl | rfl | rfl | rfl
 ·exact wd_part
 ·exact wd_nm g.nm
 ·exact wd_letters (by show ([x.v]).all _=true;simpa using g.v) (by show [x.v].length≤100;simp)
 ·exact wd_num g.off
 ·exact wd_num g.on
theorem words_Q {x:PlB} (g:GQ x):∀w∈wordQ x,wd w:=by
 intro w hw
 unfold wordQ at hw
 simp only[List.mem_cons,List.not_mem_nil,or_false] at hw
 rcases hw with rfl | rfl | rfl | rfl
 ·exact wd_player
 ·exact wd_nm g.nm
 ·unfold voW
  split
  ·exact wd_dash
  ·exact wd_letters g.vs g.len
 ·exact wd_num g.hire
theorem nmAt_nm {ps:List (Str×List D)} (h:∀p∈ps,isNm p.1) {i:Nat} (hi:i < ps.length):isNm (nmAt ps i):=by
 unfold nmAt
 rw[List.getElem?_eq_getElem hi]
 exact h _ (List.getElem_mem hi)
theorem words_S {ps:List (Str×List D)} (h:∀p∈ps,isNm p.1) {x:ScB} (g:GS ps.length x):∀w∈wordS ps x,wd w:=by
 intro w hw
 unfold wordS at hw
 simp only[List.mem_cons] at hw
 rcases hw with rfl | rfl | rfl | rfl | hw
 ·exact wd_scene
 ·exact wd_nm g.nm
 ·exact wd_num g.len
 ·exact wd_num g.pause
 ·obtain⟨i,hi,rfl⟩:=List.mem_map.mp hw
  exact wd_nm (nmAt_nm h (g.lt i hi))
theorem words_L {ps qs:List (Str×List D)} (h:∀p∈ps,isNm p.1) (h':∀p∈qs,isNm p.1) {l:Nat×Nat×Nat} (g1:l.1 < qs.length) (g2:l.2.1 < ps.length) (g3:l.2.2 < 10^9):∀w∈wordL ps qs l,wd w:=by
 intro w hw
 unfold wordL at hw
 simp only[List.mem_cons,List.not_mem_nil,or_false] at hw
 rcases hw with rfl | rfl | rfl | rfl
 ·exact wd_like
 ·exact wd_nm (nmAt_nm h' g1)
 ·exact wd_nm (nmAt_nm h g2)
 ·exact wd_num g3
theorem words_C {ps qs:List (Str×List D)} (h:∀p∈ps,isNm p.1) (h':∀p∈qs,isNm p.1) {c:Nat×Nat} (g1:c.1 < ps.length) (g2:c.2 < qs.length):∀w∈wordC ps qs c,wd w:=by
 intro w hw
 unfold wordC at hw
 simp only[List.mem_cons,List.not_mem_nil,or_false] at hw
 rcases hw with rfl | rfl | rfl
 ·exact wd_cover
 ·exact wd_nm (nmAt_nm h g1)
 ·exact wd_nm (nmAt_nm h' g2)
noncomputable abbrev IA:=PtB ⊕ PlB
noncomputable abbrev IZ:=ScB ⊕ ((Nat×Nat×Nat) ⊕ (Nat×Nat))
noncomputable def rowA:IA→Str
 | .inl x=>rowT (wordP x)
 | .inr y=>rowT (wordQ y)
noncomputable def rowZ (ps qs:List (Str×List D)):IZ→Str
 | .inl x=>rowT (wordS ps x)
 | .inr (.inl l)=>rowT (wordL ps qs l)
 | .inr (.inr c)=>rowT (wordC ps qs c)
noncomputable def aP:IA→Option PtB
 | .inl x=>some x
 | _=>none
noncomputable def aQ:IA→Option PlB
 | .inr x=>some x
 | _=>none
noncomputable def zS:IZ→Option ScB
 | .inl x=>some x
 | _=>none
noncomputable def zL:IZ→Option (Nat×Nat×Nat)
 | .inr (.inl l)=>some l
 | _=>none
noncomputable def zC:IZ→Option (Nat×Nat)
 | .inr (.inr c)=>some c
 | _=>none
structure GB (Ps:List PtB) (Qs:List PlB) (Ss:List ScB) (Ls:List (Nat×Nat×Nat)) (Cs:List (Nat×Nat)):Prop where
 gp:∀x∈Ps,GP x
 gq:∀x∈Qs,GQ x
 gs:∀x∈Ss,GS Ps.length x
 gl:∀l∈Ls,l.1 < Qs.length∧l.2.1 < Ps.length∧l.2.2 < 10^9
 gc:∀c∈Cs,c.1 < Ps.length∧c.2 < Qs.length
 np:(Ps.map (·.name)).Nodup
 nq:(Qs.map (·.name)).Nodup
 ns:(Ss.map (·.name)).Nodup
 nl:(Ls.map λl=>(l.1,l.2.1)).Nodup
 nc:Cs.Nodup
 lp:Ps.length≤50
 lq:Qs.length≤50
 ls:Ss.length≤50
 ll:Ls.length≤64
 lc:Cs.length≤64
theorem GB.nmP {Ps Qs Ss Ls Cs} (g:GB Ps Qs Ss Ls Cs):∀p∈Ps.map PtB.p,isNm p.1:=λp hp=>by
 obtain⟨x,hx,rfl⟩:=List.mem_map.mp hp
 exact (g.gp x hx).nm
theorem GB.nmQ {Ps Qs Ss Ls Cs} (g:GB Ps Qs Ss Ls Cs):∀p∈Qs.map PlB.p,isNm p.1:=λp hp=>by
 obtain⟨x,hx,rfl⟩:=List.mem_map.mp hp
 exact (g.gq x hx).nm
noncomputable def rowsB (Ps:List PtB) (Qs:List PlB) (Ss:List ScB) (Ls:List (Nat×Nat×Nat)) (Cs:List (Nat×Nat)):List Str :=
 Ps.map (λx=>rowT (wordP x))++Qs.map (λx=>rowT (wordQ x))++Ss.map (λx=>rowT (wordS (Ps.map PtB.p) x))++Ls.map (λl=>rowT (wordL (Ps.map PtB.p) (Qs.map PlB.p) l))++Cs.map λc=>rowT (wordC (Ps.map PtB.p) (Qs.map PlB.p) c)
theorem run_str_num {n:Nat} (h:n < 10^9):Bt.run .str [.int (n:Int)]=.ok (.str (numS n)):=by
 show when (decide ((n:Int).natAbs.log2 < 1920)) (.ok (D.str (Str.ofString (toString (n:Int)))))=_
 rw[when_of,ofString_num]
 rw[decide_eq_true_eq,Int.natAbs_natCast]
 by_cases z:n=0
 ·subst z;decide
 ·have h2:=Nat.log2_lt (n:=n) (k:=1920) z
  rw[h2]
  exact Nat.lt_of_lt_of_le h (Nat.le_trans (by decide:10^9≤2^30) (Nat.pow_le_pow_right (by decide) (by decide)))
theorem ents_at {ps:List (Str×List D)} {i:Nat} (h:i < ps.length):D.ix (.tup (ps.map ent)) (.int i)=.ok (ent ps[i]):=ix_t (by rw[List.getElem?_map,List.getElem?_eq_getElem h];rfl)
@[simp] theorem ent_0 {p:Str×List D}:D.ix (ent p) (.int 0)=.ok (.str p.1):=ix_t0
theorem nmAt_ge {ps:List (Str×List D)} {i:Nat} (h:i < ps.length):nmAt ps i=ps[i].1:=by unfold nmAt;rw[List.getElem?_eq_getElem h];rfl
end Tr
namespace Tr
theorem nodup_by_inj {α β:Type} {f:α→β}:∀ {l:List α},(∀a∈l,∀b∈l,f a=f b→a=b)→l.Nodup→(l.map f).Nodup
 | [],_,_=>.nil
 | a::r,h,hd=>by
  obtain⟨h1,h2⟩:=List.nodup_cons.mp hd
  rw[List.map_cons,List.nodup_cons]
  refine⟨λhm=>?_,nodup_by_inj (λx hx y hy e=>h x (List.mem_cons_of_mem _ hx) y (List.mem_cons_of_mem _ hy) e) h2⟩
  obtain⟨b,hb,e⟩:=List.mem_map.mp hm
  have:=h b (List.mem_cons_of_mem _ hb) a List.mem_cons_self e
  subst this
  exact h1 hb
end Tr
namespace Tr
open PySem
theorem ents_map {α:Type} (p:α→Str×List D) (xs:List α):(xs.map p).map ent=xs.map λx=>ent (p x):=by rw[List.map_map];rfl
theorem strs_pl (xs:List Str):D.pl 30 (.lst (xs.map D.str))=true:=by
 rw[pl_lst];exact pls_map D.str 29 (λ_=>rfl) xs
theorem rowsB_len {Ps Qs Ss Ls Cs} (g:GB Ps Qs Ss Ls Cs):(rowsB Ps Qs Ss Ls Cs).length≤300:=by
 have b1:=g.lp
 have b2:=g.lq
 have b3:=g.ls
 have b4:=g.ll
 have b5:=g.lc
 unfold rowsB
 simp only[List.length_append,List.length_map]
 lia
end Tr
namespace Tr
end Tr
namespace K03
open PySem Tr
noncomputable def e_consists_of_1:E :=
 (.cmp .In (.var 0) (.var 1))
noncomputable def b_consists_of:S :=
 (.cons (.ret (.bt .all (.acons (.comp 1 [0] (.one 0) e_consists_of_1 (.seq (.var 1)) (.con (.bl true))) .anil)))
 .nil)
noncomputable def b_are_unlike:S :=
 (.cons (.ret (.cmp .Eq (.lset (.var 0)) (.bt .len (.acons (.var 0) .anil))))
 .nil)
noncomputable def b_is_name:S :=
 (.cons (.ret (.and (.chain .LtE .LtE (.con (.int 1)) (.bt .len (.acons (.var 0) .anil)) (.con (.int 8))) (.call 0 (.acons (.glob 0) (.acons (.var 0) .anil)))))
 .nil)
noncomputable def b_is_amount:S :=
 (.cons (.ite (.or (.not (.chain .LtE .LtE (.con (.int 1)) (.bt .len (.acons (.var 0) .anil)) (.con (.int 9)))) (.not (.call 0 (.acons (.glob 1) (.acons (.var 0) .anil)))))
 (.cons (.ret (.con (.bl false)))
 .nil)
 .nil)
 (.cons (.ret (.or (.cmp .Eq (.var 0) (.con (.str "0"))) (.cmp .NotEq (.ix (.var 0) (.con (.int 0))) (.con (.str "0")))))
 .nil))
noncomputable def b_is_voice:S :=
 (.cons (.ret (.and (.cmp .Eq (.bt .len (.acons (.var 0) .anil)) (.con (.int 1))) (.cmp .In (.var 0) (.glob 0))))
 .nil)
noncomputable def b_are_voices:S :=
 (.cons (.ite (.cmp .Eq (.var 0) (.con (.str "-")))
 (.cons (.ret (.con (.bl true)))
 .nil)
 .nil)
 (.cons (.ret (.and (.cmp .NotEq (.var 0) (.con (.str ""))) (.and (.call 0 (.acons (.glob 0) (.acons (.var 0) .anil))) (.call 1 (.acons (.var 0) .anil)))))
 .nil))
noncomputable def b_number_named_1:S :=
 (.cons (.ite (.cmp .Eq (.ix (.var 3) (.con (.int 0))) (.var 1))
 (.cons (.ret (.var 2))
 .nil)
 .nil)
 .nil)
noncomputable def b_number_named:S :=
 (.cons (.forS (.many [2,3]) (.enum (.var 0)) b_number_named_1)
 (.cons (.ret (.con .non))
 .nil))
noncomputable def b_is_new_name:S :=
 (.cons (.ret (.and (.call 2 (.acons (.var 1) .anil)) (.cmp .Is (.call 6 (.acons (.var 0) (.acons (.var 1) .anil))) (.con .non))))
 .nil)
noncomputable def b_part_read:S :=
 (.cons (.ite (.or (.cmp .NotEq (.bt .len (.acons (.var 1) .anil)) (.con (.int 5))) (.not (.call 7 (.acons (.ix (.var 0) (.glob 2)) (.acons (.ix (.var 1) (.con (.int 1))) .anil)))))
 (.cons (.ret (.con .non))
 .nil)
 .nil)
 (.cons (.ite (.or (.not (.call 4 (.acons (.ix (.var 1) (.con (.int 2))) .anil))) (.or (.not (.call 3 (.acons (.ix (.var 1) (.con (.int 3))) .anil))) (.not (.call 3 (.acons (.ix (.var 1) (.con (.int 4))) .anil)))))
 (.cons (.ret (.con .non))
 .nil)
 .nil)
 (.cons (.ret (.tup (.acons (.ix (.var 1) (.con (.int 1))) (.acons (.ix (.var 1) (.con (.int 2))) (.acons (.bt .int (.acons (.ix (.var 1) (.con (.int 3))) .anil)) (.acons (.bt .int (.acons (.ix (.var 1) (.con (.int 4))) .anil)) .anil))))))
 .nil)))
noncomputable def b_player_read:S :=
 (.cons (.ite (.or (.cmp .NotEq (.bt .len (.acons (.var 1) .anil)) (.con (.int 4))) (.not (.call 7 (.acons (.ix (.var 0) (.glob 3)) (.acons (.ix (.var 1) (.con (.int 1))) .anil)))))
 (.cons (.ret (.con .non))
 .nil)
 .nil)
 (.cons (.ite (.or (.not (.call 5 (.acons (.ix (.var 1) (.con (.int 2))) .anil))) (.not (.call 3 (.acons (.ix (.var 1) (.con (.int 3))) .anil))))
 (.cons (.ret (.con .non))
 .nil)
 .nil)
 (.cons (.ret (.tup (.acons (.ix (.var 1) (.con (.int 1))) (.acons (.ife (.cmp .Eq (.ix (.var 1) (.con (.int 2))) (.con (.str "-"))) (.con (.str "")) (.ix (.var 1) (.con (.int 2)))) (.acons (.bt .int (.acons (.ix (.var 1) (.con (.int 3))) .anil)) .anil)))))
 .nil)))
noncomputable def e_scene_read_1:E :=
 (.call 6 (.acons (.ix (.var 1) (.glob 2)) (.acons (.var 0) .anil)))
noncomputable def b_scene_read:S :=
 (.cons (.ite (.or (.cmp .Lt (.bt .len (.acons (.var 1) .anil)) (.con (.int 4))) (.not (.call 7 (.acons (.ix (.var 0) (.glob 4)) (.acons (.ix (.var 1) (.con (.int 1))) .anil)))))
 (.cons (.ret (.con .non))
 .nil)
 .nil)
 (.cons (.ite (.or (.not (.call 3 (.acons (.ix (.var 1) (.con (.int 2))) .anil))) (.not (.call 3 (.acons (.ix (.var 1) (.con (.int 3))) .anil))))
 (.cons (.ret (.con .non))
 .nil)
 .nil)
 (.cons (.asg (.one 2) (.comp 1 [0] (.one 0) e_scene_read_1 (.seq (.sl (.var 1) (.con (.int 4)) .omit)) (.con (.bl true))))
 (.cons (.ite (.or (.cmp .In (.con .non) (.var 2)) (.not (.call 1 (.acons (.var 2) .anil))))
 (.cons (.ret (.con .non))
 .nil)
 .nil)
 (.cons (.ret (.tup (.acons (.ix (.var 1) (.con (.int 1))) (.acons (.bt .int (.acons (.ix (.var 1) (.con (.int 2))) .anil)) (.acons (.bt .int (.acons (.ix (.var 1) (.con (.int 3))) .anil)) (.acons (.bt .tuple (.acons (.var 2) .anil)) .anil))))))
 .nil)))))
noncomputable def e_like_read_1:E :=
 (.sl (.var 0) .omit (.con (.int 2)))
noncomputable def b_like_read:S :=
 (.cons (.ite (.or (.cmp .NotEq (.bt .len (.acons (.var 1) .anil)) (.con (.int 4))) (.not (.call 3 (.acons (.ix (.var 1) (.con (.int 3))) .anil))))
 (.cons (.ret (.con .non))
 .nil)
 .nil)
 (.cons (.asg (.one 2) (.call 6 (.acons (.ix (.var 0) (.glob 3)) (.acons (.ix (.var 1) (.con (.int 1))) .anil))))
 (.cons (.asg (.one 3) (.call 6 (.acons (.ix (.var 0) (.glob 2)) (.acons (.ix (.var 1) (.con (.int 2))) .anil))))
 (.cons (.ite (.or (.cmp .Is (.var 2) (.con .non)) (.cmp .Is (.var 3) (.con .non)))
 (.cons (.ret (.con .non))
 .nil)
 .nil)
 (.cons (.ite (.cmp .In (.tup (.acons (.var 2) (.acons (.var 3) .anil))) (.comp 1 [] (.one 0) e_like_read_1 (.seq (.ix (.var 0) (.glob 5))) (.con (.bl true))))
 (.cons (.ret (.con .non))
 .nil)
 .nil)
 (.cons (.ret (.tup (.acons (.var 2) (.acons (.var 3) (.acons (.bt .int (.acons (.ix (.var 1) (.con (.int 3))) .anil)) .anil)))))
 .nil))))))
noncomputable def b_cover_read:S :=
 (.cons (.ite (.cmp .NotEq (.bt .len (.acons (.var 1) .anil)) (.con (.int 3)))
 (.cons (.ret (.con .non))
 .nil)
 .nil)
 (.cons (.asg (.one 2) (.call 6 (.acons (.ix (.var 0) (.glob 2)) (.acons (.ix (.var 1) (.con (.int 1))) .anil))))
 (.cons (.asg (.one 3) (.call 6 (.acons (.ix (.var 0) (.glob 3)) (.acons (.ix (.var 1) (.con (.int 2))) .anil))))
 (.cons (.ite (.or (.cmp .Is (.var 2) (.con .non)) (.or (.cmp .Is (.var 3) (.con .non)) (.cmp .In (.tup (.acons (.var 2) (.acons (.var 3) .anil))) (.ix (.var 0) (.glob 6)))))
 (.cons (.ret (.con .non))
 .nil)
 .nil)
 (.cons (.ret (.tup (.acons (.var 2) (.acons (.var 3) .anil))))
 .nil)))))
noncomputable def b_with_row:S :=
 (.cons (.asg (.one 2) (.mth .split (.var 1) (.con (.str " "))))
 (.cons (.ite (.cmp .NotIn (.ix (.var 2) (.con (.int 0))) (.glob 7))
 (.cons (.ret (.con .non))
 .nil)
 .nil)
 (.cons (.asg (.one 3) (.gidx ["part", "player", "scene", "like", "cover"] (.ix (.var 2) (.con (.int 0)))))
 (.cons (.asg (.one 4) (.callT [8,9,10,11,12] (.var 3) (.acons (.var 0) (.acons (.var 2) .anil))))
 (.cons (.ite (.cmp .Is (.var 4) (.con .non))
 (.cons (.ret (.con .non))
 .nil)
 .nil)
 (.cons (.ret (.bin .Add (.bin .Add (.sl (.var 0) .omit (.var 3)) (.tup (.acons (.bin .Add (.ix (.var 0) (.var 3)) (.tup (.acons (.var 4) .anil))) .anil))) (.sl (.var 0) (.bin .Add (.var 3) (.con (.int 1))) .omit)))
 .nil))))))
noncomputable def b_read_book_1:S :=
 (.cons (.asg (.one 1) (.call 13 (.acons (.var 1) (.acons (.var 3) .anil))))
 (.cons (.ite (.cmp .Is (.var 1) (.con .non))
 (.cons (.raisI "NoBook" (.acons (.var 2) .anil))
 .nil)
 .nil)
 .nil))
noncomputable def b_read_book:S :=
 (.cons (.asg (.one 1) (.tup (.acons (.tup .anil) (.acons (.tup .anil) (.acons (.tup .anil) (.acons (.tup .anil) (.acons (.tup .anil) .anil)))))))
 (.cons (.forS (.many [2,3]) (.enum (.var 0)) b_read_book_1)
 (.cons (.ret (.var 1))
 .nil)))
noncomputable def b_law_cell_at:S :=
 (.cons (.ite (.cmp .Lt (.var 1) (.bt .len (.acons (.var 0) .anil)))
 (.cons (.ret (.ix (.var 0) (.var 1)))
 .nil)
 .nil)
 (.cons (.ret (.con (.int 0)))
 .nil))
noncomputable def b_law_mix:S :=
 (.cons (.ret (.bin .Mod (.bin .Add (.bin .Mult (.bin .Mod (.var 0) (.con (.int 1000003))) (.bin .Add (.con (.int 48271)) (.bin .Mult (.bin .Mult (.con (.int 15838)) (.var 1)) (.var 1)))) (.bin .Mult (.con (.int 69621)) (.var 1))) (.con (.int 2147483647))))
 .nil)
noncomputable def b_law_name:S :=
 (.cons (.asg (.one 2) (.ix (.con (.str "abcdefghijklmnopqrstuvwxyz")) (.bin .Mod (.bin .Add (.var 0) (.bin .Mult (.var 1) (.ix (.lst (.acons (.con (.int 1)) (.acons (.con (.int 3)) (.acons (.con (.int 5)) (.acons (.con (.int 7)) .anil))))) (.bin .Mod (.bin .FloorDiv (.var 0) (.con (.int 26))) (.con (.int 4)))))) (.con (.int 26)))))
 (.cons (.asg (.one 3) (.ix (.lst (.acons (.con (.str "")) (.acons (.con (.str "a")) (.acons (.con (.str "ba")) (.acons (.con (.str "zzzzzzz")) .anil))))) (.bin .Mod (.bin .FloorDiv (.var 0) (.con (.int 104))) (.con (.int 4)))))
 (.cons (.asg (.one 4) (.bin .Mod (.bin .FloorDiv (.var 0) (.con (.int 416))) (.bin .Add (.bt .len (.acons (.var 3) .anil)) (.con (.int 1)))))
 (.cons (.ret (.bin .Add (.bin .Add (.sl (.var 3) .omit (.var 4)) (.var 2)) (.sl (.var 3) (.var 4) .omit)))
 .nil))))
noncomputable def b_law_minutes:S :=
 (.cons (.ret (.bin .Mod (.bin .FloorDiv (.var 0) (.con (.int 6))) (.ix (.lst (.acons (.con (.int 7)) (.acons (.con (.int 7)) (.acons (.con (.int 40)) (.acons (.bin .Pow (.con (.int 10)) (.con (.int 9))) .anil))))) (.bin .Add (.bin .FloorDiv (.bin .Mod (.var 0) (.con (.int 6))) (.con (.int 2))) (.bin .FloorDiv (.bin .Mod (.var 0) (.con (.int 6))) (.con (.int 5)))))))
 .nil)
noncomputable def b_law_part:S :=
 (.cons (.asg (.one 3) (.call 16 (.acons (.var 0) (.acons (.var 1) .anil))))
 (.cons (.asg (.one 4) (.ix (.lst (.acons (.con (.str "a")) (.acons (.con (.str "b")) (.acons (.con (.str "a")) (.acons (.sl (.call 17 (.acons (.bin .Mult (.con (.int 7)) (.var 2)) (.acons (.var 3) .anil))) .omit (.con (.int 1))) .anil))))) (.bin .Mod (.var 3) (.con (.int 4)))))
 (.cons (.ret (.tup (.acons (.call 17 (.acons (.var 2) (.acons (.var 1) .anil))) (.acons (.var 4) (.acons (.call 18 (.acons (.bin .FloorDiv (.var 3) (.con (.int 4))) .anil)) (.acons (.call 18 (.acons (.call 16 (.acons (.var 0) (.acons (.bin .Add (.var 1) (.con (.int 20))) .anil))) .anil)) .anil))))))
 .nil)))
noncomputable def b_law_player:S :=
 (.cons (.asg (.one 3) (.call 16 (.acons (.var 0) (.acons (.var 1) .anil))))
 (.cons (.asg (.one 4) (.ix (.lst (.acons (.con (.str "ab")) (.acons (.con (.str "a")) (.acons (.con (.str "bca")) (.acons (.con (.str "")) (.acons (.con (.str "abcdefghijklmnopqrstuvwxyz")) (.acons (.con (.str "zb")) .anil))))))) (.bin .Mod (.var 3) (.con (.int 6)))))
 (.cons (.ret (.tup (.acons (.call 17 (.acons (.var 2) (.acons (.var 1) .anil))) (.acons (.var 4) (.acons (.call 18 (.acons (.bin .FloorDiv (.var 3) (.con (.int 6))) .anil)) .anil)))))
 .nil)))
noncomputable def c_scene_1:E :=
 (.cmp .Eq (.bin .Mod (.bin .FloorDiv (.var 1) (.ix (.lst (.acons (.con (.int 1)) (.acons (.con (.int 3)) (.acons (.con (.int 9)) (.acons (.con (.int 27)) (.acons (.con (.int 81)) (.acons (.con (.int 243)) (.acons (.con (.int 729)) (.acons (.con (.int 2187)) .anil))))))))) (.var 0))) (.con (.int 3))) (.con (.int 0)))
noncomputable def e_scene_2:E :=
 (.var 0)
noncomputable def b_law_scene:S :=
 (.cons (.asg (.one 4) (.call 16 (.acons (.var 0) (.acons (.bin .Add (.var 1) (.con (.int 40))) .anil))))
 (.cons (.asg (.one 5) (.comp 1 [4] (.one 0) e_scene_2 (.rng (.var 3)) c_scene_1))
 (.cons (.asg (.one 6) (.bin .Mod (.var 0) (.bin .Add (.bt .len (.acons (.var 5) .anil)) (.con (.int 1)))))
 (.cons (.asg (.one 4) (.call 16 (.acons (.var 0) (.acons (.var 1) .anil))))
 (.cons (.asg (.one 7) (.call 18 (.acons (.call 16 (.acons (.var 0) (.acons (.bin .Add (.var 1) (.con (.int 20))) .anil))) .anil)))
 (.cons (.ret (.tup (.acons (.call 17 (.acons (.var 2) (.acons (.var 1) .anil))) (.acons (.call 18 (.acons (.var 4) .anil)) (.acons (.var 7) (.acons (.bt .tuple (.acons (.bin .Add (.sl (.var 5) (.var 6) .omit) (.sl (.var 5) .omit (.var 6))) .anil)) .anil))))))
 .nil))))))
noncomputable def b_pairs_1:S :=
 (.cons (.asg (.one 6) (.call 16 (.acons (.var 0) (.acons (.var 5) .anil))))
 (.cons (.asg (.one 7) (.tup (.acons (.bin .FloorDiv (.var 5) (.var 2)) (.acons (.bin .Mod (.var 5) (.var 2)) .anil))))
 (.cons (.ite (.cmp .Eq (.bin .Mod (.bin .FloorDiv (.var 6) (.con (.int 64))) (.var 3)) (.con (.int 0)))
 (.cons (.app 4 (.var 7))
 .nil)
 .nil)
 .nil)))
noncomputable def b_law_pairs:S :=
 (.cons (.asgO 4 (.lst .anil))
 (.cons (.forS (.one 5) (.rng (.bin .Mult (.var 1) (.var 2))) b_pairs_1)
 (.cons (.asg (.one 8) (.bin .Mod (.var 0) (.bin .Add (.bt .len (.acons (.rd 4) .anil)) (.con (.int 1)))))
 (.cons (.ret (.bin .Add (.sl (.rd 4) (.var 8) .omit) (.sl (.rd 4) .omit (.var 8))))
 .nil))))
noncomputable def e_drawn_1:E :=
 (.call 15 (.acons (.var 1) (.acons (.bin .Add (.var 2) (.var 0)) .anil)))
noncomputable def e_drawn_2:E :=
 (.call 19 (.acons (.ix (.var 1) (.con (.int 2))) (.acons (.var 0) (.acons (.ix (.var 1) (.con (.int 0))) .anil))))
noncomputable def e_drawn_3:E :=
 (.call 20 (.acons (.ix (.var 1) (.con (.int 3))) (.acons (.var 0) (.acons (.ix (.var 1) (.con (.int 4))) .anil))))
noncomputable def b_drawn_4:S :=
 (.cons (.app 6 (.call 21 (.acons (.var 8) (.acons (.var 7) (.acons (.ix (.var 2) (.con (.int 5))) (.acons (.var 3) .anil))))))
 .nil)
noncomputable def b_drawn_5:S :=
 (.cons (.app 9 (.tup (.acons (.var 10) (.acons (.var 11) (.acons (.bin .Mod (.call 16 (.acons (.ix (.var 2) (.con (.int 6))) (.acons (.bin .Add (.var 11) (.bin .Mult (.con (.int 9)) (.var 10))) .anil))) (.bin .Pow (.con (.int 10)) (.con (.int 9)))) .anil)))))
 .nil)
noncomputable def b_law_drawn:S :=
 (.cons (.asg (.one 2) (.comp 1 [0,1] (.one 0) e_drawn_1 (.rng (.con (.int 8))) (.con (.bl true))))
 (.cons (.asg (.one 3) (.bin .Add (.bin .Mod (.ix (.var 2) (.con (.int 1))) (.con (.int 7))) (.bin .Mult (.con (.int 2)) (.bt .int (.acons (.and (.cmp .Eq (.bin .Mod (.bin .FloorDiv (.ix (.var 2) (.con (.int 1))) (.con (.int 7))) (.con (.int 8))) (.con (.int 5))) (.cmp .Eq (.bin .Mod (.ix (.var 2) (.con (.int 1))) (.con (.int 7))) (.con (.int 6)))) .anil)))))
 (.cons (.asg (.one 4) (.bt .tuple (.acons (.comp 1 [2] (.one 0) e_drawn_2 (.rng (.var 3)) (.con (.bl true))) .anil)))
 (.cons (.asg (.one 5) (.bt .tuple (.acons (.comp 1 [2] (.one 0) e_drawn_3 (.rng (.bin .Mod (.bin .FloorDiv (.ix (.var 2) (.con (.int 1))) (.con (.int 56))) (.con (.int 7)))) (.con (.bl true))) .anil)))
 (.cons (.asgO 6 (.lst .anil))
 (.cons (.forS (.many [7,8]) (.enum (.sl (.var 0) (.bin .Add (.var 1) (.con (.int 8))) (.bin .Add (.var 1) (.con (.int 17))))) b_drawn_4)
 (.cons (.asgO 9 (.lst .anil))
 (.cons (.forS (.many [10,11]) (.seq (.call 22 (.acons (.ix (.var 2) (.con (.int 6))) (.acons (.bt .len (.acons (.var 5) .anil)) (.acons (.var 3) (.acons (.con (.int 3)) .anil)))))) b_drawn_5)
 (.cons (.asg (.one 12) (.bt .tuple (.acons (.call 22 (.acons (.ix (.var 2) (.con (.int 7))) (.acons (.var 3) (.acons (.bt .len (.acons (.var 5) .anil)) (.acons (.con (.int 2)) .anil))))) .anil)))
 (.cons (.ret (.tup (.acons (.var 4) (.acons (.var 5) (.acons (.bt .tuple (.acons (.rd 6) .anil)) (.acons (.bt .tuple (.acons (.rd 9) .anil)) (.acons (.var 12) .anil)))))))
 .nil))))))))))
noncomputable def e_rows_1:E :=
 (.mth .join (.con (.str " ")) (.lst (.acons (.con (.str "part")) (.acons (.ix (.var 0) (.con (.int 0))) (.acons (.ix (.var 0) (.con (.int 1))) (.acons (.bt .str (.acons (.ix (.var 0) (.con (.int 2))) .anil)) (.acons (.bt .str (.acons (.ix (.var 0) (.con (.int 3))) .anil)) .anil)))))))
noncomputable def b_rows_2:S :=
 (.cons (.app 6 (.mth .join (.con (.str " ")) (.lst (.acons (.con (.str "player")) (.acons (.var 7) (.acons (.ix (.lst (.acons (.var 8) (.acons (.con (.str "-")) .anil))) (.bt .int (.acons (.cmp .Eq (.var 8) (.con (.str ""))) .anil))) (.acons (.bt .str (.acons (.var 9) .anil)) .anil)))))))
 .nil)
noncomputable def e_rows_3:E :=
 (.ix (.ix (.var 1) (.var 0)) (.con (.int 0)))
noncomputable def b_rows_4:S :=
 (.cons (.asg (.one 13) (.bin .Add (.lst (.acons (.con (.str "scene")) (.acons (.var 7) (.acons (.bt .str (.acons (.var 10) .anil)) (.acons (.bt .str (.acons (.var 11) .anil)) .anil))))) (.comp 1 [1] (.one 0) e_rows_3 (.seq (.var 12)) (.con (.bl true)))))
 (.cons (.app 6 (.mth .join (.con (.str " ")) (.var 13)))
 .nil))
noncomputable def b_rows_5:S :=
 (.cons (.app 6 (.mth .join (.con (.str " ")) (.lst (.acons (.con (.str "like")) (.acons (.ix (.ix (.var 2) (.var 14)) (.con (.int 0))) (.acons (.ix (.ix (.var 1) (.var 15)) (.con (.int 0))) (.acons (.bt .str (.acons (.var 16) .anil)) .anil)))))))
 .nil)
noncomputable def b_rows_6:S :=
 (.cons (.app 6 (.mth .join (.con (.str " ")) (.lst (.acons (.con (.str "cover")) (.acons (.ix (.ix (.var 1) (.var 15)) (.con (.int 0))) (.acons (.ix (.ix (.var 2) (.var 14)) (.con (.int 0))) .anil))))))
 .nil)
noncomputable def b_law_rows:S :=
 (.cons (.asg (.many [1,2,3,4,5]) (.var 0))
 (.cons (.asgO 6 (.comp 1 [] (.one 0) e_rows_1 (.seq (.var 1)) (.con (.bl true))))
 (.cons (.forS (.many [7,8,9]) (.seq (.var 2)) b_rows_2)
 (.cons (.forS (.many [7,10,11,12]) (.seq (.var 3)) b_rows_4)
 (.cons (.forS (.many [14,15,16]) (.seq (.var 4)) b_rows_5)
 (.cons (.forS (.many [15,14]) (.seq (.var 5)) b_rows_6)
 (.cons (.retO 6)
 .nil)))))))
noncomputable def b_law_bad_forms:S :=
 (.cons (.asg (.one 2) (.lst (.acons (.con (.str "")) (.acons (.con (.str " ")) (.acons (.con (.str "part")) (.acons (.con (.str "part q")) (.acons (.con (.str "part Q a 1 1")) (.acons (.con (.str "part qqqqqqqqq a 1 1")) (.acons (.con (.str "part q1 a 1 1")) (.acons (.con (.str "part  a 1 1")) .anil))))))))))
 (.cons (.asg (.one 2) (.bin .Add (.var 2) (.lst (.acons (.con (.str "part q ab 1 1")) (.acons (.con (.str "part q A 1 1")) (.acons (.con (.str "part q a 01 1")) (.acons (.con (.str "part q a 1 -1")) (.acons (.con (.str "part q a 1")) (.acons (.con (.str "part q a 1 1 1")) .anil)))))))))
 (.cons (.asg (.one 2) (.bin .Add (.var 2) (.lst (.acons (.con (.str "part q a 1000000000 1")) (.acons (.con (.str "part q a 1 ")) (.acons (.con (.str "Part q a 1 1")) (.acons (.con (.str " part q a 1 1")) (.acons (.con (.str "part q - 1 1")) .anil))))))))
 (.cons (.asg (.one 2) (.bin .Add (.var 2) (.lst (.acons (.con (.str "player q")) (.acons (.con (.str "player q a")) (.acons (.con (.str "player q aa 1")) (.acons (.con (.str "player q A 1")) (.acons (.con (.str "player q a- 1")) (.acons (.con (.str "player q  1")) .anil)))))))))
 (.cons (.asg (.one 2) (.bin .Add (.var 2) (.lst (.acons (.con (.str "player q a 00")) (.acons (.con (.str "part q a 1 1 ")) .anil)))))
 (.cons (.asg (.one 2) (.bin .Add (.var 2) (.lst (.acons (.con (.str "player Q a 1")) (.acons (.con (.str "player q a 1 1")) (.acons (.con (.str "player q -- 1")) (.acons (.con (.str "player q a 1234567890")) (.acons (.con (.str "scene q")) (.acons (.con (.str "scene q 1")) .anil)))))))))
 (.cons (.asg (.one 2) (.bin .Add (.var 2) (.lst (.acons (.con (.str "scene q 1 01")) (.acons (.con (.str "scene q x 1")) (.acons (.con (.str "scene Q 1 1")) (.acons (.con (.str "scene q 1 1 ")) (.acons (.con (.str "scene q 1 1 Q")) (.acons (.con (.str "scene qqqqqqqqq 1 1")) .anil)))))))))
 (.cons (.asg (.one 2) (.bin .Add (.var 2) (.lst (.acons (.bin .Add (.con (.str "scene q 1 1  ")) (.var 0)) (.acons (.bin .Add (.bin .Add (.bin .Add (.con (.str "scene q 1 1 ")) (.var 0)) (.con (.str " "))) (.var 0)) (.acons (.con (.str "like")) (.acons (.bin .Add (.con (.str "like ")) (.var 1)) (.acons (.con (.str "cover")) .anil))))))))
 (.cons (.asg (.one 2) (.bin .Add (.var 2) (.lst (.acons (.bin .Add (.bin .Add (.bin .Add (.con (.str "like ")) (.var 1)) (.con (.str " "))) (.var 0)) (.acons (.bin .Add (.bin .Add (.bin .Add (.bin .Add (.con (.str "like ")) (.var 1)) (.con (.str " "))) (.var 0)) (.con (.str " 01"))) (.acons (.bin .Add (.con (.str "cover ")) (.var 0)) (.acons (.con (.str "tell q")) .anil)))))))
 (.cons (.asg (.one 3) (.bin .Add (.bin .Add (.var 1) (.con (.str " "))) (.var 0)))
 (.cons (.ret (.bin .Add (.var 2) (.lst (.acons (.con (.str "scene")) (.acons (.bin .Add (.bin .Add (.con (.str "like ")) (.var 3)) (.con (.str " 1 1"))) (.acons (.bin .Add (.bin .Add (.bin .Add (.bin .Add (.con (.str "cover ")) (.var 0)) (.con (.str " "))) (.var 1)) (.con (.str " 1"))) (.acons (.bin .Add (.bin .Add (.con (.str "like ")) (.var 3)) (.con (.str " x"))) .anil)))))))
 .nil)))))))))))
noncomputable def b_law_bad_names:S :=
 (.cons (.asgO 2 (.lst (.acons (.con (.str "like nobodyat nobodyas 1")) (.acons (.con (.str "cover nobodyat nobodyas")) (.acons (.con (.str "scene q 1 1 nobodyat")) .anil)))))
 (.cons (.ite (.cmp .NotEq (.ix (.var 0) (.con (.int 0))) (.tup .anil))
 (.cons (.asgO 2 (.bin .Add (.rd 2) (.lst (.acons (.bin .Add (.bin .Add (.con (.str "part ")) (.ix (.ix (.ix (.var 0) (.con (.int 0))) (.bin .Mod (.var 1) (.bt .len (.acons (.ix (.var 0) (.con (.int 0))) .anil)))) (.con (.int 0)))) (.con (.str " a 1 1"))) (.acons (.bin .Add (.bin .Add (.con (.str "cover ")) (.ix (.ix (.ix (.var 0) (.con (.int 0))) (.con (.int 0))) (.con (.int 0)))) (.con (.str " nobodyat"))) .anil)))))
 .nil)
 .nil)
 (.cons (.ite (.cmp .NotEq (.ix (.var 0) (.con (.int 1))) (.tup .anil))
 (.cons (.asgO 2 (.bin .Add (.rd 2) (.lst (.acons (.bin .Add (.bin .Add (.con (.str "player ")) (.ix (.ix (.ix (.var 0) (.con (.int 1))) (.bin .Mod (.var 1) (.bt .len (.acons (.ix (.var 0) (.con (.int 1))) .anil)))) (.con (.int 0)))) (.con (.str " a 1"))) (.acons (.bin .Add (.bin .Add (.con (.str "like ")) (.ix (.ix (.ix (.var 0) (.con (.int 1))) (.con (.int 0))) (.con (.int 0)))) (.con (.str " nobodyat 1"))) .anil)))))
 .nil)
 .nil)
 (.cons (.ite (.cmp .NotEq (.ix (.var 0) (.con (.int 2))) (.tup .anil))
 (.cons (.app 2 (.bin .Add (.bin .Add (.con (.str "scene ")) (.ix (.ix (.ix (.var 0) (.con (.int 2))) (.bin .Mod (.var 1) (.bt .len (.acons (.ix (.var 0) (.con (.int 2))) .anil)))) (.con (.int 0)))) (.con (.str " 1 1"))))
 .nil)
 .nil)
 (.cons (.ite (.cmp .NotEq (.ix (.var 0) (.con (.int 3))) (.tup .anil))
 (.cons (.asg (.many [3,4,5]) (.ix (.ix (.var 0) (.con (.int 3))) (.bin .Mod (.var 1) (.bt .len (.acons (.ix (.var 0) (.con (.int 3))) .anil)))))
 (.cons (.app 2 (.mth .join (.con (.str " ")) (.lst (.acons (.con (.str "like")) (.acons (.ix (.ix (.ix (.var 0) (.con (.int 1))) (.var 3)) (.con (.int 0))) (.acons (.ix (.ix (.ix (.var 0) (.con (.int 0))) (.var 4)) (.con (.int 0))) (.acons (.con (.str "7")) .anil)))))))
 .nil))
 .nil)
 (.cons (.ite (.cmp .NotEq (.ix (.var 0) (.con (.int 4))) (.tup .anil))
 (.cons (.asg (.many [4,3]) (.ix (.ix (.var 0) (.con (.int 4))) (.bin .Mod (.var 1) (.bt .len (.acons (.ix (.var 0) (.con (.int 4))) .anil)))))
 (.cons (.app 2 (.mth .join (.con (.str " ")) (.lst (.acons (.con (.str "cover")) (.acons (.ix (.ix (.ix (.var 0) (.con (.int 0))) (.var 4)) (.con (.int 0))) (.acons (.ix (.ix (.ix (.var 0) (.con (.int 1))) (.var 3)) (.con (.int 0))) .anil))))))
 .nil))
 .nil)
 (.cons (.retO 2)
 .nil)))))))
noncomputable def b_law_refused:S :=
 (.cons (.exp (.call 14 (.acons (.var 0) .anil)))
 .nil)
noncomputable abbrev td_law_refused:Told:=⟨b_law_refused, "NoBook", .non,.int (-1),.non,true⟩
noncomputable def b_law_1:S :=
 (.cons (.asg (.one 7) (.call 26 (.acons (.var 1) (.acons (.bin .FloorDiv (.var 6) (.con (.int 3))) .anil))))
 (.cons (.asg (.one 8) (.ix (.lst (.acons (.ix (.var 5) (.bin .Mod (.bin .FloorDiv (.var 6) (.con (.int 3))) (.bt .len (.acons (.var 5) .anil)))) (.acons (.ix (.var 7) (.bin .Mod (.bin .FloorDiv (.var 6) (.con (.int 3))) (.bt .len (.acons (.var 7) .anil)))) .anil))) (.bt .int (.acons (.cmp .Eq (.bin .Mod (.var 6) (.con (.int 3))) (.con (.int 2))) .anil))))
 (.cons (.ite (.cmp .NotEq (.call 27 (.acons (.bin .Add (.var 2) (.lst (.acons (.var 8) .anil))) .anil)) (.bt .len (.acons (.var 2) .anil)))
 (.cons (.ret (.con (.bl false)))
 .nil)
 .nil)
 .nil)))
noncomputable def b_law:S :=
 (.cons (.asg (.one 1) (.call 23 (.acons (.var 0) (.acons (.con (.int 3)) .anil))))
 (.cons (.asg (.one 2) (.call 24 (.acons (.var 1) .anil)))
 (.cons (.asg (.one 3) (.ix (.ix (.bin .Add (.ix (.var 1) (.con (.int 0))) (.tup (.acons (.tup (.acons (.con (.str "p")) (.acons (.con (.str "a")) (.acons (.con (.int 0)) (.acons (.con (.int 0)) .anil))))) .anil))) (.con (.int 0))) (.con (.int 0))))
 (.cons (.asg (.one 4) (.ix (.ix (.bin .Add (.ix (.var 1) (.con (.int 1))) (.tup (.acons (.tup (.acons (.con (.str "p")) (.acons (.con (.str "a")) (.acons (.con (.int 0)) .anil)))) .anil))) (.con (.int 0))) (.con (.int 0))))
 (.cons (.asg (.one 5) (.call 25 (.acons (.var 3) (.acons (.var 4) .anil))))
 (.cons (.forS (.one 6) (.seq (.bin .Add (.lst (.acons (.call 15 (.acons (.var 0) (.acons (.con (.int 0)) .anil))) (.acons (.call 15 (.acons (.var 0) (.acons (.con (.int 1)) .anil))) .anil))) (.sl (.var 0) (.con (.int 23)) (.con (.int 31))))) b_law_1)
 (.cons (.asgO 9 (.bt .list (.acons (.var 2) .anil)))
 (.cons (.asg (.one 10) (.bin .Add (.bt .len (.acons (.ix (.var 1) (.con (.int 0))) .anil)) (.bt .len (.acons (.ix (.var 1) (.con (.int 1))) .anil))))
 (.cons (.asg (.one 11) (.bin .Add (.var 10) (.bin .Mod (.call 15 (.acons (.var 0) (.acons (.con (.int 2)) .anil))) (.bin .Sub (.bin .Add (.bt .len (.acons (.rd 9) .anil)) (.con (.int 1))) (.var 10)))))
 (.cons (.ins 9 (.var 11) (.ix (.var 5) (.bin .Mod (.call 15 (.acons (.var 0) (.acons (.con (.int 1)) .anil))) (.bt .len (.acons (.var 5) .anil)))))
 (.cons (.app 9 (.ix (.var 5) (.bin .Mod (.call 15 (.acons (.var 0) (.acons (.con (.int 0)) .anil))) (.bt .len (.acons (.var 5) .anil)))))
 (.cons (.asg (.one 12) (.bt .list (.acons (.rd 9) .anil)))
 (.cons (.sealed 9)
 (.cons (.ret (.and (.cmp .Eq (.call 27 (.acons (.var 9) .anil)) (.var 11)) (.and (.cmp .Eq (.var 9) (.var 12)) (.cmp .Eq (.call 27 (.acons (.var 2) .anil)) (.neg (.con (.int 1)))))))
 .nil))))))))))))))
noncomputable def T:Tab:=⟨λg=>match g with | 0=>(.str "abcdefghijklmnopqrstuvwxyz") | 1=>(.str "0123456789") | 2=>(.int 0) | 3=>(.int 1) | 4=>(.int 2) | 5=>(.int 3) | 6=>(.int 4) | 7=>(.tup [(.str "part"),(.str "player"),(.str "scene"),(.str "like"),(.str "cover")]) | _=>.non,λf=>f==24||f==26⟩
@[simp] theorem T_glob0:T.glob 0=(.str "abcdefghijklmnopqrstuvwxyz"):=id rfl
@[simp] theorem T_glob1:T.glob 1=(.str "0123456789"):=id rfl
@[simp] theorem T_glob2:T.glob 2=(.int 0):=id rfl
@[simp] theorem T_glob3:T.glob 3=(.int 1):=id rfl
@[simp] theorem T_glob4:T.glob 4=(.int 2):=id rfl
@[simp] theorem T_glob5:T.glob 5=(.int 3):=id rfl
@[simp] theorem T_glob6:T.glob 6=(.int 4):=id rfl
@[simp] theorem T_glob7:T.glob 7=(.tup [(.str "part"),(.str "player"),(.str "scene"),(.str "like"),(.str "cover")]):=id rfl
noncomputable def dfs:List Df:=[⟨2,2,b_consists_of,none⟩,⟨1,1,b_are_unlike,none⟩,⟨1,1,b_is_name,none⟩,⟨1,1,b_is_amount,none⟩,⟨1,1,b_is_voice,none⟩,⟨1,1,b_are_voices,none⟩,⟨4,2,b_number_named,none⟩,⟨2,2,b_is_new_name,none⟩,⟨2,2,b_part_read,none⟩,⟨2,2,b_player_read,none⟩,⟨3,2,b_scene_read,none⟩,⟨4,2,b_like_read,none⟩,⟨4,2,b_cover_read,none⟩,⟨5,2,b_with_row,none⟩,⟨4,1,b_read_book,none⟩,⟨2,2,b_law_cell_at,none⟩,⟨2,2,b_law_mix,none⟩,⟨5,2,b_law_name,none⟩,⟨1,1,b_law_minutes,none⟩,⟨5,3,b_law_part,none⟩,⟨5,3,b_law_player,none⟩,⟨8,4,b_law_scene,none⟩,⟨9,4,b_law_pairs,none⟩,⟨13,2,b_law_drawn,none⟩,⟨17,1,b_law_rows,none⟩,⟨4,2,b_law_bad_forms,none⟩,⟨6,2,b_law_bad_names,none⟩,⟨3,1,b_law_refused,(some td_law_refused)⟩,⟨13,1,b_law,none⟩]
theorem consists_of (n:Nat) (g w:Str) (hw:w.length≤big):callF T dfs (n+1) 0 [.str g,.str w]=.ok (.bl ((signs w).all (hasC g))):=by
 refine callF_rt (k:=false) rfl rfl rfl ?_
 have e:∀xs:List Nat,compL (compF T (callF T dfs n) 1 [0] (.one 0) e_consists_of_1 (.con (.bl true)) [.v (.str g),.v (.str w)]) (xs.map λc=>D.str (chr1 c))=.ok (xs.map λc=>D.bl (hasC g c)):=by
  intro xs
  induction xs with
  | nil=>rfl
  | cons x r ih =>
   rw[List.map_cons,compL,ih]
   simp[compF,Tr.compEnv,e_consists_of_1]
 have e2:(signs w).length≤big:=by rw[←len_signs];exact hw
 have e4:=blsOf_map (hasC g) (signs w)
 simp[b_consists_of,e,e2,e4]
theorem are_unlike_str (n:Nat) (w:Str) (h:w.length < 1000) (hn:(signs w).Nodup):callF T dfs (n+1) 1 [.str w]=.ok (.bl true):=by
 refine callF_rt (k:=false) rfl rfl rfl ?_
 have hb:=ten_big
 have h1:w.length=(signs w).length:=len_signs w
 have e1:((signs w).map λc=>(Sum.inr (chr1 c):Sum Int Str)).Nodup:=by
  exact nodup_map (λa b e=>by simp[chr1] at e;exact e) hn
 have e2:=metD_nodup e1
 have e3:(metD ((signs w).map λc=>(Sum.inr (chr1 c):Sum Int Str))).length=(signs w).length:=by rw[e2,List.length_map]
 have e4:(signs w).length+1 < 4096:=by lia
 have e5:(signs w).length≤big:=by lia
 have es:=setN_of (keys_str w)
 simp[b_are_unlike,es,e3,e4,h1,e5]
theorem are_unlike_ints (n:Nat) (ns:List Nat) (h:ns.length < 1000) (hn:ns.Nodup):callF T dfs (n+1) 1 [.lst (ns.map λi:Nat=>D.int i)]=.ok (.bl true):=by
 refine callF_rt (k:=false) rfl rfl rfl ?_
 have e0:∀ns:List Nat,keysD (ns.map λi:Nat=>D.int i)=.ok (ns.map λi:Nat=>(Sum.inl (i:Int):Sum Int Str)):=by
  intro ns
  induction ns with
  | nil=>rfl
  | cons a r ih=>rw[List.map_cons,keysD,ih];rfl
 have e1:(ns.map λi:Nat=>(Sum.inl (i:Int):Sum Int Str)).Nodup:=by
  exact nodup_map (λa b e=>by simp at e;exact Int.ofNat.inj e) hn
 have e2:=metD_nodup e1
 have e3:(metD (ns.map λi:Nat=>(Sum.inl (i:Int):Sum Int Str))).length=ns.length:=by rw[e2,List.length_map]
 have e4:ns.length+1 < 4096:=by lia
 have es:=setN_of (x:=.lst (ns.map λi:Nat=>D.int i)) (e0 ns)
 simp[b_are_unlike,es,e3,e4]
theorem is_name (n:Nat) (w:Str) (h:isNm w):callF T dfs (n+2) 2 [.str w]=.ok (.bl true):=by
 refine callF_rt (k:=false) rfl rfl rfl ?_
 obtain⟨h1,h2,h3⟩:=h
 have hb:=ten_big
 have hl:=len_signs w
 have e1:=consists_of n "abcdefghijklmnopqrstuvwxyz" w (by lia)
 have e2:(signs w).length≤big:=by lia
 have e3:(1:Int)≤((signs w).length:Int):=by lia
 have e4:((signs w).length:Int)≤8:=by lia
 rw[h3] at e1
 simp[b_is_name,hl,e1,e2,e3,e4]
theorem is_amount (n m:Nat) (hm:m < 10^9):callF T dfs (n+2) 3 [.str (numS m)]=.ok (.bl true):=by
 refine callF_rt (k:=false) rfl rfl rfl ?_
 have hb:=ten_big
 have hs:signs (numS m)=digs m:=by simp[signs,numS]
 have hl:=len_signs (numS m)
 rw[hs] at hl
 have h2:=digs_len (by lia) hm
 have h1:1≤(digs m).length:=by
  have:=digs_ne m
  cases e:digs m with
  | nil=>exact absurd e this
  | cons _ _=>simp
 have e0:(signs (numS m)).all (hasC "0123456789")=true:=by
  rw[hs,List.all_eq_true]
  intro c hc
  have:=digs_mem hc
  have:c=48∨c=49∨c=50∨c=51∨c=52∨c=53∨c=54∨c=55∨c=56∨c=57:=by lia
  rcases this with rfl | rfl | rfl | rfl | rfl | rfl | rfl | rfl | rfl | rfl<;>decide
 have e1:=consists_of n "0123456789" (numS m) (by lia)
 rw[e0] at e1
 have e2:(digs m).length≤big:=by lia
 have e3:(1:Int)≤((digs m).length:Int):=by lia
 have e4:((digs m).length:Int)≤9:=by lia
 have e5:(do let x ←D.cmp .Eq (.str (numS m)) (.str "0");let k ←x.truth;if k=true then Res.ok x else do let x ←(D.str (numS m)).ix (.int 0);D.cmp .NotEq x (.str "0"))=Res.ok (.bl true):=by
  rw[cmp_eq_str]
  by_cases hz:m=0
  ·subst hz
   have:(numS 0 == "0")=true:=by
    rw[show numS 0 = "0" from str_eq_signs (by rw[hs,digs_zero];decide)];decide
   rw[this];rfl
  ·obtain⟨c,r,q1,q2⟩:=digs_head hz
   have h6:(numS m == "0")=false:=beq_str_false (by
    rw[hs,q1,show signs "0" = [48] by decide]
    intro e;injection e with e _;exact q2 e)
   rw[h6]
   show (do let x ←(D.str (numS m)).ix (.int 0);D.cmp .NotEq x (.str "0"))=Res.ok (.bl true)
   rw[ix_str0 (hs.trans q1) (by lia)]
   show D.cmp .NotEq (.str (chr1 c)) (.str "0")=_
   rw[cmp_ne_str,show (chr1 c == "0")=false from beq_str_false (by
    rw[show signs (chr1 c)=[c] from rfl,show signs "0" = [48] by decide]
    intro e;injection e with e _;exact q2 e)]
   rfl
 simp[b_is_amount,hl,e1,e2,e3,e4,e5]
theorem is_voice (n c:Nat) (h:hasC "abcdefghijklmnopqrstuvwxyz" c=true):callF T dfs (n+1) 4 [.str (chr1 c)]=.ok (.bl true):=by
 refine callF_rt (k:=false) rfl rfl rfl ?_
 have hb:=ten_big
 have h1:(chr1 c).length=1:=rfl
 have e1:1≤big:=by lia
 simp[b_is_voice,h1,h,e1]
theorem are_voices (n:Nat) (w:Str) (h0:1≤(signs w).length) (h1:(signs w).length < 1000) (h2:(signs w).Nodup) (h3:(signs w).all (hasC "abcdefghijklmnopqrstuvwxyz")=true):callF T dfs (n+2) 5 [.str w]=.ok (.bl true):=by
 refine callF_rt (k:=false) rfl rfl rfl ?_
 have hb:=ten_big
 have hl:=len_signs w
 have e1:=consists_of n "abcdefghijklmnopqrstuvwxyz" w (by lia)
 rw[h3] at e1
 have e2:=are_unlike_str n w (by lia) h2
 have e3:(w == "-")=false:=beq_str_false (λe=>by
  rw[e,show signs "-" = [45] by decide] at h3
  exact absurd h3 (by decide))
 have e4:(w == "")=false:=beq_str_false (λe=>by rw[e] at h0;exact absurd h0 (by decide))
 simp[b_are_voices,cmp_eq_str,cmp_ne_str,e1,e2,e3,e4]
theorem are_voices_none (n:Nat):callF T dfs (n+1) 5 [.str "-"]=.ok (.bl true):=by
 refine callF_rt (k:=false) rfl rfl rfl ?_
 have e3:(("-" : Str) == "-")=true:=by decide
 simp[b_are_voices,cmp_eq_str,e3]
theorem nn_body (n:Nat) (A:D) (nm:Str) (k:Int) (p:Str×List D) (x y:Sl):bodyF T (callF T dfs n) (.many [2,3]) b_number_named_1 (.tup [.int k,ent p]) [.v A,.v (.str nm),x,y]=(if p.1==nm then .ok (.rt (.int k) false) else .ok (.nx [.v A,.v (.str nm),.v (.int k),.v (ent p)])):=by
 cases h:(p.1==nm)<;>simp[bodyF,b_number_named_1,ent,cmp_eq_str,h]
theorem nn_loop (n:Nat) (A:D) (nm:Str):∀(ps:List (Str×List D)) (k:Int) (x y:Sl),
 (∀p∈ps,p.1≠nm)→∃x' y',forL (bodyF T (callF T dfs n) (.many [2,3]) b_number_named_1) (enumD k (ps.map ent)) [.v A,.v (.str nm),x,y]=.ok (.nx [.v A,.v (.str nm),x',y'])
 | [],k,x,y,_=>⟨x,y,rfl⟩
 | p::r,k,x,y,h=>by
  have h1:(p.1==nm)=false:=by simpa using h p List.mem_cons_self
  have e:=nn_body n A nm k p x y
  rw[h1] at e
  rw[List.map_cons,enumD,forL_nx e]
  exact nn_loop n A nm r (k+1) _ _ λq hq=>h q (List.mem_cons_of_mem _ hq)
theorem nn_found (n:Nat) (A:D) (nm:Str):∀(ps:List (Str×List D)) (k:Int) (x y:Sl) (i:Nat) (p:Str×List D),
 ps[i]?=some p→p.1=nm→(∀j q,j < i→ps[j]?=some q→q.1≠nm)→forL (bodyF T (callF T dfs n) (.many [2,3]) b_number_named_1) (enumD k (ps.map ent)) [.v A,.v (.str nm),x,y]=.ok (.rt (.int (k+i)) false)
 | [],k,x,y,i,p,h,_,_=>by simp at h
 | q::r,k,x,y,0,p,h,hp,_=>by
  simp at h;subst h
  have e:=nn_body n A nm k q x y
  rw[show (q.1==nm)=true by simpa using hp] at e
  rw[List.map_cons,enumD,forL_rt e]
  simp
 | q::r,k,x,y,i+1,p,h,hp,hl=>by
  have h1:(q.1==nm)=false:=by simpa using hl 0 q (by lia) (by simp)
  have e:=nn_body n A nm k q x y
  rw[h1] at e
  rw[List.map_cons,enumD,forL_nx e,nn_found n A nm r (k+1) _ _ i p (by simpa using h) hp λj q' hj hq=>hl (j+1) q' (by lia) (by simpa using hq)]
  congr 2
  push_cast
  congr 1
  lia
theorem number_named_none (n:Nat) (ps:List (Str×List D)) (nm:Str) (h:∀p∈ps,p.1≠nm):callF T dfs (n+1) 6 [.tup (ps.map ent),.str nm]=.ok .non:=by
 refine callF_rt (k:=false) rfl rfl rfl ?_
 obtain⟨x,y,e⟩:=nn_loop n (.tup (ps.map ent)) nm ps 0 .no .no h
 simp[b_number_named,enumR,e]
theorem number_named (n:Nat) (ps:List (Str×List D)) (i:Nat) (p:Str×List D) (h:ps[i]?=some p) (hn:(ps.map (·.1)).Nodup):callF T dfs (n+1) 6 [.tup (ps.map ent),.str p.1]=.ok (.int i):=by
 refine callF_rt (k:=false) rfl rfl rfl ?_
 have e:=nn_found n (.tup (ps.map ent)) p.1 ps 0 .no .no i p h rfl λj q hj hq e=>by
  have h1:(ps.map (·.1))[j]?=some p.1:=by rw[List.getElem?_map,hq,←e];rfl
  have h2:(ps.map (·.1))[i]?=some p.1:=by rw[List.getElem?_map,h];rfl
  have hi:i < (ps.map (·.1)).length:=(List.getElem?_eq_some_iff.mp h2).1
  have hj':j < (ps.map (·.1)).length:=(List.getElem?_eq_some_iff.mp h1).1
  have:=(List.getElem?_inj hj' hn).mp (h1.trans h2.symm)
  lia
 simp[b_number_named,enumR,e]
theorem is_new_name (n:Nat) (ps:List (Str×List D)) (nm:Str) (hm:isNm nm) (h:∀p∈ps,p.1≠nm):callF T dfs (n+3) 7 [.tup (ps.map ent),.str nm]=.ok (.bl true):=by
 refine callF_rt (k:=false) rfl rfl rfl ?_
 have e1:=is_name n nm hm
 have e2:=number_named_none (n+1) ps nm h
 simp[b_is_new_name,e1,e2]
theorem part_read (n:Nat) (ps:List (Str×List D)) (A B C G:D) (nm:Str) (v off on:Nat) (hm:isNm nm) (hn:∀p∈ps,p.1≠nm) (hv:hasC "abcdefghijklmnopqrstuvwxyz" v=true) (h1:off < 10^9) (h2:on < 10^9) :
 callF T dfs (n+4) 8 [.tup [.tup (ps.map ent),A,B,C,G],.lst [.str "part", .str nm,.str (chr1 v),.str (numS off),.str (numS on)]]=.ok (ent (nm,[.str (chr1 v),.int off,.int on])):=by
 refine callF_rt (k:=false) rfl rfl rfl ?_
 have e1:=is_new_name n ps nm hm hn
 have e2:=is_voice (n+2) v hv
 have e3:=is_amount (n+1) off h1
 have e4:=is_amount (n+1) on h2
 have e5:=run_int_num off h1
 have e6:=run_int_num on h2
 simp[b_part_read,ent,e1,e2,e3,e4,e5,e6]
theorem player_read (n:Nat) (ps:List (Str×List D)) (A B C G:D) (nm w:Str) (hire:Nat) (hm:isNm nm) (hn:∀p∈ps,p.1≠nm) (h0:1≤(signs w).length) (h1:(signs w).length < 1000) (h2:(signs w).Nodup) (h3:(signs w).all (hasC "abcdefghijklmnopqrstuvwxyz")=true) (h4:hire < 10^9) :
 callF T dfs (n+4) 9 [.tup [A,.tup (ps.map ent),B,C,G],.lst [.str "player", .str nm,.str w,.str (numS hire)]]=.ok (ent (nm,[.str w,.int hire])):=by
 refine callF_rt (k:=false) rfl rfl rfl ?_
 have e1:=is_new_name n ps nm hm hn
 have e2:=are_voices (n+1) w h0 h1 h2 h3
 have e3:=is_amount (n+1) hire h4
 have e5:=run_int_num hire h4
 have e6:(w == "-")=false:=beq_str_false (λe=>by
  rw[e,show signs "-" = [45] by decide] at h3
  exact absurd h3 (by decide))
 simp[b_player_read,ent,cmp_eq_str,e1,e2,e3,e5,e6]
theorem player_read_none (n:Nat) (ps:List (Str×List D)) (A B C G:D) (nm:Str) (hire:Nat) (hm:isNm nm) (hn:∀p∈ps,p.1≠nm) (h4:hire < 10^9) :
 callF T dfs (n+4) 9 [.tup [A,.tup (ps.map ent),B,C,G],.lst [.str "player", .str nm,.str "-", .str (numS hire)]]=.ok (ent (nm,[.str "", .int hire])):=by
 refine callF_rt (k:=false) rfl rfl rfl ?_
 have e1:=is_new_name n ps nm hm hn
 have e2:=are_voices_none (n+2)
 have e3:=is_amount (n+1) hire h4
 have e5:=run_int_num hire h4
 have e6:(("-" : Str) == "-")=true:=by decide
 simp[b_player_read,ent,cmp_eq_str,e1,e2,e3,e5,e6]
theorem cover_read (n:Nat) (ps qs:List (Str×List D)) (cs:List (Nat×Nat)) (B C:D) (i k:Nat) (p q:Str×List D) (hp:ps[i]?=some p) (hq:qs[k]?=some q) (hn:(ps.map (·.1)).Nodup) (hm:(qs.map (·.1)).Nodup) (hc:(i,k)∉cs) :
 callF T dfs (n+2) 12 [.tup [.tup (ps.map ent),.tup (qs.map ent),B,C,.tup (cs.map λc:Nat×Nat=>D.tup [.int c.1,.int c.2])],.lst [.str "cover", .str p.1,.str q.1]]=.ok (.tup [.int i,.int k]):=by
 refine callF_rt (k:=false) rfl rfl rfl ?_
 have e1:=number_named n ps i p hp hn
 have e2:=number_named n qs k q hq hm
 have e3:D.cmp .In (.tup [.int i,.int k]) (.tup (cs.map λc:Nat×Nat=>D.tup [.int c.1,.int c.2]))=.ok (.bl false):=by
  show (D.inn _ _>>=λk=>Res.ok (D.bl k))=_
  rw[in_pairs hc];rfl
 simp[b_cover_read,e1,e2,e3]
theorem like_read (n:Nat) (ps qs:List (Str×List D)) (ls:List (Nat×Nat×Nat)) (B G:D) (i k m:Nat) (p q:Str×List D) (hp:ps[i]?=some p) (hq:qs[k]?=some q) (hn:(ps.map (·.1)).Nodup) (hm:(qs.map (·.1)).Nodup) (hc:(k,i)∉ls.map λl=>(l.1,l.2.1)) (hl:ls.length≤1000) (h1:m < 10^9) :
 callF T dfs (n+3) 11 [.tup [.tup (ps.map ent),.tup (qs.map ent),B,.tup (ls.map λl:Nat×Nat×Nat=>D.tup [.int l.1,.int l.2.1,.int l.2.2]),G],.lst [.str "like", .str q.1,.str p.1,.str (numS m)]]=.ok (.tup [.int k,.int i,.int m]):=by
 refine callF_rt (k:=false) rfl rfl rfl ?_
 have hb:=ten_big
 have e1:=number_named (n+1) ps i p hp hn
 have e2:=number_named (n+1) qs k q hq hm
 have e4:=is_amount n m h1
 have e5:=run_int_num m h1
 have e6:∀(env:Nv) (xs:List (Nat×Nat×Nat)),compL (compF T (callF T dfs (n+2)) 1 [] (.one 0) e_like_read_1 (.con (.bl true)) env) (xs.map λl:Nat×Nat×Nat=>D.tup [.int l.1,.int l.2.1,.int l.2.2])=.ok ((xs.map λl=>(l.1,l.2.1)).map λc:Nat×Nat=>D.tup [.int c.1,.int c.2]):=by
  intro env xs
  induction xs with
  | nil=>rfl
  | cons x r ih =>
   rw[List.map_cons,compL,ih]
   simp[compF,Tr.compEnv,e_like_read_1]
   rfl
 have e7:D.cmp .In (.tup [.int k,.int i]) (.lst ((ls.map λl=>(l.1,l.2.1)).map λc:Nat×Nat=>D.tup [.int c.1,.int c.2]))=.ok (.bl false):=by
  show (D.inn _ _>>=λk=>Res.ok (D.bl k))=_
  rw[in_pairsL hc];rfl
 have e8:ls.length≤big:=by lia
 rw[List.map_map] at e7
 simp only[List.map_map] at e6
 simp[b_like_read,e1,e2,e4,e5,e6,e7,e8]
noncomputable def nameAt (ps:List (Str×List D)) (i:Nat):Str:=((ps[i]?).map (·.1)).getD ""
theorem nameAt_get {ps:List (Str×List D)} {i:Nat} {p:Str×List D} (h:ps[i]?=some p):nameAt ps i=p.1:=by unfold nameAt;rw[h];rfl
theorem scene_read (n:Nat) (ps ss:List (Str×List D)) (A B G:D) (nm:Str) (len pause:Nat) (is:List Nat) (hm:isNm nm) (hnew:∀p∈ss,p.1≠nm) (hn:(ps.map (·.1)).Nodup) (h1:len < 10^9) (h2:pause < 10^9) (hi:∀i∈is,i < ps.length) (hd:is.Nodup) (hl:is.length < 900) :
 callF T dfs (n+4) 10 [.tup [.tup (ps.map ent),A,.tup (ss.map ent),B,G],.lst (.str "scene" :: .str nm::.str (numS len)::.str (numS pause)::is.map λi=>D.str (nameAt ps i))]=.ok (ent (nm,[.int len,.int pause,.tup (is.map λi:Nat=>D.int i)])):=by
 refine callF_rt (k:=false) rfl rfl rfl ?_
 have hb:=ten_big
 have e1:=is_new_name n ss nm hm hnew
 have e3:=is_amount (n+1) len h1
 have e4:=is_amount (n+1) pause h2
 have e5:=run_int_num len h1
 have e6:=run_int_num pause h2
 have e7:∀(env:Nv) (xs:List Nat),(∀i∈xs,i < ps.length)→compL (compF T (callF T dfs (n+3)) 1 [0] (.one 0) e_scene_read_1 (.con (.bl true)) (.v (.tup [.tup (ps.map ent),A,.tup (ss.map ent),B,G])::env)) (xs.map λi=>D.str (nameAt ps i))=.ok (xs.map λi:Nat=>D.int i):=by
  intro env xs hx
  induction xs with
  | nil=>rfl
  | cons x r ih =>
   have q:=hx x List.mem_cons_self
   have q1:=List.getElem?_eq_getElem q
   have q2:=number_named (n+2) ps x ps[x] q1 hn
   rw[←nameAt_get q1] at q2
   rw[List.map_cons,compL,ih λi h=>hx i (List.mem_cons_of_mem _ h)]
   simp[compF,Tr.compEnv,e_scene_read_1,q2]
 have e7':=λenv=>e7 env is hi
 clear e7
 have e8:D.cmp .In .non (.lst (is.map λi:Nat=>D.int i))=.ok (.bl false):=by
  have a1:∀xs:List Nat,D.mem .non (xs.map λi:Nat=>D.int i)=false:=by
   intro xs
   induction xs with
   | nil=>rfl
   | cons x r ih=>rw[List.map_cons,D.mem,ih];rfl
  have a2:∀xs:List Nat,D.pls 30 (xs.map λi:Nat=>D.int i)=true:=by
   intro xs
   induction xs with
   | nil=>rfl
   | cons x r ih=>rw[List.map_cons,D.pls,ih];rfl
  show (when (D.pls 30 _&&D.pl 29 .non) (.ok (D.mem _ _))>>=λk=>Res.ok (D.bl k))=_
  rw[a1,a2];rfl
 have e9:=are_unlike_ints (n+2) is (by lia) hd
 have e10:cut (D.str "scene" :: .str nm::.str (numS len)::.str (numS pause)::is.map λi=>D.str (nameAt ps i)) (some 4) none=is.map λi=>D.str (nameAt ps i):=by
  exact (cut_from (a:=4) (by simp)).trans rfl
 have e11:is.length≤big:=by lia
 have e12:¬((is.length:Int)+1+1+1+1 < 4):=by lia
 simp[b_scene_read,ent,e1,e3,e4,e5,e6,e7',e8,e9,e10,e11,e12]
theorem run_split (r:Str) (h:r.length < big):Mt.run .split (.str r) (.str " ")=.ok (.lst ((splitS r 32).map D.str)):=by
 have e:(" " : Str)=⟨#[32]⟩:=by decide
 rw[e]
 show when (decide (r.length < big)&&decide (32 < 256)) (.ok (D.lst ((splitS r 32).map D.str)))=_
 rw[show decide (r.length < big)=true by simpa using h]
 rfl
theorem is_tup_non (xs:List D):D.cmp .Is (.tup xs) .non=.ok (.bl false):=rfl
theorem kin0:D.cmp .NotIn (.str "part") (.tup [.str "part", .str "player", .str "scene", .str "like", .str "cover"])=.ok (.bl false):=by rfl
theorem kin1:D.cmp .NotIn (.str "player") (.tup [.str "part", .str "player", .str "scene", .str "like", .str "cover"])=.ok (.bl false):=by rfl
theorem kin2:D.cmp .NotIn (.str "scene") (.tup [.str "part", .str "player", .str "scene", .str "like", .str "cover"])=.ok (.bl false):=by rfl
theorem kin3:D.cmp .NotIn (.str "like") (.tup [.str "part", .str "player", .str "scene", .str "like", .str "cover"])=.ok (.bl false):=by rfl
theorem kin4:D.cmp .NotIn (.str "cover") (.tup [.str "part", .str "player", .str "scene", .str "like", .str "cover"])=.ok (.bl false):=by rfl
theorem kix0:idxS ["part", "player", "scene", "like", "cover"] (.str "part")=.ok (.int 0):=by rfl
theorem kix1:idxS ["part", "player", "scene", "like", "cover"] (.str "player")=.ok (.int 1):=by rfl
theorem kix2:idxS ["part", "player", "scene", "like", "cover"] (.str "scene")=.ok (.int 2):=by rfl
theorem kix3:idxS ["part", "player", "scene", "like", "cover"] (.str "like")=.ok (.int 3):=by rfl
theorem kix4:idxS ["part", "player", "scene", "like", "cover"] (.str "cover")=.ok (.int 4):=by rfl
theorem ktab0 (a b c d e:Nat):tabAt [a,b,c,d,e] (.int 0)=.ok a:=by rfl
theorem ktab1 (a b c d e:Nat):tabAt [a,b,c,d,e] (.int 1)=.ok b:=by rfl
theorem ktab2 (a b c d e:Nat):tabAt [a,b,c,d,e] (.int 2)=.ok c:=by rfl
theorem ktab3 (a b c d e:Nat):tabAt [a,b,c,d,e] (.int 3)=.ok d:=by rfl
theorem ktab4 (a b c d e:Nat):tabAt [a,b,c,d,e] (.int 4)=.ok e:=by rfl
theorem add_tups {a b:List D} (h:a.length+b.length≤big):D.bin .Add (.tup a) (.tup b)=.ok (.tup (a++b)):=by
 show when (decide (a.length+b.length≤big)) (.ok (D.tup (a++b)))=_
 rw[show decide (a.length+b.length≤big)=true by simpa using h]
 rfl
theorem with_row0 (n:Nat) (ps:List D) (A B C G:D) (r:Str) (ws:List Str) (xs:List D) (hr:r.length < big) (hs:splitS r 32=("part" : Str)::ws) (hl:ps.length < 1000)
 (h:callF T dfs n 8 [.tup [D.tup ps,A,B,C,G],.lst (.str "part" :: ws.map D.str)]=.ok (.tup xs)) :
 callF T dfs (n+1) 13 [.tup [D.tup ps,A,B,C,G],.str r]=.ok (.tup [D.tup (ps++[D.tup xs]),A,B,C,G]):=by
 refine callF_rt (k:=true) rfl rfl rfl ?_
 have hb:=ten_big
 have e1:=run_split r hr
 rw[hs,List.map_cons] at e1
 have e2:D.bin .Add (.tup ps) (.tup [.tup xs])=.ok (.tup (ps++[.tup xs])):=add_tups (by simp;lia)
 have e3:cut [D.tup ps,A,B,C,G] none (some 0)=[]:=rfl
 have e4:cut [D.tup ps,A,B,C,G] (some 1) none=[A,B,C,G]:=rfl
 have e5:D.bin .Add (.tup []) (.tup [.tup (ps++[.tup xs])])=.ok (.tup [D.tup (ps++[D.tup xs])]):=add_tups (by simp;lia)
 have e6:D.bin .Add (.tup [D.tup (ps++[D.tup xs])]) (.tup [A,B,C,G])=.ok (.tup [D.tup (ps++[D.tup xs]),A,B,C,G]):=add_tups (by simp;lia)
 simp[b_with_row,e1,kin0,kix0,ktab0,h,is_tup_non,e2,e3,e4,e5,e6]
theorem with_row1 (n:Nat) (ps:List D) (A:List D) (B C G:D) (r:Str) (ws:List Str) (xs:List D) (hr:r.length < big) (hs:splitS r 32=("player" : Str)::ws) (hl:ps.length < 1000)
 (h:callF T dfs n 9 [.tup [D.tup A,D.tup ps,B,C,G],.lst (.str "player" :: ws.map D.str)]=.ok (.tup xs)) :
 callF T dfs (n+1) 13 [.tup [D.tup A,D.tup ps,B,C,G],.str r]=.ok (.tup [D.tup A,D.tup (ps++[D.tup xs]),B,C,G]):=by
 refine callF_rt (k:=true) rfl rfl rfl ?_
 have hb:=ten_big
 have e1:=run_split r hr
 rw[hs,List.map_cons] at e1
 have e2:D.bin .Add (.tup ps) (.tup [.tup xs])=.ok (.tup (ps++[.tup xs])):=add_tups (by simp;lia)
 have e3:cut [D.tup A,D.tup ps,B,C,G] none (some 1)=[D.tup A]:=rfl
 have e4:cut [D.tup A,D.tup ps,B,C,G] (some 2) none=[B,C,G]:=rfl
 have e5:D.bin .Add (.tup [D.tup A]) (.tup [.tup (ps++[.tup xs])])=.ok (.tup [D.tup A,D.tup (ps++[D.tup xs])]):=add_tups (by simp;lia)
 have e6:D.bin .Add (.tup [D.tup A,D.tup (ps++[D.tup xs])]) (.tup [B,C,G])=.ok (.tup [D.tup A,D.tup (ps++[D.tup xs]),B,C,G]):=add_tups (by simp;lia)
 simp[b_with_row,e1,kin1,kix1,ktab1,h,is_tup_non,e2,e3,e4,e5,e6]
theorem with_row2 (n:Nat) (ps:List D) (A:List D) (B C G:D) (r:Str) (ws:List Str) (xs:List D) (hr:r.length < big) (hs:splitS r 32=("scene" : Str)::ws) (hl:ps.length < 1000)
 (h:callF T dfs n 10 [.tup [D.tup A,B,D.tup ps,C,G],.lst (.str "scene" :: ws.map D.str)]=.ok (.tup xs)) :
 callF T dfs (n+1) 13 [.tup [D.tup A,B,D.tup ps,C,G],.str r]=.ok (.tup [D.tup A,B,D.tup (ps++[D.tup xs]),C,G]):=by
 refine callF_rt (k:=true) rfl rfl rfl ?_
 have hb:=ten_big
 have e1:=run_split r hr
 rw[hs,List.map_cons] at e1
 have e2:D.bin .Add (.tup ps) (.tup [.tup xs])=.ok (.tup (ps++[.tup xs])):=add_tups (by simp;lia)
 have e3:cut [D.tup A,B,D.tup ps,C,G] none (some 2)=[D.tup A,B]:=rfl
 have e4:cut [D.tup A,B,D.tup ps,C,G] (some 3) none=[C,G]:=rfl
 have e5:D.bin .Add (.tup [D.tup A,B]) (.tup [.tup (ps++[.tup xs])])=.ok (.tup [D.tup A,B,D.tup (ps++[D.tup xs])]):=add_tups (by simp;lia)
 have e6:D.bin .Add (.tup [D.tup A,B,D.tup (ps++[D.tup xs])]) (.tup [C,G])=.ok (.tup [D.tup A,B,D.tup (ps++[D.tup xs]),C,G]):=add_tups (by simp;lia)
 simp[b_with_row,e1,kin2,kix2,ktab2,h,is_tup_non,e2,e3,e4,e5,e6]
theorem with_row3 (n:Nat) (ps:List D) (A:List D) (B C G:D) (r:Str) (ws:List Str) (xs:List D) (hr:r.length < big) (hs:splitS r 32=("like" : Str)::ws) (hl:ps.length < 1000)
 (h:callF T dfs n 11 [.tup [D.tup A,B,C,D.tup ps,G],.lst (.str "like" :: ws.map D.str)]=.ok (.tup xs)) :
 callF T dfs (n+1) 13 [.tup [D.tup A,B,C,D.tup ps,G],.str r]=.ok (.tup [D.tup A,B,C,D.tup (ps++[D.tup xs]),G]):=by
 refine callF_rt (k:=true) rfl rfl rfl ?_
 have hb:=ten_big
 have e1:=run_split r hr
 rw[hs,List.map_cons] at e1
 have e2:D.bin .Add (.tup ps) (.tup [.tup xs])=.ok (.tup (ps++[.tup xs])):=add_tups (by simp;lia)
 have e3:cut [D.tup A,B,C,D.tup ps,G] none (some 3)=[D.tup A,B,C]:=rfl
 have e4:cut [D.tup A,B,C,D.tup ps,G] (some 4) none=[G]:=rfl
 have e5:D.bin .Add (.tup [D.tup A,B,C]) (.tup [.tup (ps++[.tup xs])])=.ok (.tup [D.tup A,B,C,D.tup (ps++[D.tup xs])]):=add_tups (by simp;lia)
 have e6:D.bin .Add (.tup [D.tup A,B,C,D.tup (ps++[D.tup xs])]) (.tup [G])=.ok (.tup [D.tup A,B,C,D.tup (ps++[D.tup xs]),G]):=add_tups (by simp;lia)
 simp[b_with_row,e1,kin3,kix3,ktab3,h,is_tup_non,e2,e3,e4,e5,e6]
theorem with_row4 (n:Nat) (ps:List D) (A:List D) (B C G:D) (r:Str) (ws:List Str) (xs:List D) (hr:r.length < big) (hs:splitS r 32=("cover" : Str)::ws) (hl:ps.length < 1000)
 (h:callF T dfs n 12 [.tup [D.tup A,B,C,G,D.tup ps],.lst (.str "cover" :: ws.map D.str)]=.ok (.tup xs)) :
 callF T dfs (n+1) 13 [.tup [D.tup A,B,C,G,D.tup ps],.str r]=.ok (.tup [D.tup A,B,C,G,D.tup (ps++[D.tup xs])]):=by
 refine callF_rt (k:=true) rfl rfl rfl ?_
 have hb:=ten_big
 have e1:=run_split r hr
 rw[hs,List.map_cons] at e1
 have e2:D.bin .Add (.tup ps) (.tup [.tup xs])=.ok (.tup (ps++[.tup xs])):=add_tups (by simp;lia)
 have e3:cut [D.tup A,B,C,G,D.tup ps] none (some 4)=[D.tup A,B,C,G]:=rfl
 have e4:cut [D.tup A,B,C,G,D.tup ps] (some 5) none=[]:=rfl
 have e5:D.bin .Add (.tup [D.tup A,B,C,G]) (.tup [.tup (ps++[.tup xs])])=.ok (.tup [D.tup A,B,C,G,D.tup (ps++[D.tup xs])]):=add_tups (by simp;lia)
 have e6:D.bin .Add (.tup [D.tup A,B,C,G,D.tup (ps++[D.tup xs])]) (.tup [])=.ok (.tup [D.tup A,B,C,G,D.tup (ps++[D.tup xs])]):=add_tups (by simp;lia)
 simp[b_with_row,e1,kin4,kix4,ktab4,h,is_tup_non,e2,e3,e4,e5,e6]
theorem rb_body (n:Nat) (A:D) (r:Str) (k:Int) (b b':List D) (x y:Sl) (h:callF T dfs n 13 [.tup b,.str r]=.ok (.tup b')):bodyF T (callF T dfs n) (.many [2,3]) b_read_book_1 (.tup [.int k,.str r]) [.v A,.v (.tup b),x,y]=.ok (.nx [.v A,.v (.tup b'),.v (.int k),.v (.str r)]):=by
 simp[bodyF,b_read_book_1,h,is_tup_non]
noncomputable def Run (n:Nat):List D→List Str→List D→Prop
 | b,[],b'=>b=b'
 | b,r::rs,b'=>∃b1,callF T dfs n 13 [.tup b,.str r]=.ok (.tup b1)∧Run n b1 rs b'
theorem Run.app {n:Nat}:∀ {rs qs:List Str} {b b1 b2:List D},Run n b rs b1→Run n b1 qs b2→Run n b (rs++qs) b2
 | [],qs,b,b1,b2,h1,h2=>by cases h1;exact h2
 | r::rs,qs,b,b1,b2,h1,h2=>by
  obtain⟨b3,e,h⟩:=h1
  exact⟨b3,e,Run.app h h2⟩
theorem run_loop (n:Nat) (A:D):∀(rows:List Str) (b b':List D) (x y:Sl) (k:Int),Run n b rows b' →
 ∃x' y',forL (bodyF T (callF T dfs n) (.many [2,3]) b_read_book_1) (enumD k (rows.map D.str)) [.v A,.v (.tup b),x,y]=.ok (.nx [.v A,.v (.tup b'),x',y'])
 | [],b,b',x,y,k,h=>by cases h;exact⟨x,y,rfl⟩
 | r::q,b,b',x,y,k,h=>by
  obtain⟨b1,e0,h⟩:=h
  have e:=rb_body n A r k b b1 x y e0
  obtain⟨x',y',e2⟩:=run_loop n A q b1 b' (.v (.int k)) (.v (.str r)) (k+1) h
  refine⟨x',y',?_⟩
  rw[List.map_cons,enumD,forL_nx e,e2]
theorem read_run (n:Nat) (rows:List Str) (b':List D) (h:Run n (bkT [] [] [] [] []) rows b'):callF T dfs (n+1) 14 [.lst (rows.map D.str)]=.ok (.tup b'):=by
 refine callF_rt (k:=false) rfl rfl rfl ?_
 obtain⟨x,y,e⟩:=run_loop n (.lst (rows.map D.str)) rows _ b' .no .no 0 h
 unfold bkT at e
 simp only[List.map_nil] at e
 simp[b_read_book,enumR,e]
theorem step_P (n:Nat) (ps qs ss:List (Str×List D)) (ls:List (Nat×Nat×Nat)) (cs:List (Nat×Nat)) (x:PtB) (g:GP x) (hn:∀p∈ps,p.1≠x.name) (hl:ps.length < 1000):callF T dfs (n+5) 13 [.tup (bkT ps qs ss ls cs),.str (rowT (wordP x))]=.ok (.tup (bkT (ps++[x.p]) qs ss ls cs)):=by
 have hb:20000 < big:=by decide
 have wd:=words_P g
 have hlen:=row_len wd (by simp[wordP])
 have h:=part_read n ps (.tup (qs.map ent)) (.tup (ss.map ent)) (.tup (ls.map lkT)) (.tup (cs.map cvT)) x.name x.v x.off x.on g.nm hn g.v g.off g.on
 have:=with_row0 (n+4) (ps.map ent) (.tup (qs.map ent)) (.tup (ss.map ent)) (.tup (ls.map lkT)) (.tup (cs.map cvT)) (rowT (wordP x)) _ _ (by lia) (row_split (by simp[wordP]) wd) (by simpa using hl) h
 rw[show bkT ps qs ss ls cs=[.tup (ps.map ent),.tup (qs.map ent),.tup (ss.map ent),.tup (ls.map lkT),.tup (cs.map cvT)] from rfl,this]
 unfold bkT
 rw[List.map_append];rfl
theorem step_Q (n:Nat) (ps qs ss:List (Str×List D)) (ls:List (Nat×Nat×Nat)) (cs:List (Nat×Nat)) (x:PlB) (g:GQ x) (hn:∀p∈qs,p.1≠x.name) (hl:qs.length < 1000):callF T dfs (n+5) 13 [.tup (bkT ps qs ss ls cs),.str (rowT (wordQ x))]=.ok (.tup (bkT ps (qs++[x.p]) ss ls cs)):=by
 have hb:20000 < big:=by decide
 have wd:=words_Q g
 have hlen:=row_len wd (by simp[wordQ])
 have h:callF T dfs (n+4) 9 [.tup [.tup (ps.map ent),.tup (qs.map ent),.tup (ss.map ent),.tup (ls.map lkT),.tup (cs.map cvT)],.lst (.str "player" :: [x.name,voW x.voices,numS x.hire].map D.str)]=.ok (ent x.p):=by
  unfold voW
  by_cases c:signs x.voices=[]
  ·rw[if_pos c]
   have e:x.voices = "" := str_eq_signs (by rw[c];rfl)
   unfold PlB.p
   rw[e]
   exact player_read_none n qs (.tup (ps.map ent)) (.tup (ss.map ent)) (.tup (ls.map lkT)) (.tup (cs.map cvT)) x.name x.hire g.nm hn g.hire
  ·rw[if_neg c]
   exact player_read n qs (.tup (ps.map ent)) (.tup (ss.map ent)) (.tup (ls.map lkT)) (.tup (cs.map cvT)) x.name x.voices x.hire g.nm hn (List.length_pos_iff.mpr c) (by have:=g.len;lia) g.nd g.vs g.hire
 have:=with_row1 (n+4) (qs.map ent) (ps.map ent) (.tup (ss.map ent)) (.tup (ls.map lkT)) (.tup (cs.map cvT)) (rowT (wordQ x)) _ _ (by lia) (row_split (by simp[wordQ]) wd) (by simpa using hl) h
 rw[show bkT ps qs ss ls cs=[.tup (ps.map ent),.tup (qs.map ent),.tup (ss.map ent),.tup (ls.map lkT),.tup (cs.map cvT)] from rfl,this]
 unfold bkT
 rw[List.map_append];rfl
theorem step_S (n:Nat) (ps qs ss:List (Str×List D)) (ls:List (Nat×Nat×Nat)) (cs:List (Nat×Nat)) (x:ScB) (hps:∀p∈ps,isNm p.1) (hd:(ps.map (·.1)).Nodup) (g:GS ps.length x) (hn:∀p∈ss,p.1≠x.name) (hl:ss.length < 1000):callF T dfs (n+5) 13 [.tup (bkT ps qs ss ls cs),.str (rowT (wordS ps x))]=.ok (.tup (bkT ps qs (ss++[x.p]) ls cs)):=by
 have hb:20000 < big:=by decide
 have wd:=words_S hps g
 have hlen:=row_len wd (by have:=g.cnt;simp[wordS];lia)
 have h:=scene_read n ps ss (.tup (qs.map ent)) (.tup (ls.map lkT)) (.tup (cs.map cvT)) x.name x.len x.pause x.who g.nm hn hd g.len g.pause g.lt g.nd (by have:=g.cnt;lia)
 have h':callF T dfs (n+4) 10 [.tup [.tup (ps.map ent),.tup (qs.map ent),.tup (ss.map ent),.tup (ls.map lkT),.tup (cs.map cvT)],.lst (.str "scene" :: (x.name::numS x.len::numS x.pause::x.who.map (nmAt ps)).map D.str)]=.ok (ent x.p):=by
  rw[List.map_cons,List.map_cons,List.map_cons,List.map_map]
  exact h
 have:=with_row2 (n+4) (ss.map ent) (ps.map ent) (.tup (qs.map ent)) (.tup (ls.map lkT)) (.tup (cs.map cvT)) (rowT (wordS ps x)) _ _ (by lia) (row_split (by simp[wordS]) wd) (by simpa using hl) h'
 rw[show bkT ps qs ss ls cs=[.tup (ps.map ent),.tup (qs.map ent),.tup (ss.map ent),.tup (ls.map lkT),.tup (cs.map cvT)] from rfl,this]
 unfold bkT
 rw[List.map_append];rfl
theorem nmAt_get {ps:List (Str×List D)} {i:Nat} {p:Str×List D} (h:ps[i]?=some p):nmAt ps i=p.1:=by unfold nmAt;rw[h];rfl
theorem step_L (n:Nat) (ps qs ss:List (Str×List D)) (ls:List (Nat×Nat×Nat)) (cs:List (Nat×Nat)) (l:Nat×Nat×Nat) (hps:∀p∈ps,isNm p.1) (hqs:∀p∈qs,isNm p.1) (hd:(ps.map (·.1)).Nodup) (hd2:(qs.map (·.1)).Nodup) (g1:l.1 < qs.length) (g2:l.2.1 < ps.length) (g3:l.2.2 < 10^9) (hn:(l.1,l.2.1)∉ls.map λl=>(l.1,l.2.1)) (hl:ls.length < 1000):callF T dfs (n+5) 13 [.tup (bkT ps qs ss ls cs),.str (rowT (wordL ps qs l))]=.ok (.tup (bkT ps qs ss (ls++[l]) cs)):=by
 have hb:20000 < big:=by decide
 have wd:=words_L hps hqs g1 g2 g3
 have hlen:=row_len wd (by simp[wordL])
 have h:=like_read (n+1) ps qs ls (.tup (ss.map ent)) (.tup (cs.map cvT)) l.2.1 l.1 l.2.2 _ _ (List.getElem?_eq_getElem g2) (List.getElem?_eq_getElem g1) hd hd2 hn (by lia) g3
 have h':callF T dfs (n+4) 11 [.tup [.tup (ps.map ent),.tup (qs.map ent),.tup (ss.map ent),.tup (ls.map lkT),.tup (cs.map cvT)],.lst (.str "like" :: [nmAt qs l.1,nmAt ps l.2.1,numS l.2.2].map D.str)]=.ok (lkT l):=by
  rw[nmAt_get (List.getElem?_eq_getElem g2),nmAt_get (List.getElem?_eq_getElem g1)]
  exact h
 have:=with_row3 (n+4) (ls.map lkT) (ps.map ent) (.tup (qs.map ent)) (.tup (ss.map ent)) (.tup (cs.map cvT)) (rowT (wordL ps qs l)) _ _ (by lia) (row_split (by simp[wordL]) wd) (by simpa using hl) h'
 rw[show bkT ps qs ss ls cs=[.tup (ps.map ent),.tup (qs.map ent),.tup (ss.map ent),.tup (ls.map lkT),.tup (cs.map cvT)] from rfl,this]
 unfold bkT
 rw[List.map_append];rfl
theorem step_C (n:Nat) (ps qs ss:List (Str×List D)) (ls:List (Nat×Nat×Nat)) (cs:List (Nat×Nat)) (c:Nat×Nat) (hps:∀p∈ps,isNm p.1) (hqs:∀p∈qs,isNm p.1) (hd:(ps.map (·.1)).Nodup) (hd2:(qs.map (·.1)).Nodup) (g1:c.1 < ps.length) (g2:c.2 < qs.length) (hn:c∉cs) (hl:cs.length < 1000):callF T dfs (n+5) 13 [.tup (bkT ps qs ss ls cs),.str (rowT (wordC ps qs c))]=.ok (.tup (bkT ps qs ss ls (cs++[c]))):=by
 have hb:20000 < big:=by decide
 have wd:=words_C hps hqs g1 g2
 have hlen:=row_len wd (by simp[wordC])
 have h:=cover_read (n+2) ps qs cs (.tup (ss.map ent)) (.tup (ls.map lkT)) c.1 c.2 _ _ (List.getElem?_eq_getElem g1) (List.getElem?_eq_getElem g2) hd hd2 hn
 have h':callF T dfs (n+4) 12 [.tup [.tup (ps.map ent),.tup (qs.map ent),.tup (ss.map ent),.tup (ls.map lkT),.tup (cs.map cvT)],.lst (.str "cover" :: [nmAt ps c.1,nmAt qs c.2].map D.str)]=.ok (cvT c):=by
  rw[nmAt_get (List.getElem?_eq_getElem g1),nmAt_get (List.getElem?_eq_getElem g2)]
  exact h
 have:=with_row4 (n+4) (cs.map cvT) (ps.map ent) (.tup (qs.map ent)) (.tup (ss.map ent)) (.tup (ls.map lkT)) (rowT (wordC ps qs c)) _ _ (by lia) (row_split (by simp[wordC]) wd) (by simpa using hl) h'
 rw[show bkT ps qs ss ls cs=[.tup (ps.map ent),.tup (qs.map ent),.tup (ss.map ent),.tup (ls.map lkT),.tup (cs.map cvT)] from rfl,this]
 unfold bkT
 rw[List.map_append];rfl
theorem run_A (n:Nat) (ss:List (Str×List D)) (ls:List (Nat×Nat×Nat)) (cs:List (Nat×Nat)):∀(A:List IA) (ps qs:List (Str×List D)),(∀x,Sum.inl x∈A→GP x)→(∀y,Sum.inr y∈A→GQ y) →
 (ps.map (·.1)++(A.filterMap aP).map (·.name)).Nodup→(qs.map (·.1)++(A.filterMap aQ).map (·.name)).Nodup→ps.length+A.length < 1000→qs.length+A.length < 1000 →
 Run (n+5) (bkT ps qs ss ls cs) (A.map rowA) (bkT (ps++(A.filterMap aP).map PtB.p) (qs++(A.filterMap aQ).map PlB.p) ss ls cs)
 | [],ps,qs,_,_,_,_,_,_=>by
  show bkT ps qs ss ls cs=bkT (ps++[]) (qs++[]) ss ls cs
  rw[List.append_nil,List.append_nil]
 | .inl x::A,ps,qs,h1,h2,h3,h4,h5,h6=>by
  rw[List.length_cons] at h5 h6
  have e3:(Sum.inl x::A:List IA).filterMap aP=x::A.filterMap aP:=rfl
  have e4:(Sum.inl x::A:List IA).filterMap aQ=A.filterMap aQ:=rfl
  rw[e3,List.map_cons] at h3
  rw[e4] at h4
  have hn:∀p∈ps,p.1≠x.name:=λp hp e=>by
   have:=(List.nodup_append.mp h3).2.2 p.1 (List.mem_map.mpr ⟨p,hp,rfl⟩) x.name List.mem_cons_self
   exact this e
  refine⟨_,step_P n ps qs ss ls cs x (h1 x List.mem_cons_self) hn (by lia),?_⟩
  rw[e3,e4,List.map_cons]
  have:=run_A n ss ls cs A (ps++[x.p]) qs (λy hy=>h1 y (List.mem_cons_of_mem _ hy)) (λy hy=>h2 y (List.mem_cons_of_mem _ hy)) (by rw[List.map_append,List.append_assoc];exact h3) h4 (by simp;lia) (by lia)
  rwa [List.append_assoc] at this
 | .inr x::A,ps,qs,h1,h2,h3,h4,h5,h6=>by
  rw[List.length_cons] at h5 h6
  have e3:(Sum.inr x::A:List IA).filterMap aP=A.filterMap aP:=rfl
  have e4:(Sum.inr x::A:List IA).filterMap aQ=x::A.filterMap aQ:=rfl
  rw[e3] at h3
  rw[e4,List.map_cons] at h4
  have hn:∀p∈qs,p.1≠x.name:=λp hp e=>by
   have:=(List.nodup_append.mp h4).2.2 p.1 (List.mem_map.mpr ⟨p,hp,rfl⟩) x.name List.mem_cons_self
   exact this e
  refine⟨_,step_Q n ps qs ss ls cs x (h2 x List.mem_cons_self) hn (by lia),?_⟩
  rw[e3,e4,List.map_cons]
  have:=run_A n ss ls cs A ps (qs++[x.p]) (λy hy=>h1 y (List.mem_cons_of_mem _ hy)) (λy hy=>h2 y (List.mem_cons_of_mem _ hy)) h3 (by rw[List.map_append,List.append_assoc];exact h4) (by lia) (by simp;lia)
  rwa [List.append_assoc] at this
theorem run_Z (n:Nat) (ps qs:List (Str×List D)) (hps:∀p∈ps,isNm p.1) (hqs:∀p∈qs,isNm p.1) (hd:(ps.map (·.1)).Nodup) (hd2:(qs.map (·.1)).Nodup):∀(Z:List IZ) (ss:List (Str×List D)) (ls:List (Nat×Nat×Nat)) (cs:List (Nat×Nat)),
 (∀x,Sum.inl x∈Z→GS ps.length x)→(∀l,Sum.inr (Sum.inl l)∈Z→l.1 < qs.length∧l.2.1 < ps.length∧l.2.2 < 10^9)→(∀c,Sum.inr (Sum.inr c)∈Z→c.1 < ps.length∧c.2 < qs.length) →
 (ss.map (·.1)++(Z.filterMap zS).map (·.name)).Nodup→((ls++Z.filterMap zL).map λl=>(l.1,l.2.1)).Nodup→(cs++Z.filterMap zC).Nodup→ss.length+Z.length < 1000→ls.length+Z.length < 1000→cs.length+Z.length < 1000 →
 Run (n+5) (bkT ps qs ss ls cs) (Z.map (rowZ ps qs)) (bkT ps qs (ss++(Z.filterMap zS).map ScB.p) (ls++Z.filterMap zL) (cs++Z.filterMap zC))
 | [],ss,ls,cs,_,_,_,_,_,_,_,_,_=>by
  show bkT ps qs ss ls cs=bkT ps qs (ss++[]) (ls++[]) (cs++[])
  rw[List.append_nil,List.append_nil,List.append_nil]
 | .inl x::Z,ss,ls,cs,h1,h2,h3,h4,h5,h6,h7,h8,h9=>by
  rw[List.length_cons] at h7 h8 h9
  have e1:(Sum.inl x::Z:List IZ).filterMap zS=x::Z.filterMap zS:=rfl
  have e2:(Sum.inl x::Z:List IZ).filterMap zL=Z.filterMap zL:=rfl
  have e3:(Sum.inl x::Z:List IZ).filterMap zC=Z.filterMap zC:=rfl
  rw[e1,List.map_cons] at h4
  rw[e2] at h5
  rw[e3] at h6
  have hn:∀p∈ss,p.1≠x.name:=λp hp e=>by
   have:=(List.nodup_append.mp h4).2.2 p.1 (List.mem_map.mpr ⟨p,hp,rfl⟩) x.name List.mem_cons_self
   exact this e
  refine⟨_,step_S n ps qs ss ls cs x hps hd (h1 x List.mem_cons_self) hn (by lia),?_⟩
  rw[e1,e2,e3,List.map_cons]
  have:=run_Z n ps qs hps hqs hd hd2 Z (ss++[x.p]) ls cs (λy hy=>h1 y (List.mem_cons_of_mem _ hy)) (λy hy=>h2 y (List.mem_cons_of_mem _ hy)) (λy hy=>h3 y (List.mem_cons_of_mem _ hy)) (by rw[List.map_append,List.append_assoc];exact h4) h5 h6 (by simp;lia) (by lia) (by lia)
  rwa [List.append_assoc] at this
 | .inr (.inl l)::Z,ss,ls,cs,h1,h2,h3,h4,h5,h6,h7,h8,h9=>by
  rw[List.length_cons] at h7 h8 h9
  have e1:(Sum.inr (Sum.inl l)::Z:List IZ).filterMap zS=Z.filterMap zS:=rfl
  have e2:(Sum.inr (Sum.inl l)::Z:List IZ).filterMap zL=l::Z.filterMap zL:=rfl
  have e3:(Sum.inr (Sum.inl l)::Z:List IZ).filterMap zC=Z.filterMap zC:=rfl
  rw[e1] at h4
  rw[e2] at h5
  rw[e3] at h6
  have hn:(l.1,l.2.1)∉ls.map λl=>(l.1,l.2.1):=λhm=>by
   rw[List.map_append,List.map_cons] at h5
   exact (List.nodup_append.mp h5).2.2 _ hm _ List.mem_cons_self rfl
  obtain⟨g1,g2,g3⟩:=h2 l List.mem_cons_self
  refine⟨_,step_L n ps qs ss ls cs l hps hqs hd hd2 g1 g2 g3 hn (by lia),?_⟩
  rw[e1,e2,e3]
  have:=run_Z n ps qs hps hqs hd hd2 Z ss (ls++[l]) cs (λy hy=>h1 y (List.mem_cons_of_mem _ hy)) (λy hy=>h2 y (List.mem_cons_of_mem _ hy)) (λy hy=>h3 y (List.mem_cons_of_mem _ hy)) h4 (by rw[List.append_assoc];exact h5) h6 (by lia) (by simp;lia) (by lia)
  rwa [List.append_assoc] at this
 | .inr (.inr c)::Z,ss,ls,cs,h1,h2,h3,h4,h5,h6,h7,h8,h9=>by
  rw[List.length_cons] at h7 h8 h9
  have e1:(Sum.inr (Sum.inr c)::Z:List IZ).filterMap zS=Z.filterMap zS:=rfl
  have e2:(Sum.inr (Sum.inr c)::Z:List IZ).filterMap zL=Z.filterMap zL:=rfl
  have e3:(Sum.inr (Sum.inr c)::Z:List IZ).filterMap zC=c::Z.filterMap zC:=rfl
  rw[e1] at h4
  rw[e2] at h5
  rw[e3] at h6
  have hn:c∉cs:=λhm=>(List.nodup_append.mp h6).2.2 _ hm _ List.mem_cons_self rfl
  obtain⟨g1,g2⟩:=h3 c List.mem_cons_self
  refine⟨_,step_C n ps qs ss ls cs c hps hqs hd hd2 g1 g2 hn (by lia),?_⟩
  rw[e1,e2,e3]
  have:=run_Z n ps qs hps hqs hd hd2 Z ss ls (cs++[c]) (λy hy=>h1 y (List.mem_cons_of_mem _ hy)) (λy hy=>h2 y (List.mem_cons_of_mem _ hy)) (λy hy=>h3 y (List.mem_cons_of_mem _ hy)) h4 h5 (by rw[List.append_assoc];exact h6) (by lia) (by lia) (by simp;lia)
  rwa [List.append_assoc] at this
theorem rows_P (n:Nat) (env:Nv):∀Ps:List PtB,(∀x∈Ps,GP x)→compL (compF T (callF T dfs n) 1 [] (.one 0) e_rows_1 (.con (.bl true)) env) ((Ps.map PtB.p).map ent)=.ok ((Ps.map λx=>rowT (wordP x)).map D.str)
 | [],_=>rfl
 | x::r,h=>by
  have g:=h x List.mem_cons_self
  have j:=run_join (words_P g) (by simp[wordP])
  simp only[wordP,List.map_cons,List.map_nil] at j
  have n1:=run_str_num g.off
  have n2:=run_str_num g.on
  rw[List.map_cons,List.map_cons,compL,rows_P n env r λy hy=>h y (List.mem_cons_of_mem _ hy)]
  simp[compF,Tr.compEnv,e_rows_1,ent,PtB.p,n1,n2,j,wordP]
theorem rows_Q (n:Nat) (x0 x1 x2 x3 x4 x5 x10 x11 x12 x13 x14 x15 x16:Sl):∀(Qs:List PlB),(∀x∈Qs,GQ x)→∀(acc:List D) (x7 x8 x9:Sl),acc.length+Qs.length < 1000 →
 ∃x7' x8' x9',forL (bodyF T (callF T dfs n) (.many [7,8,9]) b_rows_2) ((Qs.map PlB.p).map ent) [x0,x1,x2,x3,x4,x5,.o (.lst acc),x7,x8,x9,x10,x11,x12,x13,x14,x15,x16] =
  .ok (.nx [x0,x1,x2,x3,x4,x5,.o (.lst (acc++(Qs.map λx=>rowT (wordQ x)).map D.str)),x7',x8',x9',x10,x11,x12,x13,x14,x15,x16])
 | [],_,acc,x7,x8,x9,_=>⟨x7,x8,x9,by simp[forL_nil]⟩
 | x::r,h,acc,x7,x8,x9,ha=>by
  rw[List.length_cons] at ha
  have hb:=ten_big
  have g:=h x List.mem_cons_self
  have j:=run_join (words_Q g) (by simp[wordQ])
  simp only[wordQ,List.map_cons,List.map_nil] at j
  have n1:=run_str_num g.hire
  have l1:acc.length < big:=by lia
  have c:D.cmp .Eq (.str x.voices) (.str "")=.ok (.bl (decide (signs x.voices=[]))):=by
   rw[cmp_eq_str]
   congr 2
   by_cases z:signs x.voices=[]
   ·have:x.voices = "" := str_eq_signs (by rw[z];rfl)
    rw[decide_eq_true z,this];decide +kernel
   ·rw[decide_eq_false z]
    exact beq_str_false (by rw[show signs ("" : Str)=[] from rfl];exact z)
  have v:D.ix (.lst [.str x.voices,.str "-"]) (.int (b2z (decide (signs x.voices=[]))))=.ok (.str (voW x.voices)):=by
   rw[ix2]
   unfold voW
   by_cases z:signs x.voices=[]
   ·rw[decide_eq_true z,if_pos rfl,if_pos z]
   ·rw[decide_eq_false z,if_neg z];rfl
  have e:bodyF T (callF T dfs n) (.many [7,8,9]) b_rows_2 (ent x.p) [x0,x1,x2,x3,x4,x5,.o (.lst acc),x7,x8,x9,x10,x11,x12,x13,x14,x15,x16] =
   .ok (.nx [x0,x1,x2,x3,x4,x5,.o (.lst (acc++[.str (rowT (wordQ x))])),.v (.str x.name),.v (.str x.voices),.v (.int x.hire),x10,x11,x12,x13,x14,x15,x16]):=by
   simp[bodyF,b_rows_2,ent,PlB.p,c,v,n1,j,l1,wordQ]
  obtain⟨y7,y8,y9,e2⟩:=rows_Q n x0 x1 x2 x3 x4 x5 x10 x11 x12 x13 x14 x15 x16 r (λy hy=>h y (List.mem_cons_of_mem _ hy)) (acc++[.str (rowT (wordQ x))]) (.v (.str x.name)) (.v (.str x.voices)) (.v (.int x.hire)) (by simp;lia)
  exact⟨y7,y8,y9,by rw[List.map_cons,List.map_cons,forL_nx e,e2,List.map_cons,List.map_cons,List.append_assoc];rfl⟩
theorem rows_names (n:Nat) (ps:List (Str×List D)) (x0:Sl) (rest:Nv):∀is:List Nat,(∀i∈is,i < ps.length)→compL (compF T (callF T dfs n) 1 [1] (.one 0) e_rows_3 (.con (.bl true)) (x0::.v (.tup (ps.map ent))::rest)) (is.map λi:Nat=>D.int i)=.ok ((is.map (nmAt ps)).map D.str)
 | [],_=>rfl
 | i::r,h=>by
  have hi:=h i List.mem_cons_self
  have e:=ents_at hi
  have e2:=nmAt_ge hi
  rw[List.map_cons,compL,rows_names n ps x0 rest r λy hy=>h y (List.mem_cons_of_mem _ hy)]
  simp[compF,Tr.compEnv,e_rows_3,e,e2]
theorem rows_S (n:Nat) (ps:List (Str×List D)) (hps:∀p∈ps,isNm p.1) (x0 x2 x3 x4 x5 x8 x9 x14 x15 x16:Sl):∀(Ss:List ScB),(∀x∈Ss,GS ps.length x)→∀(acc:List D) (x7 x10 x11 x12 x13:Sl),acc.length+Ss.length < 1000 →
 ∃x7' x10' x11' x12' x13',forL (bodyF T (callF T dfs n) (.many [7,10,11,12]) b_rows_4) ((Ss.map ScB.p).map ent) [x0,.v (.tup (ps.map ent)),x2,x3,x4,x5,.o (.lst acc),x7,x8,x9,x10,x11,x12,x13,x14,x15,x16] =
  .ok (.nx [x0,.v (.tup (ps.map ent)),x2,x3,x4,x5,.o (.lst (acc++(Ss.map λx=>rowT (wordS ps x)).map D.str)),x7',x8,x9,x10',x11',x12',x13',x14,x15,x16])
 | [],_,acc,x7,x10,x11,x12,x13,_=>⟨x7,x10,x11,x12,x13,by simp[forL_nil]⟩
 | x::r,h,acc,x7,x10,x11,x12,x13,ha=>by
  rw[List.length_cons] at ha
  have hb:=ten_big
  have g:=h x List.mem_cons_self
  have hc:=g.cnt
  have j:=run_join (words_S hps g) (by simp[wordS];lia)
  have n1:=run_str_num g.len
  have n2:=run_str_num g.pause
  have l1:acc.length < big:=by lia
  have c:=λrest=>rows_names n ps x0 rest x.who g.lt
  have ad:D.bin .Add (.lst [.str "scene", .str x.name,.str (numS x.len),.str (numS x.pause)]) (.lst ((x.who.map (nmAt ps)).map D.str))=.ok (.lst ((wordS ps x).map D.str)):=by
   rw[add_lsts (by simp;lia)];rfl
  have l2:x.who.length≤big:=by lia
  have e:bodyF T (callF T dfs n) (.many [7,10,11,12]) b_rows_4 (ent x.p) [x0,.v (.tup (ps.map ent)),x2,x3,x4,x5,.o (.lst acc),x7,x8,x9,x10,x11,x12,x13,x14,x15,x16] =
   .ok (.nx [x0,.v (.tup (ps.map ent)),x2,x3,x4,x5,.o (.lst (acc++[.str (rowT (wordS ps x))])),.v (.str x.name),x8,x9,.v (.int x.len),.v (.int x.pause),.v (.tup (x.who.map λi:Nat=>D.int i)),.v (.lst ((wordS ps x).map D.str)),x14,x15,x16]):=by
   generalize (wordS ps x).map D.str=W at *
   generalize hNm:(x.who.map (nmAt ps)).map D.str=NN at *
   rw[show ent x.p=.tup [.str x.name,.int x.len,.int x.pause,.tup (x.who.map λi:Nat=>D.int i)] from rfl]
   simp[bodyF,b_rows_4,n1,n2,c,l2,ad,j,l1]
  obtain⟨y7,y10,y11,y12,y13,e2⟩:=rows_S n ps hps x0 x2 x3 x4 x5 x8 x9 x14 x15 x16 r (λy hy=>h y (List.mem_cons_of_mem _ hy)) (acc++[.str (rowT (wordS ps x))]) (.v (.str x.name)) (.v (.int x.len)) (.v (.int x.pause)) (.v (.tup (x.who.map λi:Nat=>D.int i))) (.v (.lst ((wordS ps x).map D.str))) (by simp;lia)
  exact⟨y7,y10,y11,y12,y13,by rw[List.map_cons,List.map_cons,forL_nx e,e2,List.map_cons,List.map_cons,List.append_assoc];rfl⟩
theorem rows_L (n:Nat) (ps qs:List (Str×List D)) (hps:∀p∈ps,isNm p.1) (hqs:∀p∈qs,isNm p.1) (x0 x3 x4 x5 x7 x8 x9 x10 x11 x12 x13:Sl):∀(Ls:List (Nat×Nat×Nat)),(∀l∈Ls,l.1 < qs.length∧l.2.1 < ps.length∧l.2.2 < 10^9)→∀(acc:List D) (x14 x15 x16:Sl),acc.length+Ls.length < 1000 →
 ∃x14' x15' x16',forL (bodyF T (callF T dfs n) (.many [14,15,16]) b_rows_5) (Ls.map lkT) [x0,.v (.tup (ps.map ent)),.v (.tup (qs.map ent)),x3,x4,x5,.o (.lst acc),x7,x8,x9,x10,x11,x12,x13,x14,x15,x16] =
  .ok (.nx [x0,.v (.tup (ps.map ent)),.v (.tup (qs.map ent)),x3,x4,x5,.o (.lst (acc++(Ls.map λl=>rowT (wordL ps qs l)).map D.str)),x7,x8,x9,x10,x11,x12,x13,x14',x15',x16'])
 | [],_,acc,x14,x15,x16,_=>⟨x14,x15,x16,by simp[forL_nil]⟩
 | l::r,h,acc,x14,x15,x16,ha=>by
  rw[List.length_cons] at ha
  have hb:=ten_big
  obtain⟨g1,g2,g3⟩:=h l List.mem_cons_self
  have j:=run_join (words_L hps hqs g1 g2 g3) (by simp[wordL])
  simp only[wordL,List.map_cons,List.map_nil,nmAt_ge g1,nmAt_ge g2] at j
  have n1:=run_str_num g3
  have e1:=ents_at g1
  have e2:=ents_at g2
  have l1:acc.length < big:=by lia
  have e:bodyF T (callF T dfs n) (.many [14,15,16]) b_rows_5 (lkT l) [x0,.v (.tup (ps.map ent)),.v (.tup (qs.map ent)),x3,x4,x5,.o (.lst acc),x7,x8,x9,x10,x11,x12,x13,x14,x15,x16] =
   .ok (.nx [x0,.v (.tup (ps.map ent)),.v (.tup (qs.map ent)),x3,x4,x5,.o (.lst (acc++[.str (rowT (wordL ps qs l))])),x7,x8,x9,x10,x11,x12,x13,.v (.int l.1),.v (.int l.2.1),.v (.int l.2.2)]):=by
   simp[bodyF,b_rows_5,lkT,e1,e2,n1,j,l1,wordL,nmAt_ge g1,nmAt_ge g2]
  obtain⟨y1,y2,y3,e3⟩:=rows_L n ps qs hps hqs x0 x3 x4 x5 x7 x8 x9 x10 x11 x12 x13 r (λy hy=>h y (List.mem_cons_of_mem _ hy)) (acc++[.str (rowT (wordL ps qs l))]) (.v (.int l.1)) (.v (.int l.2.1)) (.v (.int l.2.2)) (by simp;lia)
  exact⟨y1,y2,y3,by rw[List.map_cons,forL_nx e,e3,List.map_cons,List.map_cons,List.append_assoc];rfl⟩
theorem rows_C (n:Nat) (ps qs:List (Str×List D)) (hps:∀p∈ps,isNm p.1) (hqs:∀p∈qs,isNm p.1) (x0 x3 x4 x5 x7 x8 x9 x10 x11 x12 x13 x16:Sl):∀(Cs:List (Nat×Nat)),(∀c∈Cs,c.1 < ps.length∧c.2 < qs.length)→∀(acc:List D) (x14 x15:Sl),acc.length+Cs.length < 1000 →
 ∃x14' x15',forL (bodyF T (callF T dfs n) (.many [15,14]) b_rows_6) (Cs.map cvT) [x0,.v (.tup (ps.map ent)),.v (.tup (qs.map ent)),x3,x4,x5,.o (.lst acc),x7,x8,x9,x10,x11,x12,x13,x14,x15,x16] =
  .ok (.nx [x0,.v (.tup (ps.map ent)),.v (.tup (qs.map ent)),x3,x4,x5,.o (.lst (acc++(Cs.map λc=>rowT (wordC ps qs c)).map D.str)),x7,x8,x9,x10,x11,x12,x13,x14',x15',x16])
 | [],_,acc,x14,x15,_=>⟨x14,x15,by simp[forL_nil]⟩
 | c::r,h,acc,x14,x15,ha=>by
  rw[List.length_cons] at ha
  have hb:=ten_big
  obtain⟨g1,g2⟩:=h c List.mem_cons_self
  have j:=run_join (words_C hps hqs g1 g2) (by simp[wordC])
  simp only[wordC,List.map_cons,List.map_nil,nmAt_ge g1,nmAt_ge g2] at j
  have e1:=ents_at g1
  have e2:=ents_at g2
  have l1:acc.length < big:=by lia
  have e:bodyF T (callF T dfs n) (.many [15,14]) b_rows_6 (cvT c) [x0,.v (.tup (ps.map ent)),.v (.tup (qs.map ent)),x3,x4,x5,.o (.lst acc),x7,x8,x9,x10,x11,x12,x13,x14,x15,x16] =
   .ok (.nx [x0,.v (.tup (ps.map ent)),.v (.tup (qs.map ent)),x3,x4,x5,.o (.lst (acc++[.str (rowT (wordC ps qs c))])),x7,x8,x9,x10,x11,x12,x13,.v (.int c.2),.v (.int c.1),x16]):=by
   simp[bodyF,b_rows_6,cvT,e1,e2,j,l1,wordC,nmAt_ge g1,nmAt_ge g2]
  obtain⟨y1,y2,e3⟩:=rows_C n ps qs hps hqs x0 x3 x4 x5 x7 x8 x9 x10 x11 x12 x13 x16 r (λy hy=>h y (List.mem_cons_of_mem _ hy)) (acc++[.str (rowT (wordC ps qs c))]) (.v (.int c.2)) (.v (.int c.1)) (by simp;lia)
  exact⟨y1,y2,by rw[List.map_cons,forL_nx e,e3,List.map_cons,List.map_cons,List.append_assoc];rfl⟩
theorem law_rows (n:Nat) {Ps Qs Ss Ls Cs} (g:GB Ps Qs Ss Ls Cs):callF T dfs (n+1) 24 [.tup (bkT (Ps.map PtB.p) (Qs.map PlB.p) (Ss.map ScB.p) Ls Cs)]=.ok (.lst ((rowsB Ps Qs Ss Ls Cs).map D.str)):=by
 have hb:=ten_big
 have b1:=g.lp
 have b2:=g.lq
 have b3:=g.ls
 have b4:=g.ll
 have b5:=g.lc
 generalize hB:bkT (Ps.map PtB.p) (Qs.map PlB.p) (Ss.map ScB.p) Ls Cs=B
 have e1:=λenv=>rows_P n env Ps g.gp
 obtain⟨q7,q8,q9,e2⟩:=rows_Q n (.v (.tup B)) (.v (.tup ((Ps.map PtB.p).map ent))) (.v (.tup ((Qs.map PlB.p).map ent))) (.v (.tup ((Ss.map ScB.p).map ent))) (.v (.tup (Ls.map lkT))) (.v (.tup (Cs.map cvT))) .no .no .no .no .no .no .no Qs g.gq ((Ps.map λx=>rowT (wordP x)).map D.str) .no .no .no (by simp;lia)
 obtain⟨s7,s10,s11,s12,s13,e3⟩:=rows_S n (Ps.map PtB.p) g.nmP (.v (.tup B)) (.v (.tup ((Qs.map PlB.p).map ent))) (.v (.tup ((Ss.map ScB.p).map ent))) (.v (.tup (Ls.map lkT))) (.v (.tup (Cs.map cvT))) q8 q9 .no .no .no Ss (by simpa using g.gs) (((Ps.map λx=>rowT (wordP x)).map D.str)++(Qs.map λx=>rowT (wordQ x)).map D.str) q7 .no .no .no .no (by simp;lia)
 obtain⟨l14,l15,l16,e4⟩:=rows_L n (Ps.map PtB.p) (Qs.map PlB.p) g.nmP g.nmQ (.v (.tup B)) (.v (.tup ((Ss.map ScB.p).map ent))) (.v (.tup (Ls.map lkT))) (.v (.tup (Cs.map cvT))) s7 q8 q9 s10 s11 s12 s13 Ls (by simpa using g.gl) ((((Ps.map λx=>rowT (wordP x)).map D.str)++(Qs.map λx=>rowT (wordQ x)).map D.str)++(Ss.map λx=>rowT (wordS (Ps.map PtB.p) x)).map D.str) .no .no .no (by simp;lia)
 obtain⟨c14,c15,e5⟩:=rows_C n (Ps.map PtB.p) (Qs.map PlB.p) g.nmP g.nmQ (.v (.tup B)) (.v (.tup ((Ss.map ScB.p).map ent))) (.v (.tup (Ls.map lkT))) (.v (.tup (Cs.map cvT))) s7 q8 q9 s10 s11 s12 s13 l16 Cs (by simpa using g.gc) (((((Ps.map λx=>rowT (wordP x)).map D.str)++(Qs.map λx=>rowT (wordQ x)).map D.str)++(Ss.map λx=>rowT (wordS (Ps.map PtB.p) x)).map D.str)++(Ls.map λl=>rowT (wordL (Ps.map PtB.p) (Qs.map PlB.p) l)).map D.str) l14 l15 (by simp;lia)
 rw[←List.map_append,←List.map_append,←List.map_append,←List.map_append] at e5
 rw[←List.map_append,←List.map_append,←List.map_append] at e4
 rw[←List.map_append,←List.map_append] at e3
 rw[←List.map_append] at e2
 have fin:Ps.map (λx=>rowT (wordP x))++Qs.map (λx=>rowT (wordQ x))++Ss.map (λx=>rowT (wordS (Ps.map PtB.p) x))++Ls.map (λl=>rowT (wordL (Ps.map PtB.p) (Qs.map PlB.p) l))++Cs.map (λc=>rowT (wordC (Ps.map PtB.p) (Qs.map PlB.p) c))=rowsB Ps Qs Ss Ls Cs:=rfl
 rw[fin] at e5
 have l0:Ps.length≤big:=by lia
 refine callF_rt (k:=true) rfl rfl rfl ?_
 have hB':B=[.tup ((Ps.map PtB.p).map ent),.tup ((Qs.map PlB.p).map ent),.tup ((Ss.map ScB.p).map ent),.tup (Ls.map lkT),.tup (Cs.map cvT)]:=hB.symm
 generalize hp:(Ps.map PtB.p).map ent=pD at *
 have l0':pD.length≤big:=by rw[←hp];simpa using l0
 generalize (Qs.map PlB.p).map ent=qD at *
 generalize (Ss.map ScB.p).map ent=sD at *
 generalize Ls.map lkT=lD at *
 generalize Cs.map cvT=cD at *
 generalize Ps.map (λx=>rowT (wordP x))++Qs.map (λx=>rowT (wordQ x))++Ss.map (λx=>rowT (wordS (Ps.map PtB.p) x))++Ls.map (λl=>rowT (wordL (Ps.map PtB.p) (Qs.map PlB.p) l))=R4 at *
 generalize Ps.map (λx=>rowT (wordP x))++Qs.map (λx=>rowT (wordQ x))++Ss.map (λx=>rowT (wordS (Ps.map PtB.p) x))=R3 at *
 generalize Ps.map (λx=>rowT (wordP x))++Qs.map (λx=>rowT (wordQ x))=R2 at *
 generalize (Ps.map λx=>rowT (wordP x)).map D.str=R1 at *
 subst hB'
 simp[b_law_rows,e1,l0',e2,e3,e4,e5]
theorem fm_inl {α β γ:Type} (f:α→Option γ) (g:β→α) (h:∀b,f (g b)=none) (xs:List β):(xs.map g).filterMap f=[]:=by
 rw[List.filterMap_eq_nil_iff]
 intro a ha
 obtain⟨b,_,rfl⟩:=List.mem_map.mp ha
 exact h b
theorem fm_self {α β:Type} (f:α→Option β) (g:β→α) (h:∀b,f (g b)=some b) (xs:List β):(xs.map g).filterMap f=xs:=by
 rw[List.filterMap_map]
 have:(f∘g)=some:=by funext b;exact h b
 rw[this,List.filterMap_some]
theorem nn_any (n:Nat) (ps:List (Str×List D)) (nm:Str) (hn:(ps.map (·.1)).Nodup):(nm∉ps.map (·.1)∧callF T dfs (n+1) 6 [.tup (ps.map ent),.str nm]=.ok .non)∨∃i:Nat,i < ps.length∧nmAt ps i=nm∧callF T dfs (n+1) 6 [.tup (ps.map ent),.str nm]=.ok (.int i):=by
 by_cases h:nm∈ps.map (·.1)
 ·obtain⟨p,hp,rfl⟩:=List.mem_map.mp h
  obtain⟨i,hi,e⟩:=List.getElem_of_mem hp
  have q:ps[i]?=some p:=by rw[List.getElem?_eq_getElem hi,e]
  exact .inr ⟨i,hi,nmAt_get q,number_named n ps i p q hn⟩
 ·exact .inl ⟨h,number_named_none n ps nm λp hp e=>h (List.mem_map.mpr ⟨p,hp,e⟩)⟩
theorem mem_nmAt {ps:List (Str×List D)} {i:Nat} (h:i < ps.length):nmAt ps i∈ps.map (·.1):=by
 rw[nmAt_ge h];exact List.mem_map_of_mem (List.getElem_mem h)
theorem int_is (i:Int):D.cmp .Is (.int i) .non=.ok (.bl false):=rfl
theorem non_is:D.cmp .Is .non .non=.ok (.bl true):=rfl
theorem cover_late (n:Nat) (ps qs:List (Str×List D)) (B C G:D) (a b:Str) (hn:(ps.map (·.1)).Nodup) (hm:(qs.map (·.1)).Nodup) (h:a∉ps.map (·.1)∨b∉qs.map (·.1)) :
 callF T dfs (n+2) 12 [.tup [.tup (ps.map ent),.tup (qs.map ent),B,C,G],.lst [.str "cover", .str a,.str b]]=.ok .non:=by
 rcases nn_any n ps a hn with ⟨x1,e1⟩ | ⟨i,x1,x2,e1⟩
 ·rcases nn_any n qs b hm with ⟨y1,e2⟩ | ⟨k,y1,y2,e2⟩
  ·exact callF_rt (k:=false) rfl rfl rfl (by simp[b_cover_read,e1,e2,non_is])
  ·exact callF_rt (k:=false) rfl rfl rfl (by simp[b_cover_read,e1,e2,non_is])
 ·rcases nn_any n qs b hm with ⟨y1,e2⟩ | ⟨k,y1,y2,e2⟩
  ·exact callF_rt (k:=false) rfl rfl rfl (by simp[b_cover_read,e1,e2,int_is,non_is])
  ·exact (h.elim (λz=>z (x2▸mem_nmAt x1)) λz=>z (y2▸mem_nmAt y1)).elim
theorem like_late (n:Nat) (ps qs:List (Str×List D)) (B C G:D) (a b:Str) (m:Nat) (hn:(ps.map (·.1)).Nodup) (hm:(qs.map (·.1)).Nodup) (h1:m < 10^9) (h:b∉ps.map (·.1)∨a∉qs.map (·.1)) :
 callF T dfs (n+3) 11 [.tup [.tup (ps.map ent),.tup (qs.map ent),B,C,G],.lst [.str "like", .str a,.str b,.str (numS m)]]=.ok .non:=by
 have e4:=is_amount n m h1
 rcases nn_any (n+1) ps b hn with ⟨x1,e1⟩ | ⟨i,x1,x2,e1⟩
 ·rcases nn_any (n+1) qs a hm with ⟨y1,e2⟩ | ⟨k,y1,y2,e2⟩
  ·exact callF_rt (k:=false) rfl rfl rfl (by simp[b_like_read,e1,e2,e4,non_is])
  ·exact callF_rt (k:=false) rfl rfl rfl (by simp[b_like_read,e1,e2,e4,int_is,non_is])
 ·rcases nn_any (n+1) qs a hm with ⟨y1,e2⟩ | ⟨k,y1,y2,e2⟩
  ·exact callF_rt (k:=false) rfl rfl rfl (by simp[b_like_read,e1,e2,e4,int_is,non_is])
  ·exact (h.elim (λz=>z (x2▸mem_nmAt x1)) λz=>z (y2▸mem_nmAt y1)).elim
theorem scene_late (n:Nat) (ps ss:List (Str×List D)) (A B G:D) (nm:Str) (len pause:Nat) (ns:List Str) (hm:isNm nm) (hnew:∀p∈ss,p.1≠nm) (hn:(ps.map (·.1)).Nodup) (h1:len < 10^9) (h2:pause < 10^9) (hl:ns.length < 900) (h:∃x∈ns,x∉ps.map (·.1)) :
 callF T dfs (n+4) 10 [.tup [.tup (ps.map ent),A,.tup (ss.map ent),B,G],.lst (.str "scene" :: .str nm::.str (numS len)::.str (numS pause)::ns.map D.str)]=.ok .non:=by
 have hb:=ten_big
 have e1:=is_new_name n ss nm hm hnew
 have e3:=is_amount (n+1) len h1
 have e4:=is_amount (n+1) pause h2
 have e7:∀(env:Nv) (xs:List Str),∃ys:List D,(∀y∈ys,y=.non∨∃i:Nat,y=.int i)∧((∃x∈xs,x∉ps.map (·.1))→D.non∈ys)∧compL (compF T (callF T dfs (n+3)) 1 [0] (.one 0) e_scene_read_1 (.con (.bl true)) (.v (.tup [.tup (ps.map ent),A,.tup (ss.map ent),B,G])::env)) (xs.map D.str)=.ok ys:=by
  intro env xs
  induction xs with
  | nil=>exact⟨[],λy hy=>(by cases hy),λ⟨x,hx,_⟩=>(by cases hx),rfl⟩
  | cons x r ih =>
   obtain⟨ys,i1,i2,i3⟩:=ih
   rcases nn_any (n+2) ps x hn with ⟨x1,q⟩ | ⟨i,x1,x2,q⟩
   ·refine⟨.non::ys,λy hy=>?_,λ_=>List.mem_cons_self,?_⟩
    ·rcases List.mem_cons.mp hy with rfl | hy
     ·exact .inl rfl
     ·exact i1 y hy
    ·rw[List.map_cons,compL,i3]
     simp[compF,Tr.compEnv,e_scene_read_1,q]
   ·refine⟨.int i::ys,λy hy=>?_,λ⟨z,hz,hz2⟩=>?_,?_⟩
    ·rcases List.mem_cons.mp hy with rfl | hy
     ·exact .inr ⟨i,rfl⟩
     ·exact i1 y hy
    ·rcases List.mem_cons.mp hz with rfl | hz
     ·exact absurd (x2▸mem_nmAt x1) hz2
     ·exact List.mem_cons_of_mem _ (i2 ⟨z,hz,hz2⟩)
    ·rw[List.map_cons,compL,i3]
     simp[compF,Tr.compEnv,e_scene_read_1,q]
 have e8:∀ys:List D,(∀y∈ys,y=.non∨∃i:Nat,y=.int i)→D.non∈ys→D.cmp .In .non (.lst ys)=.ok (.bl true):=by
  intro ys hy hn
  have a1:∀ys:List D,D.non∈ys→D.mem .non ys=true:=by
   intro ys
   induction ys with
   | nil=>intro h;cases h
   | cons y r ih =>
    intro h
    rw[D.mem]
    rcases List.mem_cons.mp h with rfl | h
    ·rfl
    ·rw[ih h,Bool.or_true]
  have a2:∀ys:List D,(∀y∈ys,y=.non∨∃i:Nat,y=.int i)→D.pls 30 ys=true:=by
   intro ys
   induction ys with
   | nil=>intro _;rfl
   | cons y r ih =>
    intro h
    rw[D.pls,ih λz hz=>h z (List.mem_cons_of_mem _ hz)]
    rcases h y List.mem_cons_self with rfl | ⟨i,rfl⟩<;>rfl
  show (when (D.pls 30 _&&D.pl 29 .non) (.ok (D.mem _ _))>>=λk=>Res.ok (D.bl k))=_
  rw[a1 ys hn,a2 ys hy];rfl
 have e10:cut (D.str "scene" :: .str nm::.str (numS len)::.str (numS pause)::ns.map D.str) (some 4) none=ns.map D.str:=(cut_from (a:=4) (by simp)).trans rfl
 have e11:ns.length≤big:=by lia
 have e12:¬((ns.length:Int)+1+1+1+1 < 4):=by lia
 obtain⟨ys,i1,i2,i3⟩:=e7 [.v (.lst (.str "scene" :: .str nm::.str (numS len)::.str (numS pause)::ns.map D.str)),.no] ns
 have e9:=e8 ys i1 (i2 h)
 refine callF_rt (k:=false) rfl rfl rfl ?_
 simp[b_scene_read,e1,e3,e4,i3,e9,e10,e11,e12]
theorem with_late2 (n:Nat) (bk:List D) (r:Str) (ws:List Str) (hr:r.length < big) (hs:splitS r 32=("scene" : Str)::ws) (h:callF T dfs n 10 [.tup bk,.lst (.str "scene" :: ws.map D.str)]=.ok .non) :
 callF T dfs (n+1) 13 [.tup bk,.str r]=.ok .non:=by
 have e1:=run_split r hr
 rw[hs,List.map_cons] at e1
 refine callF_rt (k:=false) rfl rfl rfl ?_
 simp[b_with_row,e1,kin2,kix2,ktab2,h,non_is]
theorem with_late3 (n:Nat) (bk:List D) (r:Str) (ws:List Str) (hr:r.length < big) (hs:splitS r 32=("like" : Str)::ws) (h:callF T dfs n 11 [.tup bk,.lst (.str "like" :: ws.map D.str)]=.ok .non) :
 callF T dfs (n+1) 13 [.tup bk,.str r]=.ok .non:=by
 have e1:=run_split r hr
 rw[hs,List.map_cons] at e1
 refine callF_rt (k:=false) rfl rfl rfl ?_
 simp[b_with_row,e1,kin3,kix3,ktab3,h,non_is]
theorem with_late4 (n:Nat) (bk:List D) (r:Str) (ws:List Str) (hr:r.length < big) (hs:splitS r 32=("cover" : Str)::ws) (h:callF T dfs n 12 [.tup bk,.lst (.str "cover" :: ws.map D.str)]=.ok .non) :
 callF T dfs (n+1) 13 [.tup bk,.str r]=.ok .non:=by
 have e1:=run_split r hr
 rw[hs,List.map_cons] at e1
 refine callF_rt (k:=false) rfl rfl rfl ?_
 simp[b_with_row,e1,kin4,kix4,ktab4,h,non_is]
inductive NI where
 | p (x:PtB) | q (x:PlB) | s (nm:Str) (len pause:Nat) (ns:List Str) | l (a b:Str) (m:Nat) | c (a b:Str)
noncomputable def NI.words:NI→List Str
 | .p x=>wordP x
 | .q x=>wordQ x
 | .s nm len pause ns => "scene" :: nm::numS len::numS pause::ns
 | .l a b m=>["like", a,b,numS m]
 | .c a b=>["cover", a,b]
noncomputable def NI.row (x:NI):Str:=rowT x.words
noncomputable def NI.want:NI→List Str
 | .s _ _ _ ns=>ns
 | .l _ b _=>[b]
 | .c a _=>[a]
 | _=>[]
noncomputable def NI.named:NI→List Str
 | .l a _ _=>[a]
 | .c _ b=>[b]
 | _=>[]
noncomputable def NI.pn:NI→List Str
 | .p x=>[x.name]
 | _=>[]
noncomputable def NI.qn:NI→List Str
 | .q x=>[x.name]
 | _=>[]
noncomputable def NI.sn:NI→List Str
 | .s nm _ _ _=>[nm]
 | _=>[]
noncomputable def NI.ok:NI→Prop
 | .p x=>GP x
 | .q x=>GQ x
 | .s nm len pause ns=>isNm nm∧len < 10^9∧pause < 10^9∧ns.Nodup∧(∀x∈ns,isNm x)∧ns.length≤50
 | .l a b m=>isNm a∧isNm b∧m < 10^9
 | .c a b=>isNm a∧isNm b
noncomputable def NI.told (ps qs:List Str) (x:NI):Prop:=(∀a∈x.want,a∈ps)∧∀a∈x.named,a∈qs
noncomputable instance (ps qs:List Str) (x:NI):Decidable (NI.told ps qs x):=by unfold NI.told;infer_instance
theorem NI.wd {x:NI} (h:x.ok):∀w∈x.words,wd w:=by
 cases x with
 | p x=>exact words_P h
 | q x=>exact words_Q h
 | s nm len pause ns =>
  obtain⟨h1,h2,h3,_,h5,_⟩:=h
  intro w hw
  simp only[NI.words,List.mem_cons] at hw
  rcases hw with rfl | rfl | rfl | rfl | hw
  ·exact wd_scene
  ·exact wd_nm h1
  ·exact wd_num h2
  ·exact wd_num h3
  ·exact wd_nm (h5 w hw)
 | l a b m =>
  obtain⟨h1,h2,h3⟩:=h
  intro w hw
  simp only[NI.words,List.mem_cons,List.not_mem_nil,or_false] at hw
  rcases hw with rfl | rfl | rfl | rfl
  ·exact wd_like
  ·exact wd_nm h1
  ·exact wd_nm h2
  ·exact wd_num h3
 | c a b =>
  obtain⟨h1,h2⟩:=h
  intro w hw
  simp only[NI.words,List.mem_cons,List.not_mem_nil,or_false] at hw
  rcases hw with rfl | rfl | rfl
  ·exact wd_cover
  ·exact wd_nm h1
  ·exact wd_nm h2
theorem old_name (n:Nat) (ps:List (Str×List D)) (nm:Str) (hm:isNm nm) (hn:(ps.map (·.1)).Nodup) (h:nm∈ps.map (·.1)):callF T dfs (n+3) 7 [.tup (ps.map ent),.str nm]=.ok (.bl false):=by
 refine callF_rt (k:=false) rfl rfl rfl ?_
 have e1:=is_name n nm hm
 rcases nn_any (n+1) ps nm hn with ⟨x1,_⟩ | ⟨i,x1,x2,e2⟩
 ·exact absurd h x1
 ·simp[b_is_new_name,e1,e2]
theorem part_old (n:Nat) (ps:List (Str×List D)) (A B C G a b c:D) (nm:Str) (hm:isNm nm) (hn:(ps.map (·.1)).Nodup) (h:nm∈ps.map (·.1)) :
 callF T dfs (n+4) 8 [.tup [.tup (ps.map ent),A,B,C,G],.lst [.str "part", .str nm,a,b,c]]=.ok .non:=by
 have e1:=old_name n ps nm hm hn h
 exact callF_rt (k:=false) rfl rfl rfl (by simp[b_part_read,e1])
theorem player_old (n:Nat) (ps:List (Str×List D)) (A B C G a b:D) (nm:Str) (hm:isNm nm) (hn:(ps.map (·.1)).Nodup) (h:nm∈ps.map (·.1)) :
 callF T dfs (n+4) 9 [.tup [A,.tup (ps.map ent),B,C,G],.lst [.str "player", .str nm,a,b]]=.ok .non:=by
 have e1:=old_name n ps nm hm hn h
 exact callF_rt (k:=false) rfl rfl rfl (by simp[b_player_read,e1])
theorem scene_old (n:Nat) (ps:List (Str×List D)) (A B C G:D) (ws:List D) (nm:Str) (hm:isNm nm) (hn:(ps.map (·.1)).Nodup) (h:nm∈ps.map (·.1)) (hw:4≤ws.length+2) :
 callF T dfs (n+4) 10 [.tup [A,B,.tup (ps.map ent),C,G],.lst (.str "scene" :: .str nm::ws)]=.ok .non:=by
 have e1:=old_name n ps nm hm hn h
 have e12:¬((ws.length:Int)+1+1 < 4):=by lia
 exact callF_rt (k:=false) rfl rfl rfl (by simp[b_scene_read,e1,e12])
theorem eqb_pair (a b c d:Nat):D.eqb (.tup [.int a,.int b]) (.tup [.int c,.int d])=decide ((a,b)=(c,d)):=by
 have i1:((a:Int)==(c:Int))=decide (a=c):=by
  rw[Bool.eq_iff_iff,beq_iff_eq,decide_eq_true_eq];lia
 have i2:((b:Int)==(d:Int))=decide (b=d):=by
  rw[Bool.eq_iff_iff,beq_iff_eq,decide_eq_true_eq];lia
 show (((a:Int)==c)&&(((b:Int)==d)&&true))=_
 rw[i1,i2,Bool.and_true,Bool.eq_iff_iff]
 simp[Prod.mk.injEq]
theorem mem_pairs_yes {i k:Nat}:∀ {cs:List (Nat×Nat)},(i,k)∈cs→D.mem (.tup [.int i,.int k]) (cs.map λc:Nat×Nat=>D.tup [.int c.1,.int c.2])=true
 | [],h=>by cases h
 | c::r,h=>by
  rw[List.map_cons,D.mem,eqb_pair]
  rcases List.mem_cons.mp h with h | h
  ·rw[←h];simp
  ·rw[mem_pairs_yes h,Bool.or_true]
theorem pls_pairs:∀cs:List (Nat×Nat),D.pls 30 (cs.map λc:Nat×Nat=>D.tup [.int c.1,.int c.2])=true
 | []=>rfl
 | c::r=>by rw[List.map_cons,D.pls,pls_pairs r];rfl
theorem cover_old (n:Nat) (ps qs:List (Str×List D)) (cs:List (Nat×Nat)) (B C:D) (i k:Nat) (p q:Str×List D) (hp:ps[i]?=some p) (hq:qs[k]?=some q) (hn:(ps.map (·.1)).Nodup) (hm:(qs.map (·.1)).Nodup) (hc:(i,k)∈cs) :
 callF T dfs (n+2) 12 [.tup [.tup (ps.map ent),.tup (qs.map ent),B,C,.tup (cs.map λc:Nat×Nat=>D.tup [.int c.1,.int c.2])],.lst [.str "cover", .str p.1,.str q.1]]=.ok .non:=by
 refine callF_rt (k:=false) rfl rfl rfl ?_
 have e1:=number_named n ps i p hp hn
 have e2:=number_named n qs k q hq hm
 have e3:D.cmp .In (.tup [.int i,.int k]) (.tup (cs.map λc:Nat×Nat=>D.tup [.int c.1,.int c.2]))=.ok (.bl true):=by
  show (when (D.pls 30 _&&D.pl 29 _) (Res.ok (D.mem _ _))>>=λk=>Res.ok (D.bl k))=_
  rw[mem_pairs_yes hc,pls_pairs];rfl
 simp[b_cover_read,e1,e2,e3]
theorem like_old (n:Nat) (ps qs:List (Str×List D)) (ls:List (Nat×Nat×Nat)) (B G:D) (i k m:Nat) (p q:Str×List D) (hp:ps[i]?=some p) (hq:qs[k]?=some q) (hn:(ps.map (·.1)).Nodup) (hm:(qs.map (·.1)).Nodup) (hc:(k,i)∈ls.map λl=>(l.1,l.2.1)) (hl:ls.length≤1000) (h1:m < 10^9) :
 callF T dfs (n+3) 11 [.tup [.tup (ps.map ent),.tup (qs.map ent),B,.tup (ls.map λl:Nat×Nat×Nat=>D.tup [.int l.1,.int l.2.1,.int l.2.2]),G],.lst [.str "like", .str q.1,.str p.1,.str (numS m)]]=.ok .non:=by
 refine callF_rt (k:=false) rfl rfl rfl ?_
 have hb:=ten_big
 have e1:=number_named (n+1) ps i p hp hn
 have e2:=number_named (n+1) qs k q hq hm
 have e4:=is_amount n m h1
 have e6:∀(env:Nv) (xs:List (Nat×Nat×Nat)),compL (compF T (callF T dfs (n+2)) 1 [] (.one 0) e_like_read_1 (.con (.bl true)) env) (xs.map λl:Nat×Nat×Nat=>D.tup [.int l.1,.int l.2.1,.int l.2.2])=.ok ((xs.map λl=>(l.1,l.2.1)).map λc:Nat×Nat=>D.tup [.int c.1,.int c.2]):=by
  intro env xs
  induction xs with
  | nil=>rfl
  | cons x r ih =>
   rw[List.map_cons,compL,ih]
   simp[compF,Tr.compEnv,e_like_read_1]
   rfl
 have e7:D.cmp .In (.tup [.int k,.int i]) (.lst ((ls.map λl=>(l.1,l.2.1)).map λc:Nat×Nat=>D.tup [.int c.1,.int c.2]))=.ok (.bl true):=by
  show (when (D.pls 30 _&&D.pl 29 _) (Res.ok (D.mem _ _))>>=λk=>Res.ok (D.bl k))=_
  rw[mem_pairs_yes hc,pls_pairs];rfl
 have e8:ls.length≤big:=by lia
 rw[List.map_map] at e7
 simp only[List.map_map] at e6
 simp[b_like_read,e1,e2,e4,e6,e7,e8]
theorem with_late0 (n:Nat) (bk:List D) (r:Str) (ws:List Str) (hr:r.length < big) (hs:splitS r 32=("part" : Str)::ws) (h:callF T dfs n 8 [.tup bk,.lst (.str "part" :: ws.map D.str)]=.ok .non) :
 callF T dfs (n+1) 13 [.tup bk,.str r]=.ok .non:=by
 have e1:=run_split r hr
 rw[hs,List.map_cons] at e1
 refine callF_rt (k:=false) rfl rfl rfl ?_
 simp[b_with_row,e1,kin0,kix0,ktab0,h,non_is]
theorem with_late1 (n:Nat) (bk:List D) (r:Str) (ws:List Str) (hr:r.length < big) (hs:splitS r 32=("player" : Str)::ws) (h:callF T dfs n 9 [.tup bk,.lst (.str "player" :: ws.map D.str)]=.ok .non) :
 callF T dfs (n+1) 13 [.tup bk,.str r]=.ok .non:=by
 have e1:=run_split r hr
 rw[hs,List.map_cons] at e1
 refine callF_rt (k:=false) rfl rfl rfl ?_
 simp[b_with_row,e1,kin1,kix1,ktab1,h,non_is]
theorem xX_asg0 {T:Tab} {cf:Nat→List D→Res D} {g:G} {a:E} {e:Nv}:exX T cf (.asg g a) e=none:=rfl
theorem xX_nil0 {T:Tab} {cf:Nat→List D→Res D} {e:Nv}:exX T cf .nil e=none:=rfl
noncomputable def fX (n:Nat):D→Nv→Option (Str×D):=λd e0=>match G.put (.many [2,3]) d e0 with
 | .ok e1=>exX T (callF T dfs n) b_read_book_1 e1
 | _=>none
theorem put23 (A B a b:D) (x y:Sl):G.put (.many [2,3]) (.tup [a,b]) [.v A,.v B,x,y]=.ok [.v A,.v B,.v a,.v b]:=by simp[G.put,puts]
theorem rbX_ok (n:Nat) (A:D) (r:Str) (k:Int) (b b':List D) (x y:Sl) (h:callF T dfs n 13 [.tup b,.str r]=.ok (.tup b')):fX n (.tup [.int k,.str r]) [.v A,.v (.tup b),x,y]=none:=by
 unfold fX
 rw[put23]
 simp[b_read_book_1,xX_cons,xX_ite,xX_asg0,xX_nil0,h,is_tup_non]
theorem rbX_bad (n:Nat) (A:D) (r:Str) (k:Int) (b:List D) (x y:Sl) (h:callF T dfs n 13 [.tup b,.str r]=.ok .non):fX n (.tup [.int k,.str r]) [.v A,.v (.tup b),x,y]=some (("NoBook" : Str),D.int k):=by
 unfold fX
 rw[put23]
 simp[b_read_book_1,xX_cons,xX_ite,xX_raisI,xX_asg0,xX_nil0,h,non_is]
theorem callF_num {T:Tab} {D:List Df} {n f:Nat} {ds:List Tr.D} {d:Df} {td:Told} {v:Int} (h:D[f]?=some d) (hl:ds.length=d.pars) (ht:d.told=some td) (hn:td.num=true) (hf:T.fresh f=false)
 (he:exX T (callF T D n) td.b (ds.map Sl.v++[.v td.ini,.no])=some (td.c,.int v)):callF T D (n+1) f ds=.ok (.int v):=by
 rw[callF,h]
 show when (ds.length==d.pars) _=_
 rw[when_of (by simpa using hl),ht]
 dsimp only
 rw[he]
 dsimp only
 rw[hf,hn]
 simp
theorem callF_thr {T:Tab} {D:List Df} {n f:Nat} {ds:List Tr.D} {d:Df} {td:Told} {e:Nv} (h:D[f]?=some d) (hl:ds.length=d.pars) (ht:d.told=some td) (hf:T.fresh f=false)
 (he:exS T (callF T D n) td.b (ds.map Sl.v++[.v td.ini,.no])=.ok (.nx e)):callF T D (n+1) f ds=.ok td.thr:=by
 rw[callF,h]
 show when (ds.length==d.pars) _=_
 rw[when_of (by simpa using hl),ht]
 dsimp only
 cases hx:exX T (callF T D n) td.b (ds.map Sl.v++[.v td.ini,.no]) with
 | some z=>exact absurd he (exX_not hx _)
 | none =>
  dsimp only
  rw[he,hf];rfl
theorem runX (n:Nat) (A:D):∀(rows:List Str) (b b1:List D) (r:Str) (rest:List Str) (x y:Sl) (k:Int),Run n b rows b1→callF T dfs n 13 [.tup b1,.str r]=.ok .non →
 forX (fX n) (bodyF T (callF T dfs n) (.many [2,3]) b_read_book_1) (enumD k ((rows++r::rest).map D.str)) [.v A,.v (.tup b),x,y]=some (("NoBook" : Str),D.int (k+(rows.length:Int)))
 | [],b,b1,r,rest,x,y,k,h,e=>by
  cases h
  have ex:=rbX_bad n A r k _ x y e
  rw[List.nil_append,List.map_cons,enumD,forX,ex]
  simp
 | a::q,b,b1,r,rest,x,y,k,h,e=>by
  obtain⟨b2,e0,h⟩:=h
  have eb:=rb_body n A a k b b2 x y e0
  have ex:=rbX_ok n A a k b b2 x y e0
  rw[List.cons_append,List.map_cons,enumD,forX,ex]
  dsimp only
  rw[eb]
  dsimp only
  rw[runX n A q b2 b1 r rest _ _ (k+1) h e,List.length_cons]
  congr 3
  lia
theorem read_wrong (n:Nat) (rows:List Str) (b1:List D) (r:Str) (rest:List Str) (h:Run n (bkT [] [] [] [] []) rows b1) (e:callF T dfs n 13 [.tup b1,.str r]=.ok .non) :
 callF T dfs (n+1) 14 [.lst ((rows++r::rest).map D.str)]=.err "NoBook" (.int rows.length):=by
 have e:=runX n (.lst ((rows++r::rest).map D.str)) rows _ b1 r rest .no .no 0 h e
 rw[Int.zero_add] at e
 refine callF_err rfl rfl ?_
 unfold bkT at e
 simp only[List.map_nil] at e
 generalize (rows++r::rest).map D.str=R at e
 have ef:exX T (callF T dfs n) (.forS (.many [2,3]) (.enum (.var 0)) b_read_book_1) [.v (.lst R),.v (.tup [.tup [],.tup [],.tup [],.tup [],.tup []]),.no,.no]=some (("NoBook" : Str),D.int rows.length):=by
  rw[xX_for]
  show (match evI T (callF T dfs n) (.enum (.var 0)) [.v (.lst R),.v (.tup [.tup [],.tup [],.tup [],.tup [],.tup []]),.no,.no] with
   | .ok ds=>forX (fX n) (bodyF T (callF T dfs n) (.many [2,3]) b_read_book_1) ds [.v (.lst R),.v (.tup [.tup [],.tup [],.tup [],.tup [],.tup []]),.no,.no]
   | _=>none)=_
  rw[show evI T (callF T dfs n) (.enum (.var 0)) [.v (.lst R),.v (.tup [.tup [],.tup [],.tup [],.tup [],.tup []]),.no,.no]=.ok (enumD 0 R) by simp[enumR]]
  exact e
 simp only[b_read_book,xX_cons,xX_asg0]
 simp[ef]
noncomputable def nmB (w:Str):Bool:=decide (1≤(signs w).length)&&decide ((signs w).length≤8)&&(signs w).all (hasC "abcdefghijklmnopqrstuvwxyz")
noncomputable def amB (w:Str):Bool:=decide (1≤(signs w).length)&&decide ((signs w).length≤9)&&(signs w).all (hasC "0123456789")&&((w == "0")||!((signs w).headD 0==48))
noncomputable def voB (w:Str):Bool:=match signs w with
 | [c]=>hasC "abcdefghijklmnopqrstuvwxyz" c
 | _=>false
noncomputable def vosB (w:Str):Bool:=(w == "-")||(!(w == "")&&((signs w).all (hasC "abcdefghijklmnopqrstuvwxyz")&&(((metD ((signs w).map λc=>(Sum.inr (chr1 c):Sum Int Str))).length:Int)==((signs w).length:Int))))
theorem is_name_tot (n:Nat) (w:Str) (hw:(signs w).length≤1000):callF T dfs (n+2) 2 [.str w]=.ok (.bl (nmB w)):=by
 refine callF_rt (k:=false) rfl rfl rfl ?_
 have hb:=ten_big
 have hl:=len_signs w
 have e1:=consists_of n "abcdefghijklmnopqrstuvwxyz" w (by lia)
 have e2:(signs w).length≤big:=by lia
 unfold nmB
 by_cases h1:1≤(signs w).length
 ·have i1:(1:Int)≤((signs w).length:Int):=by lia
  by_cases h2:(signs w).length≤8
  ·have i2:((signs w).length:Int)≤8:=by lia
   simp[b_is_name,hl,e1,e2,h1,h2,i1,i2]
  ·have i2:¬((signs w).length:Int)≤8:=by lia
   simp[b_is_name,hl,e1,e2,h1,h2,i1,i2]
 ·have i1:¬(1:Int)≤((signs w).length:Int):=by lia
  simp[b_is_name,hl,e1,e2,h1,i1]
theorem cmp_chr0 (c:Nat):D.cmp .NotEq (.str (chr1 c)) (.str "0")=.ok (.bl (!(c==48))):=by
 rw[cmp_ne_str]
 have:(chr1 c == "0")=(c==48):=by
  by_cases h:c=48
  ·subst h;decide
  ·rw[beq_str_false (by rw[show signs (chr1 c)=[c] from rfl,show signs "0" = [48] by decide];intro e;injection e with e _;exact h e),beq_eq_false_iff_ne.mpr h]
 rw[this]
theorem is_amount_tot (n:Nat) (w:Str) (hw:(signs w).length≤1000):callF T dfs (n+2) 3 [.str w]=.ok (.bl (amB w)):=by
 refine callF_rt (k:=false) rfl rfl rfl ?_
 have hb:=ten_big
 have hl:=len_signs w
 have e1:=consists_of n "0123456789" w (by lia)
 have e2:(signs w).length≤big:=by lia
 unfold amB
 by_cases h1:1≤(signs w).length
 ·have i1:(1:Int)≤((signs w).length:Int):=by lia
  by_cases h2:(signs w).length≤9
  ·have i2:((signs w).length:Int)≤9:=by lia
   cases h3:(signs w).all (hasC "0123456789") with
   | false =>
    rw[h3] at e1
    simp[b_is_amount,hl,e1,e2,h1,h2,i1,i2]
   | true =>
    rw[h3] at e1
    cases q:signs w with
    | nil=>rw[q] at h1;exact absurd h1 (by decide)
    | cons c r =>
     have e3:=ix_str0 q (by lia)
     have e4:=cmp_eq_str w "0"
     have e5:=cmp_chr0 c
     rw[←q]
     have hd:(signs w).head?.getD 0=c:=by rw[q];rfl
     cases z:(w == "0") with
     | true=>rw[z] at e4;simp[b_is_amount,hl,e1,e2,h1,h2,i1,i2,e4]
     | false=>rw[z] at e4;simp[b_is_amount,hl,e1,e2,h1,h2,i1,i2,e3,e4,e5,hd]
  ·have i2:¬((signs w).length:Int)≤9:=by lia
   simp[b_is_amount,hl,e1,e2,h1,h2,i1,i2]
 ·have i1:¬(1:Int)≤((signs w).length:Int):=by lia
  simp[b_is_amount,hl,e1,e2,h1,i1]
theorem is_voice_tot (n:Nat) (w:Str) (hw:(signs w).length≤1000):callF T dfs (n+1) 4 [.str w]=.ok (.bl (voB w)):=by
 refine callF_rt (k:=false) rfl rfl rfl ?_
 have hb:=ten_big
 have hl:=len_signs w
 have e2:(signs w).length≤big:=by lia
 unfold voB
 cases q:signs w with
 | nil=>rw[q] at hl e2;simp[b_is_voice,hl]
 | cons c r =>
  cases r with
  | nil =>
   have:w=chr1 c:=str_eq_signs (by rw[q];rfl)
   have e1:=cmp_in_chr c "abcdefghijklmnopqrstuvwxyz"
   rw[←this] at e1
   rw[q] at hl e2
   have l1:1≤big:=by lia
   simp[b_is_voice,hl,e1,l1]
  | cons d r =>
   rw[q] at hl e2
   have c1:¬((r.length:Int)+1+1=1):=by lia
   have c2:(((r.length:Int)+1+1)==1)=false:=by rw[beq_eq_false_iff_ne];lia
   simp only[List.length_cons] at e2
   simp[b_is_voice,hl,e2,c1,c2]
theorem are_unlike_tot (n:Nat) (w:Str) (h:(signs w).length < 1000):callF T dfs (n+1) 1 [.str w]=.ok (.bl (((metD ((signs w).map λc=>(Sum.inr (chr1 c):Sum Int Str))).length:Int)==((signs w).length:Int))):=by
 refine callF_rt (k:=false) rfl rfl rfl ?_
 have hb:=ten_big
 have h1:w.length=(signs w).length:=len_signs w
 have e4:(signs w).length+1 < 4096:=by lia
 have e5:(signs w).length≤big:=by lia
 have es:=setN_of (keys_str w)
 simp[b_are_unlike,es,e4,h1,e5]
theorem are_voices_tot (n:Nat) (w:Str) (hw:(signs w).length < 1000):callF T dfs (n+2) 5 [.str w]=.ok (.bl (vosB w)):=by
 refine callF_rt (k:=false) rfl rfl rfl ?_
 have hb:=ten_big
 have hl:=len_signs w
 have e1:=consists_of n "abcdefghijklmnopqrstuvwxyz" w (by lia)
 have e2:=are_unlike_tot n w hw
 have e3:=cmp_eq_str w "-"
 have e4:=cmp_ne_str w ""
 unfold vosB
 generalize (((metD ((signs w).map λc=>(Sum.inr (chr1 c):Sum Int Str))).length:Int)==((signs w).length:Int))=z at *
 generalize (signs w).all (hasC "abcdefghijklmnopqrstuvwxyz")=y at *
 cases h1:(w == "-") with
 | true=>rw[h1] at e3;simp[b_are_voices,e3]
 | false =>
  rw[h1] at e3
  cases h2:(w == "") with
  | true=>rw[h2] at e4;simp[b_are_voices,e3,e4]
  | false =>
   rw[h2] at e4
   cases y<;>simp[b_are_voices,e1,e2,e3,e4]
theorem new_name_tot (n:Nat) (ps:List (Str×List D)) (hn:(ps.map (·.1)).Nodup) (w:Str) (hw:(signs w).length≤1000):∃b:Bool,callF T dfs (n+3) 7 [.tup (ps.map ent),.str w]=.ok (.bl (nmB w&&b)):=by
 have e1:=is_name_tot n w hw
 rcases nn_any (n+1) ps w hn with ⟨_,e2⟩ | ⟨i,_,_,e2⟩
 ·refine⟨true,callF_rt (k:=false) rfl rfl rfl ?_⟩
  cases h:nmB w<;>rw[h] at e1<;>simp[b_is_new_name,e1,e2]
 ·refine⟨false,callF_rt (k:=false) rfl rfl rfl ?_⟩
  cases h:nmB w<;>rw[h] at e1<;>simp[b_is_new_name,e1,e2]
noncomputable def wrongP:List Str→Bool
 | [a,b,c,d]=>!nmB a||!voB b||!amB c||!amB d
 | _=>true
noncomputable def wrongQ:List Str→Bool
 | [a,b,c]=>!nmB a||!vosB b||!amB c
 | _=>true
noncomputable def wrongS:List Str→Bool
 | a::b::c::r=>!nmB a||!amB b||!amB c||r.any (λw=>!nmB w)||!decide r.Nodup
 | _=>true
noncomputable def wrongL:List Str→Bool
 | [_,_,c]=>!amB c
 | _=>true
noncomputable def wrongC:List Str→Bool
 | [_,_]=>false
 | _=>true
noncomputable def shortW (ws:List Str):Prop:=∀w∈ws,(signs w).length≤900
theorem len_ne {k:Nat} {ws:List Str} (h:ws.length≠k):(((ws.length:Int)+1)==(k:Int)+1)=false:=by rw[beq_eq_false_iff_ne];lia
theorem part_wrong (n:Nat) (ps:List (Str×List D)) (A B C G:D) (hn:(ps.map (·.1)).Nodup) (ws:List Str) (hs:shortW ws) (h:wrongP ws=true) :
 callF T dfs (n+4) 8 [.tup [.tup (ps.map ent),A,B,C,G],.lst (.str "part" :: ws.map D.str)]=.ok .non:=by
 by_cases hl:ws.length=4
 ·match ws,hl,hs,h with
  | [a,b,c,d],_,hs,h =>
   obtain⟨z,e1⟩:=new_name_tot n ps hn a (by have:=hs a (by simp);lia)
   have e2:=is_voice_tot (n+2) b (by have:=hs b (by simp);lia)
   have e3:=is_amount_tot (n+1) c (by have:=hs c (by simp);lia)
   have e4:=is_amount_tot (n+1) d (by have:=hs d (by simp);lia)
   simp only[wrongP] at h
   refine callF_rt (k:=false) rfl rfl rfl ?_
   generalize nmB a=x1 at *
   generalize voB b=x2 at *
   generalize amB c=x3 at *
   generalize amB d=x4 at *
   cases x1
   ·simp[b_part_read,e1]
   ·cases z
    ·simp[b_part_read,e1]
    ·cases x2
     ·simp[b_part_read,e1,e2]
     ·cases x3
      ·simp[b_part_read,e1,e2,e3]
      ·cases x4
       ·simp[b_part_read,e1,e2,e3,e4]
       ·cases h
 ·have c:=len_ne hl
  refine callF_rt (k:=false) rfl rfl rfl ?_
  have c:(((ws.length:Int)+1)==5)=false:=c
  simp[b_part_read,c]
theorem player_wrong (n:Nat) (ps:List (Str×List D)) (A B C G:D) (hn:(ps.map (·.1)).Nodup) (ws:List Str) (hs:shortW ws) (h:wrongQ ws=true) :
 callF T dfs (n+4) 9 [.tup [A,.tup (ps.map ent),B,C,G],.lst (.str "player" :: ws.map D.str)]=.ok .non:=by
 by_cases hl:ws.length=3
 ·match ws,hl,hs,h with
  | [a,b,c],_,hs,h =>
   obtain⟨z,e1⟩:=new_name_tot n ps hn a (by have:=hs a (by simp);lia)
   have e2:=are_voices_tot (n+1) b (by have:=hs b (by simp);lia)
   have e3:=is_amount_tot (n+1) c (by have:=hs c (by simp);lia)
   simp only[wrongQ] at h
   refine callF_rt (k:=false) rfl rfl rfl ?_
   generalize nmB a=x1 at *
   generalize vosB b=x2 at *
   generalize amB c=x3 at *
   cases x1
   ·simp[b_player_read,e1]
   ·cases z
    ·simp[b_player_read,e1]
    ·cases x2
     ·simp[b_player_read,e1,e2]
     ·cases x3
      ·simp[b_player_read,e1,e2,e3]
      ·cases h
 ·have c:=len_ne hl
  refine callF_rt (k:=false) rfl rfl rfl ?_
  have c:(((ws.length:Int)+1)==4)=false:=c
  simp[b_player_read,c]
theorem like_wrong (n:Nat) (bk:List D) (ws:List Str) (hs:shortW ws) (h:wrongL ws=true) :
 callF T dfs (n+3) 11 [.tup bk,.lst (.str "like" :: ws.map D.str)]=.ok .non:=by
 by_cases hl:ws.length=3
 ·match ws,hl,hs,h with
  | [a,b,c],_,hs,h =>
   have e3:=is_amount_tot n c (by have:=hs c (by simp);lia)
   simp only[wrongL] at h
   refine callF_rt (k:=false) rfl rfl rfl ?_
   generalize amB c=x3 at *
   cases x3
   ·simp[b_like_read,e3]
   ·cases h
 ·have c:=len_ne hl
  refine callF_rt (k:=false) rfl rfl rfl ?_
  have c:(((ws.length:Int)+1)==4)=false:=c
  simp[b_like_read,c]
theorem cover_wrong (n:Nat) (bk:List D) (ws:List Str) (h:wrongC ws=true) :
 callF T dfs (n+1) 12 [.tup bk,.lst (.str "cover" :: ws.map D.str)]=.ok .non:=by
 by_cases hl:ws.length=2
 ·match ws,hl,h with
  | [a,b],_,h=>cases h
 ·have c:=len_ne hl
  refine callF_rt (k:=false) rfl rfl rfl ?_
  have c:(((ws.length:Int)+1)==3)=false:=c
  simp[b_cover_read,c]
theorem nm_of {w:Str} (h:isNm w):nmB w=true:=by
 obtain⟨h1,h2,h3⟩:=h
 unfold nmB
 rw[h3,decide_eq_true h1,decide_eq_true h2];rfl
theorem comp_named (n:Nat) (ps:List (Str×List D)) (hn:(ps.map (·.1)).Nodup) (A B C G:D) (env:Nv):∀xs:List Str,∃ys:List D,(∀y∈ys,y=.non∨∃i:Nat,y=.int i)∧ys.length=xs.length∧(D.non∉ys→∃is:List Nat,ys=is.map (λi:Nat=>D.int i)∧is.map (nmAt ps)=xs∧∀x∈xs,x∈ps.map (·.1)) ∧
 compL (compF T (callF T dfs (n+1)) 1 [0] (.one 0) e_scene_read_1 (.con (.bl true)) (.v (.tup [.tup (ps.map ent),A,B,C,G])::env)) (xs.map D.str)=.ok ys
 | []=>⟨[],λy hy=>(by cases hy),rfl,λ_=>⟨[],rfl,rfl,λx hx=>(by cases hx)⟩,rfl⟩
 | x::r=>by
  obtain⟨ys,h1,h2,h3,h4⟩:=comp_named n ps hn A B C G env r
  rcases nn_any n ps x hn with ⟨_,q⟩ | ⟨i,x1,x2,q⟩
  ·refine⟨.non::ys,λy hy=>?_,by simp[h2],λz=>absurd List.mem_cons_self z,?_⟩
   ·rcases List.mem_cons.mp hy with rfl | hy
    ·exact .inl rfl
    ·exact h1 y hy
   ·rw[List.map_cons,compL,h4]
    simp[compF,Tr.compEnv,e_scene_read_1,q]
  ·refine⟨.int i::ys,λy hy=>?_,by simp[h2],λz=>?_,?_⟩
   ·rcases List.mem_cons.mp hy with rfl | hy
    ·exact .inr ⟨i,rfl⟩
    ·exact h1 y hy
   ·obtain⟨is,e1,e2,e3⟩:=h3 λq=>z (List.mem_cons_of_mem _ q)
    refine⟨i::is,by rw[e1];rfl,by rw[List.map_cons,e2,x2],λw hw=>?_⟩
    rcases List.mem_cons.mp hw with rfl | hw
    ·exact x2▸mem_nmAt x1
    ·exact e3 w hw
   ·rw[List.map_cons,compL,h4]
    simp[compF,Tr.compEnv,e_scene_read_1,q]
theorem in_non (ys:List D) (hy:∀y∈ys,y=.non∨∃i:Nat,y=.int i):D.cmp .In .non (.lst ys)=.ok (.bl (ys.any D.isNon)):=by
 have a1:∀ys:List D,(∀y∈ys,y=.non∨∃i:Nat,y=.int i)→D.mem .non ys=ys.any D.isNon∧D.pls 30 ys=true:=by
  intro ys
  induction ys with
  | nil=>intro _;exact⟨rfl,rfl⟩
  | cons y r ih =>
   intro h
   obtain⟨i1,i2⟩:=ih λz hz=>h z (List.mem_cons_of_mem _ hz)
   rw[D.mem,D.pls,i1,i2,List.any_cons]
   rcases h y List.mem_cons_self with rfl | ⟨i,rfl⟩<;>exact⟨rfl,rfl⟩
 obtain⟨i1,i2⟩:=a1 ys hy
 show (when (D.pls 30 _&&D.pl 29 .non) (Res.ok (D.mem _ _))>>=λk=>Res.ok (D.bl k))=_
 rw[i1,i2];rfl
theorem met_lt {ks:List (Sum Int Str)} (h:¬ks.Nodup):(metD ks).length≠ks.length:=by
 have gen:∀(ks acc:List (Sum Int Str)),(ks.foldl (λacc k=>if acc.any (λx=>decide (x=k)) then acc else acc++[k]) acc).length≤acc.length+ks.length∧((ks.foldl (λacc k=>if acc.any (λx=>decide (x=k)) then acc else acc++[k]) acc).length=acc.length+ks.length→ks.Nodup∧∀k∈ks,k∉acc):=by
  intro ks
  induction ks with
  | nil=>intro acc;exact⟨by simp,λ_=>⟨.nil,λk hk=>by cases hk⟩⟩
  | cons k r ih =>
   intro acc
   rw[List.foldl_cons,List.length_cons]
   by_cases c:(acc.any λx=>decide (x=k))=true
   ·rw[if_pos c]
    obtain⟨i1,i2⟩:=ih acc
    exact⟨by lia,λe=>by lia⟩
   ·rw[if_neg c]
    obtain⟨i1,i2⟩:=ih (acc++[k])
    rw[List.length_append,List.length_singleton] at i1 i2
    refine⟨by lia,λe=>?_⟩
    obtain⟨j1,j2⟩:=i2 (by lia)
    have nk:k∉acc:=λhk=>c (List.any_eq_true.mpr ⟨k,hk,by simp⟩)
    refine⟨List.nodup_cons.mpr ⟨λhk=>j2 k hk (by simp),j1⟩,λx hx=>?_⟩
    rcases List.mem_cons.mp hx with rfl | hx
    ·exact nk
    ·exact λhx2=>j2 x hx (by simp[hx2])
 intro e
 exact h ((gen ks []).2 (by simpa[metD] using e)).1
theorem unlike_no (n:Nat) (is:List Nat) (hl:is.length < 1000) (h:¬is.Nodup):callF T dfs (n+1) 1 [.lst (is.map λi:Nat=>D.int i)]=.ok (.bl false):=by
 refine callF_rt (k:=false) rfl rfl rfl ?_
 have e0:∀ns:List Nat,keysD (ns.map λi:Nat=>D.int i)=.ok (ns.map λi:Nat=>(Sum.inl (i:Int):Sum Int Str)):=by
  intro ns
  induction ns with
  | nil=>rfl
  | cons a r ih=>rw[List.map_cons,keysD,ih];rfl
 have nk:¬(is.map λi:Nat=>(Sum.inl (i:Int):Sum Int Str)).Nodup:=λq=>h (List.Pairwise.of_map (S:=(·≠·)) _ (λa b h e=>h (congrArg _ e)) q)
 have e3:=met_lt nk
 rw[List.length_map] at e3
 have e4:is.length+1 < 4096:=by lia
 have es:=setN_of (x:=.lst (is.map λi:Nat=>D.int i)) (e0 is)
 have c:(((metD (is.map λi:Nat=>(Sum.inl (i:Int):Sum Int Str))).length:Int)==(is.length:Int))=false:=by rw[beq_eq_false_iff_ne];lia
 simp[b_are_unlike,es,e4,c]
theorem scene_wrong (n:Nat) (ps ss:List (Str×List D)) (A C G:D) (hn:(ps.map (·.1)).Nodup) (hm:(ss.map (·.1)).Nodup) (hp:∀p∈ps,isNm p.1) (ws:List Str) (hs:shortW ws) (hlen:ws.length≤900) (h:wrongS ws=true) :
 callF T dfs (n+4) 10 [.tup [.tup (ps.map ent),A,.tup (ss.map ent),C,G],.lst (.str "scene" :: ws.map D.str)]=.ok .non:=by
 have hb:=ten_big
 match ws,hs,hlen,h with
 | [],_,_,_=>exact callF_rt (k:=false) rfl rfl rfl (by simp[b_scene_read])
 | [a],_,_,_=>exact callF_rt (k:=false) rfl rfl rfl (by simp[b_scene_read])
 | [a,b],_,_,_=>exact callF_rt (k:=false) rfl rfl rfl (by simp[b_scene_read])
 | a::b::c::r,hs,hlen,h =>
  have c4:¬((r.length:Int)+1+1+1+1 < 4):=by lia
  obtain⟨z,e1⟩:=new_name_tot n ss hm a (by have:=hs a (by simp);lia)
  have e3:=is_amount_tot (n+1) b (by have:=hs b (by simp);lia)
  have e4:=is_amount_tot (n+1) c (by have:=hs c (by simp);lia)
  simp only[wrongS] at h
  have e10:cut (D.str "scene" :: .str a::.str b::.str c::r.map D.str) (some 4) none=r.map D.str:=(cut_from (a:=4) (by simp)).trans rfl
  obtain⟨ys,y1,y2,y3,y4⟩:=comp_named (n+2) ps hn A (.tup (ss.map ent)) C G [.v (.lst (.str "scene" :: .str a::.str b::.str c::r.map D.str)),.no] r
  have e7:=in_non ys y1
  have l1:r.length≤big:=by simp at hlen;lia
  refine callF_rt (k:=false) rfl rfl rfl ?_
  cases x1:nmB a with
  | false=>rw[x1] at e1;simp[b_scene_read,e1,c4]
  | true =>
  cases z with
  | false=>rw[x1] at e1;simp[b_scene_read,e1,c4]
  | true =>
  cases x2:amB b with
  | false=>rw[x1] at e1;rw[x2] at e3;simp[b_scene_read,e1,e3,c4]
  | true =>
  cases x3:amB c with
  | false=>rw[x1] at e1;rw[x2] at e3;rw[x3] at e4;simp[b_scene_read,e1,e3,e4,c4]
  | true =>
  rw[x1] at e1;rw[x2] at e3;rw[x3] at e4
  cases x4:ys.any D.isNon with
  | true=>rw[x4] at e7;simp[b_scene_read,e1,e3,e4,c4,e10,y4,l1,e7]
  | false =>
   rw[x4] at e7
   obtain⟨is,i1,i2,i3⟩:=y3 (λq=>by
    rw[List.any_eq_false] at x4
    exact x4 _ q rfl)
   have nd:¬is.Nodup:=by
    intro q
    rw[x1,x2,x3] at h
    have a1:r.any (λw=>!nmB w)=false:=by
     rw[List.any_eq_false]
     intro w hw
     obtain⟨p,hp1,rfl⟩:=List.mem_map.mp (i3 w hw)
     rw[nm_of (hp p hp1)];decide
    rw[a1] at h
    have a2:r.Nodup:=by
     rw[←i2]
     refine nodup_by_inj (λx hx y hy e=>?_) q
     have lx:∀j∈is,j < ps.length:=by
      intro j hj
      apply Classical.byContradiction
      intro hge
      have e0:nmAt ps j = "" := by
       unfold nmAt
       rw[List.getElem?_eq_none (by lia)];rfl
      have hm':nmAt ps j∈r:=by rw[←i2];exact List.mem_map_of_mem hj
      obtain⟨p,hp1,hp2⟩:=List.mem_map.mp (i3 _ hm')
      have:=(hp p hp1).1
      rw[hp2,e0] at this
      exact absurd this (by decide)
     have gx:=List.getElem?_eq_getElem (lx x hx)
     have gy:=List.getElem?_eq_getElem (lx y hy)
     rw[nmAt_get gx,nmAt_get gy] at e
     have h1:(ps.map (·.1))[x]?=(ps.map (·.1))[y]?:=by rw[List.getElem?_map,List.getElem?_map,gx,gy];exact congrArg some e
     exact (List.getElem?_inj (by simpa using lx x hx) hn).mp h1
    rw[decide_eq_true a2] at h
    cases h
   have il:is.length=r.length:=by rw[←i2,List.length_map]
   have e9:=unlike_no (n+2) is (by simp at hlen;lia) nd
   rw[←i1] at e9
   simp[b_scene_read,e1,e3,e4,c4,e10,y4,l1,e7,e9]
noncomputable def wrongW:List Str→Bool
 | k::r=>if k == "part" then wrongP r else if k == "player" then wrongQ r else if k == "scene" then wrongS r else if k == "like" then wrongL r else if k == "cover" then wrongC r else true
 | []=>true
theorem kin_no {k:Str} (h:∀x∈(["part", "player", "scene", "like", "cover"]:List Str),k≠x):D.cmp .NotIn (.str k) (.tup [.str "part", .str "player", .str "scene", .str "like", .str "cover"])=.ok (.bl true):=by
 have b:∀x∈(["part", "player", "scene", "like", "cover"]:List Str),D.eqb (.str x) (.str k)=false:=λx hx=>by
  show (x==k)=false
  rw[beq_eq_false_iff_ne]
  exact λe=>h x hx e.symm
 show (D.inn _ _>>=λk=>Res.ok (D.bl (!k)))=_
 show (when (D.pls 30 _&&D.pl 29 (.str k)) (Res.ok (D.mem _ _))>>=λk=>Res.ok (D.bl (!k)))=_
 rw[D.mem,D.mem,D.mem,D.mem,D.mem,D.mem,b _ (by simp),b _ (by simp),b _ (by simp),b _ (by simp),b _ (by simp)]
 rfl
theorem with_wrong (n:Nat) (ps qs ss:List (Str×List D)) (ls:List (Nat×Nat×Nat)) (cs:List (Nat×Nat)) (hn:(ps.map (·.1)).Nodup) (hq:(qs.map (·.1)).Nodup) (hm:(ss.map (·.1)).Nodup) (hp:∀p∈ps,isNm p.1) (r:Str) (ws:List Str) (hr:r.length < big) (hs:splitS r 32=ws) (hsh:shortW ws) (hl:ws.length≤900) (h:wrongW ws=true) (hne:ws≠[]) :
 callF T dfs (n+5) 13 [.tup (bkT ps qs ss ls cs),.str r]=.ok .non:=by
 match ws,hne,hs,hsh,hl,h with
 | k::w,_,hs,hsh,hl,h =>
  have hw:shortW w:=λx hx=>hsh x (List.mem_cons_of_mem _ hx)
  have lw:w.length≤900:=by simp at hl;lia
  simp only[wrongW] at h
  by_cases k0:k = "part"
  ·subst k0
   rw[if_pos (by decide)] at h
   exact with_late0 (n+4) _ r w hr hs (part_wrong n ps _ _ _ _ hn w hw h)
  rw[if_neg (by simpa using k0)] at h
  by_cases k1:k = "player"
  ·subst k1
   rw[if_pos (by decide)] at h
   exact with_late1 (n+4) _ r w hr hs (player_wrong n qs _ _ _ _ hq w hw h)
  rw[if_neg (by simpa using k1)] at h
  by_cases k2:k = "scene"
  ·subst k2
   rw[if_pos (by decide)] at h
   exact with_late2 (n+4) _ r w hr hs (scene_wrong n ps ss _ _ _ hn hm hp w hw lw h)
  rw[if_neg (by simpa using k2)] at h
  by_cases k3:k = "like"
  ·subst k3
   rw[if_pos (by decide)] at h
   exact with_late3 (n+4) _ r w hr hs (like_wrong (n+1) _ w hw h)
  rw[if_neg (by simpa using k3)] at h
  by_cases k4:k = "cover"
  ·subst k4
   rw[if_pos (by decide)] at h
   exact with_late4 (n+4) _ r w hr hs (cover_wrong (n+3) _ w h)
  have e1:=run_split r hr
  rw[hs,List.map_cons] at e1
  have e2:=kin_no (k:=k) (λx hx=>by
   simp only[List.mem_cons,List.not_mem_nil,or_false] at hx
   rcases hx with rfl | rfl | rfl | rfl | rfl<;>assumption)
  have e3:∀(a:D) (l:List D),D.ix (.lst (a::l)) (.int 0)=.ok a:=λa l=>ix_l (i:=0) rfl
  refine callF_rt (k:=false) rfl rfl rfl ?_
  simp[b_with_row,e1,e2,e3]
theorem sg_cat (x y:Str):signs (x++y)=signs x++signs y:=by
 show (x.cps++y.cps).toList=_
 simp[signs]
theorem sg_row (ws:List Str):signs (rowT ws)=joinC [32] (ws.map signs):=by
 unfold rowT joinS
 rw[blank_eq]
 rfl
theorem add_str {x y:Str} (h:(signs x).length+(signs y).length≤1000):D.bin .Add (.str x) (.str y)=.ok (.str (x++y)):=by
 have hb:=ten_big
 show when (decide (x.length+y.length≤big)) (.ok (D.str (x++y)))=_
 rw[when_of (decide_eq_true (by rw[len_signs,len_signs];lia))]
noncomputable def Bad (r:Str):Prop:=∃ws,splitS r 32=ws∧wrongW ws=true∧shortW ws∧ws.length≤900∧ws≠[]∧r.length < big
noncomputable def badS (r:Str):Bool:=wrongW (splitS r 32)&&(splitS r 32).all (λw=>decide ((signs w).length≤900))&&decide ((splitS r 32).length≤900)&&!(splitS r 32).isEmpty&&decide (r.length < big)
theorem bad_of {r:Str} (h:badS r=true):Bad r:=by
 unfold badS at h
 simp only[Bool.and_eq_true,decide_eq_true_eq,Bool.not_eq_true',List.all_eq_true] at h
 obtain⟨⟨⟨⟨h1,h2⟩,h3⟩,h4⟩,h5⟩:=h
 exact⟨_,rfl,h1,λw hw=>h2 w hw,h3,(λe=>by rw[e] at h4;cases h4),h5⟩
theorem bad_row {ws:List Str} (h:∀w∈ws,wd w) (hl:ws.length≤100) (hne:ws≠[]) (hw:wrongW ws=true):Bad (rowT ws):=by
 have hb:20000 < big:=by decide
 have:=row_len h hl
 refine⟨ws,row_split hne h,hw,λw hm=>?_,by lia,hne,by lia⟩
 have:=(h w hm).2
 rw[len_signs] at this
 lia
noncomputable def CA:List Str:=[("" : Str),(" " : Str),("part" : Str),("part q" : Str),("part Q a 1 1" : Str),("part qqqqqqqqq a 1 1" : Str),("part q1 a 1 1" : Str),("part  a 1 1" : Str),
 ("part q ab 1 1" : Str),("part q A 1 1" : Str),("part q a 01 1" : Str),("part q a 1 -1" : Str),("part q a 1" : Str),("part q a 1 1 1" : Str),
 ("part q a 1000000000 1" : Str),("part q a 1 " : Str),("Part q a 1 1" : Str),(" part q a 1 1" : Str),("part q - 1 1" : Str),
 ("player q" : Str),("player q a" : Str),("player q aa 1" : Str),("player q A 1" : Str),("player q a- 1" : Str),("player q  1" : Str),
 ("player q a 00" : Str),("part q a 1 1 " : Str),
 ("player Q a 1" : Str),("player q a 1 1" : Str),("player q -- 1" : Str),("player q a 1234567890" : Str),("scene q" : Str),("scene q 1" : Str),
 ("scene q 1 01" : Str),("scene q x 1" : Str),("scene Q 1 1" : Str),("scene q 1 1 " : Str),("scene q 1 1 Q" : Str),("scene qqqqqqqqq 1 1" : Str)]
noncomputable def CB (P Q:Str):List Str:=["scene q 1 1  " ++ P, "scene q 1 1 " ++ P ++ " " ++ P, "like", "like " ++ Q, "cover",
 "like " ++ Q ++ " " ++ P, "like " ++ Q ++ " " ++ P ++ " 01", "cover " ++ P, "tell q",
 "scene", "like " ++ (Q ++ " " ++ P) ++ " 1 1", "cover " ++ P ++ " " ++ Q ++ " 1", "like " ++ (Q ++ " " ++ P) ++ " x"]
theorem ca_bad:∀r∈CA,Bad r:=by
 have:CA.all badS=true:=by decide +kernel
 exact λr hr=>bad_of (List.all_eq_true.mp this r hr)
theorem wd_lit:wd "" ∧ wd "q" ∧ wd "1" ∧ wd "01" ∧ wd "x" ∧ wd "a" ∧ wd "7" := by
 refine⟨⟨?_,?_⟩,⟨?_,?_⟩,⟨?_,?_⟩,⟨?_,?_⟩,⟨?_,?_⟩,⟨?_,?_⟩,⟨?_,?_⟩⟩<;>decide +kernel
theorem cb_bad {P Q:Str} (hP:isNm P) (hQ:isNm Q):∀r∈CB P Q,Bad r:=by
 obtain⟨w0,w1,w2,w3,w4,w5,w6⟩:=wd_lit
 have wP:=wd_nm hP
 have wQ:=wd_nm hQ
 have wS:=wd_scene
 have wL:=wd_like
 have wC:=wd_cover
 have hk:∀k:Str,(k == "part")=false→(k == "player")=false→(k == "scene")=false→(k == "like")=false→(k == "cover")=false→True:=λ_ _ _ _ _ _=>trivial
 intro r hr
 unfold CB at hr
 simp only[List.mem_cons,List.not_mem_nil,or_false] at hr
 have n0:nmB "" = false:=by decide +kernel
 have a1:amB "01" = false:=by decide +kernel
 have a2:amB "x" = false:=by decide +kernel
 have s1:signs "scene q 1 1  " = signs "scene" ++ [32]++signs "q" ++ [32]++signs "1" ++ [32]++signs "1" ++ [32]++[32]:=by decide +kernel
 have s2:signs "scene q 1 1 " = signs "scene" ++ [32]++signs "q" ++ [32]++signs "1" ++ [32]++signs "1" ++ [32]:=by decide +kernel
 have s3:signs "like " = signs "like" ++ [32]:=by decide +kernel
 have s4:signs "cover " = signs "cover" ++ [32]:=by decide +kernel
 have s5:signs " " = [32]:=by decide +kernel
 have s6:signs " 01" = 32::signs "01" := by decide +kernel
 have s7:signs " 1 1" = 32::signs "1" ++ [32]++signs "1" := by decide +kernel
 have s8:signs " 1" = 32::signs "1" := by decide +kernel
 have s9:signs " x" = 32::signs "x" := by decide +kernel
 have s0:signs "" = []:=by decide +kernel
 have kS:wrongW=wrongW:=rfl
 have iS:∀r,wrongW ("scene" :: r)=wrongS r:=λr=>rfl
 have iL:∀r,wrongW ("like" :: r)=wrongL r:=λr=>rfl
 have iC:∀r,wrongW ("cover" :: r)=wrongC r:=λr=>rfl
 have row:∀(ws:List Str),(∀w∈ws,wd w)→ws.length≤100→ws≠[]→wrongW ws=true→∀x:Str,signs x=joinC [32] (ws.map signs)→Bad x:=λws h1 h2 h3 h4 x e=>by
  rw[str_eq_signs (e.trans (sg_row ws).symm)]
  exact bad_row h1 h2 h3 h4
 rcases hr with rfl | rfl | rfl | rfl | rfl | rfl | rfl | rfl | rfl | rfl | rfl | rfl | rfl
 ·refine row ["scene", "q", "1", "1", "", P] (by simp[w0,w1,w2,wS,wP]) (by simp) (by simp) (by rw[iS];simp[wrongS,n0]) _ (by simp[sg_cat,s0,s1,joinC])
 ·refine row ["scene", "q", "1", "1", P,P] (by simp[w1,w2,wS,wP]) (by simp) (by simp) (by rw[iS];simp[wrongS]) _ (by simp[sg_cat,s2,s5,joinC])
 ·exact bad_of (by decide +kernel)
 ·refine row ["like", Q] (by simp[wL,wQ]) (by simp) (by simp) (by rw[iL];rfl) _ (by simp[sg_cat,s3,joinC])
 ·exact bad_of (by decide +kernel)
 ·refine row ["like", Q,P] (by simp[wL,wQ,wP]) (by simp) (by simp) (by rw[iL];rfl) _ (by simp[sg_cat,s3,s5,joinC])
 ·refine row ["like", Q,P, "01"] (by simp[wL,wQ,wP,w3]) (by simp) (by simp) (by rw[iL];simp[wrongL,a1]) _ (by simp[sg_cat,s3,s5,s6,joinC])
 ·refine row ["cover", P] (by simp[wC,wP]) (by simp) (by simp) (by rw[iC];rfl) _ (by simp[sg_cat,s4,joinC])
 ·exact bad_of (by decide +kernel)
 ·exact bad_of (by decide +kernel)
 ·refine row ["like", Q,P, "1", "1"] (by simp[wL,wQ,wP,w2]) (by simp) (by simp) (by rw[iL];rfl) _ (by simp[sg_cat,s3,s5,s7,joinC])
 ·refine row ["cover", P,Q, "1"] (by simp[wC,wQ,wP,w2]) (by simp) (by simp) (by rw[iC];rfl) _ (by simp[sg_cat,s4,s5,s8,joinC])
 ·refine row ["like", Q,P, "x"] (by simp[wL,wQ,wP,w4]) (by simp) (by simp) (by rw[iL];simp[wrongL,a2]) _ (by simp[sg_cat,s3,s5,s9,joinC])
theorem bad_forms (n:Nat) (P Q:Str) (hP:isNm P) (hQ:isNm Q):callF T dfs (n+1) 25 [.str P,.str Q]=.ok (.lst ((CA++CB P Q).map D.str)):=by
 have hb:=ten_big
 have lP:(signs P).length≤8:=hP.2.1
 have lQ:(signs Q).length≤8:=hQ.2.1
 have z1:(signs "scene q 1 1  ").length=13:=by decide +kernel
 have z2:(signs "scene q 1 1 ").length=12:=by decide +kernel
 have z3:(signs "like ").length=5:=by decide +kernel
 have z4:(signs "cover ").length=6:=by decide +kernel
 have z5:(signs " ").length=1:=by decide +kernel
 have z6:(signs " 01").length=3:=by decide +kernel
 have z7:(signs " 1 1").length=4:=by decide +kernel
 have z8:(signs " 1").length=2:=by decide +kernel
 have z9:(signs " x").length=2:=by decide +kernel
 have t1:=add_str (x := "scene q 1 1  ") (y:=P) (by lia)
 have t2:=add_str (x := "scene q 1 1 ") (y:=P) (by lia)
 have t3:=add_str (x := "scene q 1 1 " ++ P) (y := " ") (by rw[sg_cat,List.length_append];lia)
 have t4:=add_str (x := "scene q 1 1 " ++ P ++ " ") (y:=P) (by rw[sg_cat,sg_cat,List.length_append,List.length_append];lia)
 have t5:=add_str (x := "like ") (y:=Q) (by lia)
 have t6:=add_str (x := "like " ++ Q) (y := " ") (by rw[sg_cat,List.length_append];lia)
 have t7:=add_str (x := "like " ++ Q ++ " ") (y:=P) (by rw[sg_cat,sg_cat,List.length_append,List.length_append];lia)
 have t8:=add_str (x := "like " ++ Q ++ " " ++ P) (y := " 01") (by rw[sg_cat,sg_cat,sg_cat,List.length_append,List.length_append,List.length_append];lia)
 have t9:=add_str (x := "cover ") (y:=P) (by lia)
 have u1:=add_str (x:=Q) (y := " ") (by lia)
 have u2:=add_str (x:=Q ++ " ") (y:=P) (by rw[sg_cat,List.length_append];lia)
 have u3:=add_str (x := "like ") (y:=Q ++ " " ++ P) (by rw[sg_cat,sg_cat,List.length_append,List.length_append];lia)
 have u4:=add_str (x := "like " ++ (Q ++ " " ++ P)) (y := " 1 1") (by rw[sg_cat,sg_cat,sg_cat,List.length_append,List.length_append,List.length_append];lia)
 have u5:=add_str (x := "cover " ++ P) (y := " ") (by rw[sg_cat,List.length_append];lia)
 have u6:=add_str (x := "cover " ++ P ++ " ") (y:=Q) (by rw[sg_cat,sg_cat,List.length_append,List.length_append];lia)
 have u7:=add_str (x := "cover " ++ P ++ " " ++ Q) (y := " 1") (by rw[sg_cat,sg_cat,sg_cat,List.length_append,List.length_append,List.length_append];lia)
 have u8:=add_str (x := "like " ++ (Q ++ " " ++ P)) (y := " x") (by rw[sg_cat,sg_cat,sg_cat,List.length_append,List.length_append,List.length_append];lia)
 have ad:∀a b:List D,a.length+b.length≤1000→D.bin .Add (.lst a) (.lst b)=.ok (.lst (a++b)):=λa b h=>add_lsts (by lia)
 refine callF_rt (k:=true) rfl rfl rfl ?_
 simp[b_law_bad_forms,ad,t1,t2,t3,t4,t5,t6,t7,t8,t9,u1,u2,u3,u4,u5,u6,u7,u8,CA,CB]
theorem cell_at (n:Nat) (ns:List Int) (k:Nat):callF T dfs (n+1) 15 [.lst (ns.map D.int),.int k]=.ok (.int (cellV ns k)):=by
 unfold cellV
 refine callF_rt (k:=false) rfl rfl rfl ?_
 by_cases h:k < ns.length
 ·have hi:(ns.map D.int)[k]?=some (.int (ns.getD k 0)):=by simp[h]
  have f1:freshE T ((E.var 0).ix (E.var 1))=false:=rfl
  simp[b_law_cell_at,h,ix_l hi,f1]
 ·simp[b_law_cell_at,h]
@[simp] theorem cell_at0 (n:Nat) (ns:List Int):callF T dfs (n+1) 15 [.lst (ns.map D.int),.int 0]=.ok (.int (cellV ns 0)):=cell_at n ns 0
@[simp] theorem cell_at1 (n:Nat) (ns:List Int):callF T dfs (n+1) 15 [.lst (ns.map D.int),.int 1]=.ok (.int (cellV ns 1)):=cell_at n ns 1
@[simp] theorem cell_at2 (n:Nat) (ns:List Int):callF T dfs (n+1) 15 [.lst (ns.map D.int),.int 2]=.ok (.int (cellV ns 2)):=cell_at n ns 2
noncomputable def stepV (c:Int):Int:=if c / 26 % 4=0 then 1 else if c / 26 % 4=1 then 3 else if c / 26 % 4=2 then 5 else 7
noncomputable def tailL (c:Int):List Nat:=if c / 104 % 4=0 then [] else if c / 104 % 4=1 then [97] else if c / 104 % 4=2 then [98,97] else [122,122,122,122,122,122,122]
noncomputable def atV (c:Int):Nat:=(c / 416 % (((tailL c).length:Int)+1)).toNat
noncomputable def signV (c k:Int):Nat:=97+((c+k*stepV c) % 26).toNat
noncomputable def nameL (c k:Int):List Nat:=(tailL c).take (atV c)++signV c k::(tailL c).drop (atV c)
noncomputable def nameV (c k:Int):Str:=⟨(nameL c k).toArray⟩
theorem signs_name (c k:Int):signs (nameV c k)=nameL c k:=by simp[signs,nameV]
theorem tail_len (c:Int):(tailL c).length≤7:=by
 unfold tailL
 repeat' split
 all_goals simp
theorem atV_le (c:Int):atV c≤(tailL c).length:=by
 unfold atV
 have:=Int.emod_lt_of_pos (c / 416) (show (0:Int) < ((tailL c).length:Int)+1 by lia)
 lia
theorem sign_range (c k:Int):97≤signV c k∧signV c k≤122:=by
 unfold signV
 have h1:=Int.emod_nonneg (c+k*stepV c) (show (26:Int)≠0 by lia)
 have h2:=Int.emod_lt_of_pos (c+k*stepV c) (show (0:Int) < 26 by lia)
 lia
theorem has_letter {c:Nat} (h:97≤c∧c≤122):hasC "abcdefghijklmnopqrstuvwxyz" c=true:=by
 have:∀i:Fin 26,hasC "abcdefghijklmnopqrstuvwxyz" (97+i.val)=true:=by decide
 have:=this ⟨c - 97,by lia⟩
 rwa [show 97+(c - 97)=c by lia] at this
theorem tail_mem {c:Int} {x:Nat} (h:x∈tailL c):97≤x∧x≤122:=by
 unfold tailL at h
 repeat' split at h
 all_goals simp at h
 all_goals lia
theorem name_mem {c k:Int} {x:Nat} (h:x∈nameL c k):97≤x∧x≤122:=by
 unfold nameL at h
 rw[List.mem_append,List.mem_cons] at h
 rcases h with h | rfl | h
 ·exact tail_mem (List.mem_of_mem_take h)
 ·exact sign_range c k
 ·exact tail_mem (List.mem_of_mem_drop h)
theorem name_len (c k:Int):(nameL c k).length=(tailL c).length+1:=by
 have:=atV_le c
 unfold nameL
 rw[List.length_append,List.length_cons,List.length_take,List.length_drop]
 lia
theorem name_nm (c k:Int):isNm (nameV c k):=by
 have h:=tail_len c
 have h2:=name_len c k
 refine⟨by rw[signs_name];lia,by rw[signs_name];lia,?_⟩
 rw[signs_name,List.all_eq_true]
 exact λx hx=>has_letter (name_mem hx)
theorem name_inj {c k k':Int} (h0:0≤k∧k < 26) (h1:0≤k'∧k' < 26) (h:nameV c k=nameV c k'):k=k':=by
 have e:nameL c k=nameL c k':=by rw[←signs_name,←signs_name,h]
 unfold nameL at e
 have e2:=List.append_cancel_left e
 injection e2 with e3 _
 unfold signV at e3
 have a1:=Int.emod_nonneg (c+k*stepV c) (show (26:Int)≠0 by lia)
 have a2:=Int.emod_nonneg (c+k'*stepV c) (show (26:Int)≠0 by lia)
 have e4:(c+k*stepV c) % 26=(c+k'*stepV c) % 26:=by lia
 unfold stepV at e4
 repeat' split at e4
 all_goals lia
theorem letter_at (i:Int) (h:0≤i∧i < 26):D.ix (.str "abcdefghijklmnopqrstuvwxyz") (.int i)=.ok (.str (chr1 (97+i.toNat))):=by
 have hb:=ten_big
 have a:∀j:Fin 26,atI (("abcdefghijklmnopqrstuvwxyz" : Str).cps.toList) ((j.val:Nat):Int)=some (97+j.val):=by decide
 have:=a ⟨i.toNat,by lia⟩
 rw[show ((i.toNat:Nat):Int)=i by lia] at this
 show when (decide (("abcdefghijklmnopqrstuvwxyz" : Str).length≤big)) (Res.of ((atI ("abcdefghijklmnopqrstuvwxyz" : Str).cps.toList i).map λc=>D.str ⟨#[c]⟩))=_
 rw[this,show decide (("abcdefghijklmnopqrstuvwxyz" : Str).length≤big)=true by
  rw[show ("abcdefghijklmnopqrstuvwxyz" : Str).length=26 by decide];simp;lia]
 rfl
noncomputable def tailS (c:Int):Str:=⟨(tailL c).toArray⟩
theorem four_at {α:Type} (a b c d:α) (i:Int) (h:0≤i∧i < 4):atI [a,b,c,d] i=some (if i=0 then a else if i=1 then b else if i=2 then c else d):=by
 have:i=0∨i=1∨i=2∨i=3:=by lia
 rcases this with rfl | rfl | rfl | rfl<;>rfl
theorem law_name (n:Nat) (c k:Int):callF T dfs (n+1) 17 [.int c,.int k]=.ok (.str (nameV c k)):=by
 refine callF_rt (k:=true) rfl rfl rfl ?_
 have hb:=ten_big
 have r1:0≤c / 26 % 4∧c / 26 % 4 < 4:=by lia
 have r2:0≤c / 104 % 4∧c / 104 % 4 < 4:=by lia
 have e1:D.ix (.lst [.int 1,.int 3,.int 5,.int 7]) (.int (c / 26 % 4))=.ok (.int (stepV c)):=by
  show Res.of (atI _ _)=_
  rw[four_at _ _ _ _ _ r1]
  unfold stepV
  repeat' split
  all_goals rfl
 have e2:D.ix (.lst [.str "", .str "a", .str "ba", .str "zzzzzzz"]) (.int (c / 104 % 4))=.ok (.str (tailS c)):=by
  show Res.of (atI _ _)=_
  rw[four_at _ _ _ _ _ r2]
  unfold tailS tailL
  repeat' split
  ·exact congrArg (λz=>Res.ok (D.str z)) (show ("" : Str)=_ by decide)
  ·exact congrArg (λz=>Res.ok (D.str z)) (show ("a" : Str)=_ by decide)
  ·exact congrArg (λz=>Res.ok (D.str z)) (show ("ba" : Str)=_ by decide)
  ·exact congrArg (λz=>Res.ok (D.str z)) (show ("zzzzzzz" : Str)=_ by decide)
 have hs:signs (tailS c)=tailL c:=by simp[signs,tailS]
 have hl:=len_signs (tailS c)
 rw[hs] at hl
 have ht:=tail_len c
 have ha:=atV_le c
 have e3:D.bin .Mult (.int k) (.int (stepV c))=.ok (.int (k*stepV c)):=by
  show when (small64 k||small64 (stepV c)) _=_
  have:small64 (stepV c)=true:=by
   unfold stepV
   repeat' split
   all_goals decide
  rw[this,Bool.or_true];rfl
 have r3:0≤(c+k*stepV c) % 26∧(c+k*stepV c) % 26 < 26:=by lia
 have e4:=letter_at _ r3
 have e5:(tailS c).length≤big:=by lia
 have e6:(0:Int) < (tailL c).length+1:=by lia
 have e7:c / 416 % (((tailL c).length:Int)+1)=(atV c:Int):=by
  unfold atV
  have:=Int.emod_nonneg (c / 416) (show ((tailL c).length:Int)+1≠0 by lia)
  lia
 have e8:D.sl (.str (tailS c)) none (some (atV c:Int))=.ok (.str ⟨((tailL c).take (atV c)).toArray⟩):=by
  show when (decide ((tailS c).length≤big)) (.ok (D.str (strCut (tailS c) none (some (atV c:Int)))))=_
  rw[show decide ((tailS c).length≤big)=true by simpa using e5]
  unfold strCut
  rw[show (tailS c).cps.toList=tailL c from hs]
  have:cut (tailL c) none (some (atV c:Int))=(tailL c).take (atV c):=by
   unfold cut sIx
   simp only[]
   rw[if_neg (by lia),Int.toNat_natCast,Nat.min_eq_left ha,List.drop_zero,Nat.sub_zero]
  rw[this];rfl
 have e9:D.sl (.str (tailS c)) (some (atV c:Int)) none=.ok (.str ⟨((tailL c).drop (atV c)).toArray⟩):=by
  show when (decide ((tailS c).length≤big)) (.ok (D.str (strCut (tailS c) (some (atV c:Int)) none)))=_
  rw[show decide ((tailS c).length≤big)=true by simpa using e5]
  unfold strCut
  rw[show (tailS c).cps.toList=tailL c from hs,cut_from ha];rfl
 have e10:D.bin .Add (.str ⟨((tailL c).take (atV c)).toArray⟩) (.str (chr1 (97+((c+k*stepV c) % 26).toNat)))=.ok (.str ⟨((tailL c).take (atV c)++[signV c k]).toArray⟩):=by
  exact add_strs (a:=(tailL c).take (atV c)) (b:=[signV c k]) (by simp;lia)
 have e11:D.bin .Add (.str ⟨((tailL c).take (atV c)++[signV c k]).toArray⟩) (.str ⟨((tailL c).drop (atV c)).toArray⟩)=.ok (.str (nameV c k)):=by
  rw[add_strs (by simp;lia)]
  unfold nameV nameL
  rw[List.append_assoc];rfl
 have e12:(tailL c).length≤big:=by lia
 simp[b_law_name,e1,e2,e3,e4,hl,e12,e6,e7,e8,e9,e10,e11]
noncomputable def minV (x:Int):Int:=x / 6 % (if x % 6 < 4 then 7 else if x % 6=4 then 40 else 1000000000)
theorem minV_range (x:Int):0≤minV x∧minV x < 1000000000:=by
 unfold minV
 repeat' split
 all_goals lia
theorem law_minutes (n:Nat) (x:Int):callF T dfs (n+1) 18 [.int x]=.ok (.int (minV x)):=by
 refine callF_rt (k:=false) rfl rfl rfl ?_
 have e0:D.bin .Pow (.int 10) (.int 9)=.ok (.int 1000000000):=by rfl
 have e1:D.ix (.lst [.int 7,.int 7,.int 40,.int 1000000000]) (.int (x % 6 / 2+x % 6 / 5))=.ok (.int (if x % 6 < 4 then 7 else if x % 6=4 then 40 else 1000000000)):=by
  show Res.of (atI _ _)=_
  rw[four_at _ _ _ _ _ (by lia)]
  repeat' split
  all_goals first | rfl | (exfalso;lia)
 have e2:(0:Int) < (if x % 6 < 4 then 7 else if x % 6=4 then 40 else 1000000000):=by
  repeat' split
  all_goals lia
 simp[b_law_minutes,e0,e1,e2,minV]
noncomputable def mixN (c k:Int):Int:=(c % 1000003*(48271+15838*k*k)+69621*k) % 2147483647
theorem mixN_range (c k:Int):0≤mixN c k∧mixN c k < 2147483647:=by unfold mixN;lia
theorem mul_small {i j:Int} (h:small64 i=true∨small64 j=true):D.bin .Mult (.int i) (.int j)=.ok (.int (i*j)):=by
 show when (small64 i||small64 j) _=_
 rcases h with h | h
 ·rw[h];rfl
 ·rw[h,Bool.or_true];rfl
theorem law_mix (n:Nat) (c k:Int) (hk:0≤k∧k < 1000000):callF T dfs (n+1) 16 [.int c,.int k]=.ok (.int (mixN c k)):=by
 refine callF_rt (k:=false) rfl rfl rfl ?_
 have hk2:small64 k=true:=by unfold small64;simp;lia
 have e1:D.bin .Mult (.int 15838) (.int k)=.ok (.int (15838*k)):=mul_small (.inr hk2)
 have e2:D.bin .Mult (.int (15838*k)) (.int k)=.ok (.int (15838*k*k)):=mul_small (.inr hk2)
 have e3:D.bin .Mult (.int 69621) (.int k)=.ok (.int (69621*k)):=mul_small (.inr hk2)
 have e4:D.bin .Mult (.int (c % 1000003)) (.int (48271+15838*k*k))=.ok (.int (c % 1000003*(48271+15838*k*k))):=mul_small (.inl (by unfold small64;simp;lia))
 simp[b_law_mix,e1,e2,e3,e4,mixN]
noncomputable def firstC:List Nat→Nat
 | a::_=>a
 | []=>97
noncomputable def voiceV (x base:Int):Nat:=if x % 4=0 then 97 else if x % 4=1 then 98 else if x % 4=2 then 97 else firstC (nameL (7*base) x)
theorem name_cons (c k:Int):∃a r,nameL c k=a::r:=by
 have:=name_len c k
 cases e:nameL c k with
 | nil=>rw[e] at this;simp at this
 | cons a r=>exact⟨a,r,rfl⟩
theorem voice_range (x base:Int):97≤voiceV x base∧voiceV x base≤122:=by
 unfold voiceV
 repeat' split
 ·lia
 ·lia
 ·lia
 ·obtain⟨a,r,e⟩:=name_cons (7*base) x
  rw[e]
  exact name_mem (c:=7*base) (k:=x) (by rw[e];exact List.mem_cons_self)
noncomputable def partP (cell base:Int) (k:Nat):Str×List D:=(nameV base k,[.str (chr1 (voiceV (mixN cell k) base)),.int (minV (mixN cell k / 4)),.int (minV (mixN cell (k+20)))])
theorem law_part (n:Nat) (cell base:Int) (k:Nat) (hk:k < 1000):callF T dfs (n+2) 19 [.int cell,.int k,.int base]=.ok (ent (partP cell base k)):=by
 refine callF_rt (k:=false) rfl rfl rfl ?_
 have hb:=ten_big
 have e1:=law_mix n cell k (by lia)
 have e2:=law_mix n cell (k+20) (by lia)
 have e3:=law_name n base k
 have e4:=law_name n (7*base) (mixN cell k)
 have e5:=law_minutes n (mixN cell k / 4)
 have e6:=law_minutes n (mixN cell (k+20))
 have e7:D.bin .Mult (.int 7) (.int base)=.ok (.int (7*base)):=mul_small (.inl (by decide))
 have e8:D.sl (.str (nameV (7*base) (mixN cell k))) none (some 1)=.ok (.str (chr1 (firstC (nameL (7*base) (mixN cell k))))):=by
  obtain⟨a,r,e⟩:=name_cons (7*base) (mixN cell k)
  have hl:(nameV (7*base) (mixN cell k)).length≤big:=by
   rw[len_signs,signs_name,name_len];have:=tail_len (7*base);lia
  show when (decide ((nameV (7*base) (mixN cell k)).length≤big)) (.ok (D.str (strCut (nameV (7*base) (mixN cell k)) none (some 1))))=_
  rw[show decide ((nameV (7*base) (mixN cell k)).length≤big)=true by simpa using hl]
  unfold strCut
  rw[show (nameV (7*base) (mixN cell k)).cps.toList=nameL (7*base) (mixN cell k) from signs_name _ _,e]
  have:cut (a::r) none (some 1)=[a]:=by
   unfold cut sIx;simp
  rw[this];rfl
 have r:=mixN_range cell k
 have e9:D.ix (.lst [.str "a", .str "b", .str "a", .str (chr1 (firstC (nameL (7*base) (mixN cell k))))]) (.int (mixN cell k % 4))=.ok (.str (chr1 (voiceV (mixN cell k) base))):=by
  show Res.of (atI _ _)=_
  rw[four_at _ _ _ _ _ (by lia)]
  unfold voiceV
  repeat' split
  ·exact congrArg (λz=>Res.ok (D.str z)) (show ("a" : Str)=_ by decide)
  ·exact congrArg (λz=>Res.ok (D.str z)) (show ("b" : Str)=_ by decide)
  ·exact congrArg (λz=>Res.ok (D.str z)) (show ("a" : Str)=_ by decide)
  ·rfl
 simp[b_law_part,e1,e2,e3,e4,e5,e6,e7,e8,e9,ent,partP]
noncomputable def voicesV (x:Int):Str:=if x % 6=0 then "ab" else if x % 6=1 then "a" else if x % 6=2 then "bca" else if x % 6=3 then "" else if x % 6=4 then "abcdefghijklmnopqrstuvwxyz" else "zb"
noncomputable def playerP (cell base:Int) (k:Nat):Str×List D:=(nameV base k,[.str (voicesV (mixN cell k)),.int (minV (mixN cell k / 6))])
theorem six_at {α:Type} (a b c d e f:α) (i:Int) (h:0≤i∧i < 6):atI [a,b,c,d,e,f] i=some (if i=0 then a else if i=1 then b else if i=2 then c else if i=3 then d else if i=4 then e else f):=by
 have:i=0∨i=1∨i=2∨i=3∨i=4∨i=5:=by lia
 rcases this with rfl | rfl | rfl | rfl | rfl | rfl<;>rfl
theorem law_player (n:Nat) (cell base:Int) (k:Nat) (hk:k < 1000):callF T dfs (n+2) 20 [.int cell,.int k,.int base]=.ok (ent (playerP cell base k)):=by
 refine callF_rt (k:=false) rfl rfl rfl ?_
 have hb:=ten_big
 have e1:=law_mix n cell k (by lia)
 have e3:=law_name n base k
 have e5:=law_minutes n (mixN cell k / 6)
 have r:=mixN_range cell k
 have e9:D.ix (.lst [.str "ab", .str "a", .str "bca", .str "", .str "abcdefghijklmnopqrstuvwxyz", .str "zb"]) (.int (mixN cell k % 6))=.ok (.str (voicesV (mixN cell k))):=by
  show Res.of (atI _ _)=_
  rw[six_at _ _ _ _ _ _ _ (by lia)]
  unfold voicesV
  repeat' split
  all_goals rfl
 simp[b_law_player,e1,e3,e5,e9,ent,playerP]
noncomputable def powV (j:Nat):Int:=if j=0 then 1 else if j=1 then 3 else if j=2 then 9 else if j=3 then 27 else if j=4 then 81 else if j=5 then 243 else if j=6 then 729 else 2187
noncomputable def inV (x:Int) (j:Nat):Bool:=decide (x / powV j % 3=0)
theorem eight_at {α:Type} (a b c d e f g h:α) (i:Nat) (hi:i < 8):atI [a,b,c,d,e,f,g,h] (i:Int)=some (if i=0 then a else if i=1 then b else if i=2 then c else if i=3 then d else if i=4 then e else if i=5 then f else if i=6 then g else h):=by
 have:i=0∨i=1∨i=2∨i=3∨i=4∨i=5∨i=6∨i=7:=by lia
 rcases this with rfl | rfl | rfl | rfl | rfl | rfl | rfl | rfl<;>rfl
theorem powV_pos (j:Nat):0 < powV j∧powV j < 1073741824:=by
 unfold powV
 repeat' split
 all_goals lia
theorem scene_comp (n:Nat) (x:Int) (a b c d f g h:Sl):∀xs:List Nat,(∀j∈xs,j < 8)→compL (compF T (callF T dfs n) 1 [4] (.one 0) e_scene_2 c_scene_1 [a,b,c,d,.v (.int x),f,g,h]) (xs.map λj:Nat=>D.int j)=.ok ((xs.filter (inV x)).map λj:Nat=>D.int j)
 | [],_=>rfl
 | j::r,hj=>by
  have h8:=hj j List.mem_cons_self
  have e1:D.ix (.lst [.int 1,.int 3,.int 9,.int 27,.int 81,.int 243,.int 729,.int 2187]) (.int j)=.ok (.int (powV j)):=by
   show Res.of (atI _ _)=_
   rw[eight_at _ _ _ _ _ _ _ _ j h8]
   unfold powV
   repeat' split
   all_goals rfl
  have hp:=powV_pos j
  have e2:D.bin .FloorDiv (.int x) (.int (powV j))=.ok (.int (x / powV j)):=by
   show when (decide (0 < powV j)&&decide (powV j < 1073741824)) _=_
   rw[show decide (0 < powV j)=true by simpa using hp.1,show decide (powV j < 1073741824)=true by simpa using hp.2]
   rfl
  rw[List.map_cons,compL,scene_comp n x a b c d f g h r λi hi=>hj i (List.mem_cons_of_mem _ hi)]
  by_cases q:x / powV j % 3=0
  ·have q':inV x j=true:=by unfold inV;simpa using q
   rw[List.filter_cons_of_pos q']
   simp[compF,Tr.compEnv,e_scene_2,c_scene_1,e1,e2,q]
  ·have q':¬inV x j=true:=by unfold inV;simpa using q
   rw[List.filter_cons_of_neg q']
   simp[compF,Tr.compEnv,e_scene_2,c_scene_1,e1,e2,q]
noncomputable def someV (x:Int) (many:Nat):List Nat:=(List.range many).filter (inV x)
theorem some_len (x:Int) (many:Nat):(someV x many).length≤many:=by
 have:=List.length_filter_le (inV x) (List.range many)
 rw[List.length_range] at this
 exact this
noncomputable def whoV (cell:Int) (k many:Nat):List Nat:=rotV cell (someV (mixN cell (k+40)) many)
noncomputable def sceneP (cell base:Int) (k many:Nat):Str×List D:=(nameV base k,[.int (minV (mixN cell k)),.int (minV (mixN cell (k+20))),.tup ((whoV cell k many).map λj:Nat=>D.int j)])
theorem law_scene (n:Nat) (cell base:Int) (k many:Nat) (hk:k < 1000) (hm:many≤8):callF T dfs (n+2) 21 [.int cell,.int k,.int base,.int many]=.ok (ent (sceneP cell base k many)):=by
 refine callF_rt (k:=false) rfl rfl rfl ?_
 have hb:=ten_big
 have e0:=law_mix n cell (k+40) (by lia)
 have e1:=law_mix n cell k (by lia)
 have e2:=law_mix n cell (k+20) (by lia)
 have e3:=law_name n base k
 have e4:=law_minutes n (mixN cell k)
 have e5:=law_minutes n (mixN cell (k+20))
 have e6:rngR (.int (many:Int))=.ok ((List.range many).map λj:Nat=>D.int j):=by
  rw[rng_ok (by lia),rangeD_eq]
  simp
 have e7:=λa b c d f g h=>scene_comp (n+1) (mixN cell (k+40)) a b c d f g h (List.range many) λj hj=>by rw[List.mem_range] at hj;lia
 have hl:=some_len (mixN cell (k+40)) many
 have e7':∀a b c d f g h,compL (compF T (callF T dfs (n+1)) 1 [4] (.one 0) e_scene_2 c_scene_1 [a,b,c,d,.v (.int (mixN cell (k+40))),f,g,h]) ((List.range many).map λj:Nat=>D.int j)=.ok ((someV (mixN cell (k+40)) many).map λj:Nat=>D.int j):=e7
 clear e7
 have hw:whoV cell k many=rotV cell (someV (mixN cell (k+40)) many):=rfl
 generalize someV (mixN cell (k+40)) many=L at *
 have hr:=rot_le cell L
 have e8:cell % ((L.length:Int)+1)=(((cell % ((L.length:Int)+1)).toNat:Nat):Int):=by
  have:=Int.emod_nonneg cell (show (L.length:Int)+1≠0 by lia)
  lia
 have e9:(0:Int) < (L.length:Int)+1:=by lia
 have hL:(L.map λj:Nat=>D.int j).length=L.length:=List.length_map ..
 have e10:cut (L.map λj:Nat=>D.int j) (some (cell % ((L.length:Int)+1))) none=(L.map λj:Nat=>D.int j).drop (cell % ((L.length:Int)+1)).toNat:=by
  rw[e8];exact cut_from (by rw[hL];lia)
 have e11:cut (L.map λj:Nat=>D.int j) none (some (cell % ((L.length:Int)+1)))=(L.map λj:Nat=>D.int j).take (cell % ((L.length:Int)+1)).toNat:=by
  rw[e8];exact cut_to (by rw[hL];lia)
 have e12:D.bin .Add (.lst ((L.map λj:Nat=>D.int j).drop (cell % ((L.length:Int)+1)).toNat)) (.lst ((L.map λj:Nat=>D.int j).take (cell % ((L.length:Int)+1)).toNat))=.ok (.lst ((whoV cell k many).map λj:Nat=>D.int j)):=by
  rw[add_lsts (by rw[List.length_drop,List.length_take,hL];lia),hw,←rot_map]
  unfold rotV
  rw[hL]
 have e13:many≤big:=by lia
 have e14:L.length≤big:=by lia
 simp[b_law_scene,e0,e1,e2,e3,e4,e5,e6,e7',e9,e10,e11,e12,e13,e14,ent,sceneP]
noncomputable def pick (cell share:Int) (k:Nat):Bool:=decide (mixN cell k / 64 % share=0)
noncomputable def prD (p:Nat×Nat):D:=.tup [.int p.1,.int p.2]
noncomputable def prs (cell share:Int) (other:Nat) (xs:List Nat):List (Nat×Nat):=(xs.filter (pick cell share)).map λk=>(k / other,k % other)
theorem pairs_body (n:Nat) (cell one share:Int) (other k:Nat) (ho:0 < other∧other < 1000) (hs:0 < share) (hk:k < 1000) (acc:List D) (ha:acc.length < 1000) (x y z w:Sl) :
 bodyF T (callF T dfs (n+1)) (.one 5) b_pairs_1 (.int k) [.v (.int cell),.v (.int one),.v (.int other),.v (.int share),.o (.lst acc),x,y,z,w] =
  .ok (.nx [.v (.int cell),.v (.int one),.v (.int other),.v (.int share),.o (.lst (if pick cell share k then acc++[prD (k / other,k % other)] else acc)),.v (.int k),.v (.int (mixN cell k)),.v (prD (k / other,k % other)),w]):=by
 have hb:=ten_big
 have e1:=law_mix n cell k (by lia)
 have e2:D.bin .FloorDiv (.int k) (.int other)=.ok (.int ((k / other:Nat):Int)):=by
  show when (decide ((0:Int) < other)&&decide ((other:Int) < 1073741824)) _=_
  rw[show decide ((0:Int) < other)=true by simp;lia,show decide ((other:Int) < 1073741824)=true by simp;lia]
  simp
 have e3:D.bin .Mod (.int k) (.int other)=.ok (.int ((k % other:Nat):Int)):=by
  show when (decide ((0:Int) < other)) _=_
  rw[show decide ((0:Int) < other)=true by simp;lia]
  simp
 have e4:acc.length < big:=by lia
 by_cases q:mixN cell k / 64 % share=0
 ·have q':pick cell share k=true:=by unfold pick;simpa using q
  simp[bodyF,b_pairs_1,e1,e2,e3,hs,q,q',e4,prD]
 ·have q':pick cell share k=false:=by unfold pick;simpa using q
  simp[bodyF,b_pairs_1,e1,e2,e3,hs,q,q',prD]
theorem pairs_loop (n:Nat) (cell one share:Int) (other:Nat) (ho:0 < other∧other < 1000) (hs:0 < share) (w:Sl):∀(xs:List Nat) (acc:List D) (x y z:Sl),(∀k∈xs,k < 1000)→acc.length+xs.length < 1000 →
 ∃x' y' z',forL (bodyF T (callF T dfs (n+1)) (.one 5) b_pairs_1) (xs.map λk:Nat=>D.int k) [.v (.int cell),.v (.int one),.v (.int other),.v (.int share),.o (.lst acc),x,y,z,w] =
  .ok (.nx [.v (.int cell),.v (.int one),.v (.int other),.v (.int share),.o (.lst (acc++(prs cell share other xs).map prD)),x',y',z',w])
 | [],acc,x,y,z,_,_=>⟨x,y,z,by simp[prs,forL_nil]⟩
 | k::r,acc,x,y,z,hx,hl=>by
  rw[List.length_cons] at hl
  have e:=pairs_body n cell one share other k ho hs (hx k List.mem_cons_self) acc (by lia) x y z w
  obtain⟨x',y',z',e2⟩:=pairs_loop n cell one share other ho hs w r (if pick cell share k then acc++[prD (k / other,k % other)] else acc) (.v (.int k)) (.v (.int (mixN cell k))) (.v (prD (k / other,k % other))) (λi hi=>hx i (List.mem_cons_of_mem _ hi)) (by split<;>(try rw[List.length_append,List.length_singleton])<;>lia)
  refine⟨x',y',z',?_⟩
  rw[List.map_cons,forL_nx e,e2]
  unfold prs
  cases q:pick cell share k with
  | true=>rw[List.filter_cons_of_pos q];simp
  | false=>rw[List.filter_cons_of_neg (by rw[q];simp)];simp
noncomputable def pairsV (cell share:Int) (one other:Nat):List (Nat×Nat):=rotV cell (prs cell share other (List.range (one*other)))
theorem prs_len (cell share:Int) (other:Nat) (xs:List Nat):(prs cell share other xs).length≤xs.length:=by
 unfold prs
 rw[List.length_map]
 exact List.length_filter_le _ _
theorem law_pairs (n:Nat) (cell share:Int) (one other:Nat) (h1:one≤8) (h2:other≤8) (hs:0 < share):callF T dfs (n+2) 22 [.int cell,.int one,.int other,.int share]=.ok (.lst ((pairsV cell share one other).map prD)):=by
 refine callF_rt (k:=true) rfl rfl rfl ?_
 have hb:=ten_big
 have hm:one*other≤64:=Nat.mul_le_mul h1 h2
 have e1:D.bin .Mult (.int one) (.int other)=.ok (.int ((one:Int)*(other:Int))):=mul_small (.inl (by unfold small64;simp;lia))
 have e2:rngR (.int ((one:Int)*(other:Int)))=.ok ((List.range (one*other)).map λk:Nat=>D.int k):=by
  rw[show (one:Int)*(other:Int)=((one*other:Nat):Int) by push_cast;rfl,rng_ok (by lia),rangeD_eq]
  simp
 have e3:∃x' y' z',forL (bodyF T (callF T dfs (n+1)) (.one 5) b_pairs_1) ((List.range (one*other)).map λk:Nat=>D.int k) [.v (.int cell),.v (.int one),.v (.int other),.v (.int share),.o (.lst []),.no,.no,.no,.no] =
  .ok (.nx [.v (.int cell),.v (.int one),.v (.int other),.v (.int share),.o (.lst ((prs cell share other (List.range (one*other))).map prD)),x',y',z',.no]):=by
  by_cases ho:0 < other
  ·have:=pairs_loop n cell one share other ⟨ho,by lia⟩ hs .no (List.range (one*other)) [] .no .no .no (λk hk=>by rw[List.mem_range] at hk;lia) (by rw[List.length_range];simp;lia)
   simpa using this
  ·have:other=0:=by lia
   subst this
   exact⟨.no,.no,.no,by simp[prs,forL_nil]⟩
 obtain⟨x',y',z',e3⟩:=e3
 have hl:=prs_len cell share other (List.range (one*other))
 rw[List.length_range] at hl
 have hw:pairsV cell share one other=rotV cell (prs cell share other (List.range (one*other))):=rfl
 generalize prs cell share other (List.range (one*other))=L at *
 have hr:=rot_le cell L
 have e8:cell % ((L.length:Int)+1)=(((cell % ((L.length:Int)+1)).toNat:Nat):Int):=by
  have:=Int.emod_nonneg cell (show (L.length:Int)+1≠0 by lia)
  lia
 have e9:(0:Int) < (L.length:Int)+1:=by lia
 have hL:(L.map prD).length=L.length:=List.length_map ..
 have e10:cut (L.map prD) (some (cell % ((L.length:Int)+1))) none=(L.map prD).drop (cell % ((L.length:Int)+1)).toNat:=by
  rw[e8];exact cut_from (by rw[hL];lia)
 have e11:cut (L.map prD) none (some (cell % ((L.length:Int)+1)))=(L.map prD).take (cell % ((L.length:Int)+1)).toNat:=by
  rw[e8];exact cut_to (by rw[hL];lia)
 have e12:D.bin .Add (.lst ((L.map prD).drop (cell % ((L.length:Int)+1)).toNat)) (.lst ((L.map prD).take (cell % ((L.length:Int)+1)).toNat))=.ok (.lst ((pairsV cell share one other).map prD)):=by
  rw[add_lsts (by rw[List.length_drop,List.length_take,hL];lia),hw,←rot_map]
  unfold rotV
  rw[hL]
 have e14:L.length≤big:=by lia
 simp[b_law_pairs,e1,e2,e3,e9,e10,e11,e12,e14]
noncomputable def cellsD (f:Nat→Int):D:=.lst [.int (f 0),.int (f 1),.int (f 2),.int (f 3),.int (f 4),.int (f 5),.int (f 6),.int (f 7)]
theorem drawn_cells (n:Nat) (ns:List Int) (at_:Nat) (env:Nv):compL (compF T (callF T dfs (n+1)) 1 [0,1] (.one 0) e_drawn_1 (.con (.bl true)) (.v (.lst (ns.map D.int))::.v (.int at_)::env)) (rangeD 0 8)=.ok [.int (cellV ns at_),.int (cellV ns (at_+1)),.int (cellV ns (at_+2)),.int (cellV ns (at_+3)),.int (cellV ns (at_+4)),.int (cellV ns (at_+5)),.int (cellV ns (at_+6)),.int (cellV ns (at_+7))]:=by
 have e:∀xs:List Nat,compL (compF T (callF T dfs (n+1)) 1 [0,1] (.one 0) e_drawn_1 (.con (.bl true)) (.v (.lst (ns.map D.int))::.v (.int at_)::env)) (xs.map λj:Nat=>D.int j)=.ok (xs.map λj:Nat=>D.int (cellV ns (at_+j))):=by
  intro xs
  induction xs with
  | nil=>rfl
  | cons x r ih =>
   have c:=cell_at n ns (at_+x)
   rw[show ((at_+x:Nat):Int)=(at_:Int)+(x:Int) by push_cast;rfl] at c
   rw[List.map_cons,compL,ih]
   simp[compF,Tr.compEnv,e_drawn_1,c]
 have e2:rangeD 0 8=(List.range 8).map λj:Nat=>D.int j:=by rw[rangeD_eq];simp
 rw[e2,e]
 rfl
theorem drawn_parts (n:Nat) (f:Nat→Int) (a b:Sl) (env:Nv):∀xs:List Nat,(∀k∈xs,k < 1000)→compL (compF T (callF T dfs (n+2)) 1 [2] (.one 0) e_drawn_2 (.con (.bl true)) (a::b::.v (cellsD f)::env)) (xs.map λj:Nat=>D.int j)=.ok (xs.map λk=>ent (partP (f 2) (f 0) k))
 | [],_=>rfl
 | x::r,h=>by
  have c:=law_part n (f 2) (f 0) x (h x List.mem_cons_self)
  rw[List.map_cons,compL,drawn_parts n f a b env r λk hk=>h k (List.mem_cons_of_mem _ hk)]
  simp[compF,Tr.compEnv,e_drawn_2,cellsD,c]
theorem drawn_players (n:Nat) (f:Nat→Int) (a b:Sl) (env:Nv):∀xs:List Nat,(∀k∈xs,k < 1000)→compL (compF T (callF T dfs (n+2)) 1 [2] (.one 0) e_drawn_3 (.con (.bl true)) (a::b::.v (cellsD f)::env)) (xs.map λj:Nat=>D.int j)=.ok (xs.map λk=>ent (playerP (f 3) (f 4) k))
 | [],_=>rfl
 | x::r,h=>by
  have c:=law_player n (f 3) (f 4) x (h x List.mem_cons_self)
  rw[List.map_cons,compL,drawn_players n f a b env r λk hk=>h k (List.mem_cons_of_mem _ hk)]
  simp[compF,Tr.compEnv,e_drawn_3,cellsD,c]
noncomputable def scenesE (base:Int) (many:Nat):Nat→List Int→List (Str×List D)
 | _,[]=>[]
 | j,c::r=>sceneP c base j many::scenesE base many (j+1) r
theorem drawn_scenes (n:Nat) (f:Nat→Int) (many:Nat) (hm:many≤8) (a0 a1 a4 a5 a9 a10 a11 a12:Sl):∀(cs:List Int) (j:Nat) (acc:List D) (x y:Sl),j+cs.length < 1000→acc.length+cs.length < 1000 →
 ∃x' y',forL (bodyF T (callF T dfs (n+2)) (.many [7,8]) b_drawn_4) (enumD j (cs.map D.int)) [a0,a1,.v (cellsD f),.v (.int many),a4,a5,.o (.lst acc),x,y,a9,a10,a11,a12] =
  .ok (.nx [a0,a1,.v (cellsD f),.v (.int many),a4,a5,.o (.lst (acc++(scenesE (f 5) many j cs).map ent)),x',y',a9,a10,a11,a12])
 | [],j,acc,x,y,_,_=>⟨x,y,by simp[scenesE,enumD,forL_nil]⟩
 | c::r,j,acc,x,y,h1,h2=>by
  rw[List.length_cons] at h1 h2
  have hb:=ten_big
  have e0:=law_scene n c (f 5) j many (by lia) hm
  have e1:acc.length < big:=by lia
  have e:bodyF T (callF T dfs (n+2)) (.many [7,8]) b_drawn_4 (.tup [.int j,.int c]) [a0,a1,.v (cellsD f),.v (.int many),a4,a5,.o (.lst acc),x,y,a9,a10,a11,a12] =
   .ok (.nx [a0,a1,.v (cellsD f),.v (.int many),a4,a5,.o (.lst (acc++[ent (sceneP c (f 5) j many)])),.v (.int j),.v (.int c),a9,a10,a11,a12]):=by
   simp[bodyF,b_drawn_4,cellsD,e0,e1]
  obtain⟨x',y',e2⟩:=drawn_scenes n f many hm a0 a1 a4 a5 a9 a10 a11 a12 r (j+1) (acc++[ent (sceneP c (f 5) j many)]) (.v (.int j)) (.v (.int c)) (by lia) (by simp;lia)
  refine⟨x',y',?_⟩
  rw[List.map_cons,enumD,forL_nx e,show (j:Int)+1=((j+1:Nat):Int) by push_cast;rfl,e2,scenesE,List.map_cons,List.append_assoc]
  rfl
noncomputable def likeT (cell:Int) (p:Nat×Nat):Nat×Nat×Nat:=(p.1,p.2,(mixN cell (p.2+9*p.1) % 1000000000).toNat)
noncomputable def lkD (l:Nat×Nat×Nat):D:=.tup [.int l.1,.int l.2.1,.int l.2.2]
theorem drawn_likes (n:Nat) (f:Nat→Int) (a0 a1 a3 a4 a5 a6 a7 a8 a12:Sl):∀(ps:List (Nat×Nat)) (acc:List D) (x y:Sl),(∀p∈ps,p.1 < 100∧p.2 < 100)→acc.length+ps.length < 1000 →
 ∃x' y',forL (bodyF T (callF T dfs (n+2)) (.many [10,11]) b_drawn_5) (ps.map prD) [a0,a1,.v (cellsD f),a3,a4,a5,a6,a7,a8,.o (.lst acc),x,y,a12] =
  .ok (.nx [a0,a1,.v (cellsD f),a3,a4,a5,a6,a7,a8,.o (.lst (acc++(ps.map (likeT (f 6))).map lkD)),x',y',a12])
 | [],acc,x,y,_,_=>⟨x,y,by simp[forL_nil]⟩
 | p::r,acc,x,y,h1,h2=>by
  rw[List.length_cons] at h2
  have hb:=ten_big
  have hp:=h1 p List.mem_cons_self
  have e0:=law_mix (n+1) (f 6) ((p.2:Int)+9*(p.1:Int)) (by lia)
  have e1:acc.length < big:=by lia
  have r1:=mixN_range (f 6) ((p.2:Int)+9*(p.1:Int))
  have e3:D.bin .Mult (.int 9) (.int (p.1:Int))=.ok (.int (9*(p.1:Int))):=mul_small (.inl (by decide))
  have e4:((mixN (f 6) ((p.2:Int)+9*(p.1:Int)) % 1000000000).toNat:Int)=mixN (f 6) ((p.2:Int)+9*(p.1:Int)) % 1000000000:=by lia
  have e:bodyF T (callF T dfs (n+2)) (.many [10,11]) b_drawn_5 (prD p) [a0,a1,.v (cellsD f),a3,a4,a5,a6,a7,a8,.o (.lst acc),x,y,a12] =
   .ok (.nx [a0,a1,.v (cellsD f),a3,a4,a5,a6,a7,a8,.o (.lst (acc++[lkD (likeT (f 6) p)])),.v (.int p.1),.v (.int p.2),a12]):=by
   simp[bodyF,b_drawn_5,cellsD,prD,e0,e1,e3,lkD,likeT,e4]
  obtain⟨x',y',e2⟩:=drawn_likes n f a0 a1 a3 a4 a5 a6 a7 a8 a12 r (acc++[lkD (likeT (f 6) p)]) (.v (.int p.1)) (.v (.int p.2)) (λq hq=>h1 q (List.mem_cons_of_mem _ hq)) (by simp;lia)
  refine⟨x',y',?_⟩
  rw[List.map_cons,forL_nx e,e2,List.map_cons,List.map_cons,List.append_assoc]
  rfl
noncomputable def manyV (c:Int):Nat:=(c % 7).toNat+(if c / 7 % 8=5∧c % 7=6 then 2 else 0)
theorem many_le (c:Int):manyV c≤8:=by unfold manyV;split<;>lia
noncomputable def fV (ns:List Int) (at_ j:Nat):Int:=cellV ns (at_+j)
noncomputable def partsB (f:Nat→Int):List (Str×List D):=(List.range (manyV (f 1))).map λk=>partP (f 2) (f 0) k
noncomputable def playersB (f:Nat→Int):List (Str×List D):=(List.range (f 1 / 56 % 7).toNat).map λk=>playerP (f 3) (f 4) k
noncomputable def likesB (f:Nat→Int):List (Nat×Nat×Nat):=(pairsV (f 6) 3 (f 1 / 56 % 7).toNat (manyV (f 1))).map (likeT (f 6))
noncomputable def coversB (f:Nat→Int):List (Nat×Nat):=pairsV (f 7) 2 (manyV (f 1)) (f 1 / 56 % 7).toNat
noncomputable def scenesB (f:Nat→Int) (cs:List Int):List (Str×List D):=scenesE (f 5) (manyV (f 1)) 0 cs
noncomputable def bookD (f:Nat→Int) (cs:List Int):D:=.tup [.tup ((partsB f).map ent),.tup ((playersB f).map ent),.tup ((scenesB f cs).map ent),.tup ((likesB f).map lkD),.tup ((coversB f).map prD)]
theorem pairs_mem {cell share:Int} {one other:Nat} {p:Nat×Nat} (h:p∈pairsV cell share one other):p.1 < one∧p.2 < other:=by
 unfold pairsV prs at h
 rw[rot_mem,List.mem_map] at h
 obtain⟨k,hk,rfl⟩:=h
 have hk:=(List.mem_filter.mp hk).1
 rw[List.mem_range] at hk
 have ho:0 < other:=by
  rcases Nat.eq_zero_or_pos other with z | z
  ·rw[z] at hk;simp at hk
  ·exact z
 exact⟨(Nat.div_lt_iff_lt_mul ho).mpr hk,Nat.mod_lt _ ho⟩
theorem pairs_len {cell share:Int} {one other:Nat}:(pairsV cell share one other).length≤one*other:=by
 unfold pairsV
 rw[(rot_perm _ _).length_eq]
 have:=prs_len cell share other (List.range (one*other))
 rwa [List.length_range] at this
theorem exS_step {T:Tab} {cf:Nat→List D→Res D} {a r:S} {e e1:Nv} (h:exS T cf a e=.ok (.nx e1)):exS T cf (.cons a r) e=exS T cf r e1:=by rw[exS_cons,h];rfl
theorem law_drawn (n:Nat) (ns:List Int) (at_:Nat) (hn:ns.length≤63) (ha:at_≤20):callF T dfs (n+3) 23 [.lst (ns.map D.int),.int at_]=.ok (bookD (fV ns at_) ((ns.drop (at_+8)).take 9)):=by
 refine callF_rt (k:=false) rfl rfl rfl ?_
 have hb:=ten_big
 have e1:=λenv=>drawn_cells (n+1) ns at_ env
 have e1':∀env,compL (compF T (callF T dfs (n+2)) 1 [0,1] (.one 0) e_drawn_1 (.con (.bl true)) (.v (.lst (ns.map D.int))::.v (.int at_)::env)) (rangeD 0 8)=.ok [.int (fV ns at_ 0),.int (fV ns at_ 1),.int (fV ns at_ 2),.int (fV ns at_ 3),.int (fV ns at_ 4),.int (fV ns at_ 5),.int (fV ns at_ 6),.int (fV ns at_ 7)]:=e1
 clear e1
 have e0:rngR (.int 8)=.ok (rangeD 0 8):=rng_ok (n:=8) (by lia)
 generalize hf:fV ns at_=f at *
 have hm:=many_le (f 1)
 have hp:(f 1 / 56 % 7).toNat≤6:=by lia
 have e2:rngR (.int (manyV (f 1):Int))=.ok ((List.range (manyV (f 1))).map λj:Nat=>D.int j):=by
  rw[rng_ok (by lia),rangeD_eq];simp
 have e3:rngR (.int (f 1 / 56 % 7))=.ok ((List.range (f 1 / 56 % 7).toNat).map λj:Nat=>D.int j):=by
  have h:=rng_ok (n:=(f 1 / 56 % 7).toNat) (by lia)
  rw[Int.toNat_of_nonneg (by lia)] at h
  rw[h,rangeD_eq];simp
 have e4:=λa b env=>drawn_parts n f a b env (List.range (manyV (f 1))) λk hk=>by rw[List.mem_range] at hk;lia
 have e5:=λa b env=>drawn_players n f a b env (List.range (f 1 / 56 % 7).toNat) λk hk=>by rw[List.mem_range] at hk;lia
 have e6:=law_pairs n (f 6) 3 (f 1 / 56 % 7).toNat (manyV (f 1)) (by lia) (by lia) (by lia)
 have e7:=law_pairs n (f 7) 2 (manyV (f 1)) (f 1 / 56 % 7).toNat (by lia) (by lia) (by lia)
 have hc:(ns.drop (at_+8)).take 9=(ns.drop (at_+8)).take 9:=rfl
 have e9:cut (ns.map D.int) (some ((at_:Int)+8)) (some ((at_:Int)+17))=((ns.drop (at_+8)).take 9).map D.int:=by
  unfold cut sIx
  simp only[]
  rw[if_neg (by lia),if_neg (by lia),List.map_take,List.map_drop,List.length_map]
  by_cases q:at_+8≤ns.length
  ·rw[show ((at_:Int)+8).toNat=at_+8 by lia,show ((at_:Int)+17).toNat=at_+17 by lia,Nat.min_eq_left q]
   by_cases q2:at_+17≤ns.length
   ·rw[Nat.min_eq_left q2,show at_+17 - (at_+8)=9 by lia]
   ·rw[Nat.min_eq_right (by lia),List.take_of_length_le (by simp),List.take_of_length_le (by simp;lia)]
  ·rw[show ((at_:Int)+8).toNat=at_+8 by lia,List.drop_of_length_le (i:=at_+8) (by simp;lia),List.drop_of_length_le (by rw[List.length_map];lia)]
   simp
 generalize hC:(ns.drop (at_+8)).take 9=C at *
 have hCl:C.length≤9:=by rw[←hC,List.length_take];lia
 have e10:=λa0 a1 a4 a5 a9 a10 a11 a12=>drawn_scenes n f (manyV (f 1)) hm a0 a1 a4 a5 a9 a10 a11 a12 C 0 [] .no .no (by lia) (by simp;lia)
 have e11:∀a0 a1 a3 a4 a5 a6 a7 a8 a12,_:=λa0 a1 a3 a4 a5 a6 a7 a8 a12=>drawn_likes n f a0 a1 a3 a4 a5 a6 a7 a8 a12 (pairsV (f 6) 3 (f 1 / 56 % 7).toNat (manyV (f 1))) [] .no .no (λp hp'=>by have:=pairs_mem hp';lia) (by
  have h1:=pairs_len (cell:=f 6) (share:=3) (one:=(f 1 / 56 % 7).toNat) (other:=manyV (f 1))
  have h2:(f 1 / 56 % 7).toNat*manyV (f 1)≤6*8:=Nat.mul_le_mul hp hm
  simp;lia)
 have z10:∀a0 a1 a4 a5 a9 a10 a11 a12,∃x' y',forL (bodyF T (callF T dfs (n+2)) (.many [7,8]) b_drawn_4) (enumD 0 (C.map D.int)) [a0,a1,.v (cellsD f),.v (.int (manyV (f 1))),a4,a5,.o (.lst []),.no,.no,a9,a10,a11,a12]=.ok (.nx [a0,a1,.v (cellsD f),.v (.int (manyV (f 1))),a4,a5,.o (.lst ((scenesB f C).map ent)),x',y',a9,a10,a11,a12]):=e10
 clear e10
 have e12:(if f 1 / 7 % 8=5∧f 1 % 7=6 then (2:Int) else 0)+f 1 % 7=(manyV (f 1):Int):=by
  unfold manyV;split<;>lia
 have e13:D.bin .Mult (.int 2) (.int 1)=.ok (.int 2):=rfl
 have e14:D.bin .Mult (.int 2) (.int 0)=.ok (.int 0):=rfl
 have hl1:manyV (f 1)≤big:=by lia
 have hl2:(f 1 / 56 % 7).toNat≤big:=by lia
 have m0:Nat→True:=λ_=>trivial
 obtain⟨x1,y1,z10⟩:=z10 (.v (.lst (ns.map D.int))) (.v (.int at_)) (.v (.tup ((partsB f).map ent))) (.v (.tup ((playersB f).map ent))) .no .no .no .no
 obtain⟨x2,y2,z11⟩:=e11 (.v (.lst (ns.map D.int))) (.v (.int at_)) (.v (.int (manyV (f 1)))) (.v (.tup ((partsB f).map ent))) (.v (.tup ((playersB f).map ent))) (.o (.lst ((scenesB f C).map ent))) x1 y1 .no
 have p1:(partsB f).map ent=(List.range (manyV (f 1))).map λk=>ent (partP (f 2) (f 0) k):=by unfold partsB;rw[List.map_map];rfl
 have p2:(playersB f).map ent=(List.range (f 1 / 56 % 7).toNat).map λk=>ent (playerP (f 3) (f 4) k):=by unfold playersB;rw[List.map_map];rfl
 have p3:((playersB f).map ent).length=(f 1 / 56 % 7).toNat:=by rw[p2];simp
 rw[←p1] at e4
 rw[←p2] at e5
 simp only[cellsD] at e4 e5 z10 z11
 have h8:8≤big:=by lia
 have e6':callF T dfs (n+2) 22 [.int (f 6),.int (((playersB f).map ent).length:Nat),.int (manyV (f 1)),.int 3]=.ok (.lst ((pairsV (f 6) 3 (f 1 / 56 % 7).toNat (manyV (f 1))).map prD)):=by rw[p3];exact e6
 have e7':callF T dfs (n+2) 22 [.int (f 7),.int (manyV (f 1)),.int (((playersB f).map ent).length:Nat),.int 2]=.ok (.lst ((coversB f).map prD)):=by rw[p3];exact e7
 rw[List.length_map] at e6' e7'
 have z11':forL (bodyF T (callF T dfs (n+2)) (.many [10,11]) b_drawn_5) ((pairsV (f 6) 3 (f 1 / 56 % 7).toNat (manyV (f 1))).map prD) _=.ok (.nx _):=z11
 rw[List.nil_append,show (pairsV (f 6) 3 (f 1 / 56 % 7).toNat (manyV (f 1))).map (likeT (f 6))=likesB f from rfl] at z11'
 unfold b_law_drawn
 have s1:exS T (callF T dfs (n+2)) (.asg (.one 2) (.comp 1 [0,1] (.one 0) e_drawn_1 (.rng (.con (.int 8))) (.con (.bl true)))) [.v (.lst (ns.map D.int)),.v (.int at_),.no,.no,.no,.no,.no,.no,.no,.no,.no,.no,.no]=.ok (.nx [.v (.lst (ns.map D.int)),.v (.int at_),.v (.lst [.int (f 0),.int (f 1),.int (f 2),.int (f 3),.int (f 4),.int (f 5),.int (f 6),.int (f 7)]),.no,.no,.no,.no,.no,.no,.no,.no,.no,.no]):=by
  simp[e0,e1',h8]
 rw[show [D.lst (ns.map D.int),D.int at_].map Sl.v++List.replicate (13 - 2) Sl.no=[.v (.lst (ns.map D.int)),.v (.int at_),.no,.no,.no,.no,.no,.no,.no,.no,.no,.no,.no] from rfl,exS_step s1]
 have v1:∀env:Nv,env.at 2=.v (.lst [.int (f 0),.int (f 1),.int (f 2),.int (f 3),.int (f 4),.int (f 5),.int (f 6),.int (f 7)])→evE T (callF T dfs (n+2)) (.bin .Add (.bin .Mod (.ix (.var 2) (.con (.int 1))) (.con (.int 7))) (.bin .Mult (.con (.int 2)) (.bt .int (.acons (.and (.cmp .Eq (.bin .Mod (.bin .FloorDiv (.ix (.var 2) (.con (.int 1))) (.con (.int 7))) (.con (.int 8))) (.con (.int 5))) (.cmp .Eq (.bin .Mod (.ix (.var 2) (.con (.int 1))) (.con (.int 7))) (.con (.int 6)))) .anil)))) env=.ok (.int (manyV (f 1))):=by
  intro env h
  have w:f 1 % 7+(if f 1 / 7 % 8=5∧f 1 % 7=6 then (2:Int) else 0)=(manyV (f 1):Int):=by unfold manyV;split<;>lia
  rw[←w]
  by_cases q1:f 1 / 7 % 8=5
  ·by_cases q2:f 1 % 7=6
   ·simp[h,q1,q2,e13]
    rfl
   ·have q3:(f 1 % 7==6)=false:=by simpa using q2
    simp[h,q1,q2,q3,b2z]
  ·simp[h,q1,b2z]
 have s2:exS T (callF T dfs (n+2)) (.asg (.one 3) (.bin .Add (.bin .Mod (.ix (.var 2) (.con (.int 1))) (.con (.int 7))) (.bin .Mult (.con (.int 2)) (.bt .int (.acons (.and (.cmp .Eq (.bin .Mod (.bin .FloorDiv (.ix (.var 2) (.con (.int 1))) (.con (.int 7))) (.con (.int 8))) (.con (.int 5))) (.cmp .Eq (.bin .Mod (.ix (.var 2) (.con (.int 1))) (.con (.int 7))) (.con (.int 6)))) .anil))))) [.v (.lst (ns.map D.int)),.v (.int at_),.v (.lst [.int (f 0),.int (f 1),.int (f 2),.int (f 3),.int (f 4),.int (f 5),.int (f 6),.int (f 7)]),.no,.no,.no,.no,.no,.no,.no,.no,.no,.no]=.ok (.nx [.v (.lst (ns.map D.int)),.v (.int at_),.v (.lst [.int (f 0),.int (f 1),.int (f 2),.int (f 3),.int (f 4),.int (f 5),.int (f 6),.int (f 7)]),.v (.int (manyV (f 1))),.no,.no,.no,.no,.no,.no,.no,.no,.no]):=by
  rw[exS_asg,v1 _ rfl];rfl
 rw[exS_step s2]
 clear s1 s2 v1
 simp[e2,e3,e4,e5,hl1,hl2,e9,enumR,z10,e6',e7',z11',bookD]
noncomputable def partBk (f:Nat→Int) (k:Nat):PtB:=⟨nameV (f 0) k,voiceV (mixN (f 2) k) (f 0),(minV (mixN (f 2) k / 4)).toNat,(minV (mixN (f 2) (k+20))).toNat⟩
noncomputable def playerBk (f:Nat→Int) (k:Nat):PlB:=⟨nameV (f 4) k,voicesV (mixN (f 3) k),(minV (mixN (f 3) k / 6)).toNat⟩
noncomputable def sceneBk (base:Int) (many:Nat) (cell:Int) (k:Nat):ScB:=⟨nameV base k,(minV (mixN cell k)).toNat,(minV (mixN cell (k+20))).toNat,whoV cell k many⟩
theorem min_nat (x:Int):(((minV x).toNat:Nat):Int)=minV x:=Int.toNat_of_nonneg (minV_range x).1
theorem partBk_p (f:Nat→Int) (k:Nat):(partBk f k).p=partP (f 2) (f 0) k:=by
 unfold PtB.p partBk partP
 dsimp only
 rw[min_nat,min_nat]
theorem playerBk_p (f:Nat→Int) (k:Nat):(playerBk f k).p=playerP (f 3) (f 4) k:=by
 unfold PlB.p playerBk playerP
 dsimp only
 rw[min_nat]
theorem sceneBk_p (base:Int) (many:Nat) (cell:Int) (k:Nat):(sceneBk base many cell k).p=sceneP cell base k many:=by
 unfold ScB.p sceneBk sceneP
 dsimp only
 rw[min_nat,min_nat]
noncomputable def scenesBk (base:Int) (many:Nat):Nat→List Int→List ScB
 | _,[]=>[]
 | j,c::r=>sceneBk base many c j::scenesBk base many (j+1) r
theorem scenesBk_p (base:Int) (many:Nat):∀(cs:List Int) (j:Nat),(scenesBk base many j cs).map ScB.p=scenesE base many j cs
 | [],_=>rfl
 | c::r,j=>by rw[scenesBk,scenesE,List.map_cons,scenesBk_p base many r (j+1),sceneBk_p]
theorem scenesBk_len (base:Int) (many:Nat):∀(cs:List Int) (j:Nat),(scenesBk base many j cs).length=cs.length
 | [],_=>rfl
 | c::r,j=>by rw[scenesBk,List.length_cons,List.length_cons,scenesBk_len base many r (j+1)]
theorem min_lt (x:Int):(minV x).toNat < 10^9:=by have:=minV_range x;lia
theorem who_nodup' (cell:Int) (k many:Nat):(whoV cell k many).Nodup:=by
 unfold whoV
 refine (rot_perm _ _).nodup_iff.mpr ?_
 unfold someV
 exact List.Pairwise.filter _ List.nodup_range
theorem who_lt' {cell:Int} {k many i:Nat} (h:i∈whoV cell k many):i < many:=by
 unfold whoV at h
 rw[rot_mem] at h
 unfold someV at h
 simpa using (List.mem_filter.mp h).1
theorem who_len' (cell:Int) (k many:Nat):(whoV cell k many).length≤many:=by
 unfold whoV
 rw[(rot_perm _ _).length_eq]
 exact some_len _ _
theorem scenesBk_good (base:Int) (many:Nat) (hm:many≤8):∀(cs:List Int) (j:Nat) (x:ScB),x∈scenesBk base many j cs→GS many x
 | [],_,x,h=>by cases h
 | c::r,j,x,h=>by
  rw[scenesBk] at h
  rcases List.mem_cons.mp h with rfl | h
  ·exact⟨name_nm _ _,min_lt _,min_lt _,who_nodup' _ _ _,λi hi=>who_lt' hi,Nat.le_trans (who_len' _ _ _) (by lia)⟩
  ·exact scenesBk_good base many hm r (j+1) x h
theorem scenesBk_mem (base:Int) (many:Nat):∀(cs:List Int) (j:Nat) (x:ScB),x∈scenesBk base many j cs→∃k,j≤k∧k < j+cs.length∧x.name=nameV base k
 | [],_,x,h=>by cases h
 | c::r,j,x,h=>by
  rw[scenesBk] at h
  rcases List.mem_cons.mp h with rfl | h
  ·exact⟨j,Nat.le_refl _,by simp,rfl⟩
  ·obtain⟨k,h1,h2,h3⟩:=scenesBk_mem base many r (j+1) x h
   exact⟨k,by lia,by simp;lia,h3⟩
theorem scenesBk_nd (base:Int) (many:Nat):∀(cs:List Int) (j:Nat),j+cs.length≤20→((scenesBk base many j cs).map (·.name)).Nodup
 | [],_,_=>.nil
 | c::r,j,h=>by
  rw[List.length_cons] at h
  rw[scenesBk,List.map_cons,List.nodup_cons]
  refine⟨λhm=>?_,scenesBk_nd base many r (j+1) (by lia)⟩
  obtain⟨x,hx,e⟩:=List.mem_map.mp hm
  obtain⟨k,h1,h2,h3⟩:=scenesBk_mem base many r (j+1) x hx
  have e':nameV base k=nameV base j:=by rw[←h3,e];rfl
  have:=name_inj (c:=base) (k:=k) (k':=j) (by lia) (by lia) e'
  lia
theorem names_nd (base:Int) (n:Nat) (h:n≤20):((List.range n).map λk:Nat=>nameV base k).Nodup:=by
 refine nodup_by_inj (λa ha b hb e=>?_) List.nodup_range
 have ha:a < n:=by simpa using ha
 have hb:b < n:=by simpa using hb
 have:=name_inj (c:=base) (k:=a) (k':=b) (by lia) (by lia) e
 lia
theorem voices_good (x:Int):(signs (voicesV x)).Nodup∧(signs (voicesV x)).all (hasC "abcdefghijklmnopqrstuvwxyz")=true∧(signs (voicesV x)).length≤100:=by
 have one:∀s∈(["ab", "a", "bca", "", "abcdefghijklmnopqrstuvwxyz", "zb"]:List Str),(signs s).Nodup∧(signs s).all (hasC "abcdefghijklmnopqrstuvwxyz")=true∧(signs s).length≤100:=by decide +kernel
 apply one
 unfold voicesV
 repeat' split
 all_goals simp
theorem pairsV_nd (cell share:Int) (one other:Nat):(pairsV cell share one other).Nodup:=by
 unfold pairsV
 refine (rot_perm _ _).nodup_iff.mpr ?_
 unfold prs
 refine nodup_by_inj (λa _ b _ e=>?_) (List.Pairwise.filter _ List.nodup_range)
 have e1:a / other=b / other:=congrArg Prod.fst e
 have e2:a % other=b % other:=congrArg Prod.snd e
 rw[←Nat.div_add_mod a other,←Nat.div_add_mod b other,e1,e2]
theorem drawn_good (n:Nat) (ns:List Int) (at_:Nat) (hn:ns.length≤63) (ha:at_≤20):∃Ps Qs Ss Ls Cs,GB Ps Qs Ss Ls Cs∧(∀x∈Ps,∃c k,x.name=nameV c k)∧(∀x∈Qs,∃c k,x.name=nameV c k) ∧
 callF T dfs (n+3) 23 [.lst (ns.map D.int),.int at_]=.ok (.tup (bkT (Ps.map PtB.p) (Qs.map PlB.p) (Ss.map ScB.p) Ls Cs)):=by
 have e:=law_drawn n ns at_ hn ha
 generalize hf:fV ns at_=f at e
 generalize hC:(ns.drop (at_+8)).take 9=cs at e
 have hcl:cs.length≤9:=by rw[←hC,List.length_take];lia
 have hm:=many_le (f 1)
 have hq:(f 1 / 56 % 7).toNat≤6:=by lia
 have l1:=pairs_len (cell:=f 6) (share:=3) (one:=(f 1 / 56 % 7).toNat) (other:=manyV (f 1))
 have l2:(f 1 / 56 % 7).toNat*manyV (f 1)≤6*8:=Nat.mul_le_mul hq hm
 have l3:=pairs_len (cell:=f 7) (share:=2) (one:=manyV (f 1)) (other:=(f 1 / 56 % 7).toNat)
 have l4:manyV (f 1)*(f 1 / 56 % 7).toNat≤8*6:=Nat.mul_le_mul hm hq
 refine⟨(List.range (manyV (f 1))).map (partBk f),(List.range (f 1 / 56 % 7).toNat).map (playerBk f),scenesBk (f 5) (manyV (f 1)) 0 cs,likesB f,coversB f,?_,λx hx=>?_,λx hx=>?_,?_⟩
 ·constructor
  ·intro x hx
   obtain⟨k,_,rfl⟩:=List.mem_map.mp hx
   exact⟨name_nm _ _,has_letter (voice_range _ _),min_lt _,min_lt _⟩
  ·intro x hx
   obtain⟨k,_,rfl⟩:=List.mem_map.mp hx
   have v:=voices_good (mixN (f 3) k)
   exact⟨name_nm _ _,v.1,v.2.1,v.2.2,min_lt _⟩
  ·intro x hx
   rw[List.length_map,List.length_range]
   exact scenesBk_good _ _ hm _ _ x hx
  ·intro l hl
   rw[List.length_map,List.length_map,List.length_range,List.length_range]
   unfold likesB at hl
   obtain⟨p,hp,rfl⟩:=List.mem_map.mp hl
   have:=pairs_mem hp
   refine⟨this.1,this.2,?_⟩
   show (mixN (f 6) ((p.2:Int)+9*(p.1:Int)) % 1000000000).toNat < 10^9
   lia
  ·intro c hc
   rw[List.length_map,List.length_map,List.length_range,List.length_range]
   exact pairs_mem hc
  ·rw[List.map_map]
   exact names_nd (f 0) _ (by lia)
  ·rw[List.map_map]
   exact names_nd (f 4) _ (by lia)
  ·exact scenesBk_nd _ _ _ _ (by lia)
  ·unfold likesB
   rw[List.map_map]
   have:((λl:Nat×Nat×Nat=>(l.1,l.2.1))∘likeT (f 6))=id:=by funext p;rfl
   rw[this,List.map_id]
   exact pairsV_nd _ _ _ _
  ·exact pairsV_nd _ _ _ _
  ·simp;lia
  ·simp;lia
  ·rw[scenesBk_len];lia
  ·unfold likesB
   rw[List.length_map];lia
  ·unfold coversB
   lia
 ·obtain⟨k,_,rfl⟩:=List.mem_map.mp hx
  exact⟨_,_,rfl⟩
 ·obtain⟨k,_,rfl⟩:=List.mem_map.mp hx
  exact⟨_,_,rfl⟩
 ·rw[e]
  unfold bookD bkT partsB playersB scenesB
  rw[scenesBk_p,List.map_map (g:=PtB.p),List.map_map (g:=PlB.p)]
  have a1:(PtB.p∘partBk f)=λk=>partP (f 2) (f 0) k:=by funext k;exact partBk_p f k
  have a2:(PlB.p∘playerBk f)=λk=>playerP (f 3) (f 4) k:=by funext k;exact playerBk_p f k
  rw[a1,a2]
  rfl
theorem name_no (c k:Int):nameV c k ≠ "nobodyat" ∧ nameV c k ≠ "nobodyas" := by
 have key:∀w:Str,(signs w).length=8→122∉signs w→nameV c k≠w:=by
  intro w h1 h2 e
  have e1:nameL c k=signs w:=by rw[←signs_name,e]
  have l:=name_len c k
  rw[e1,h1] at l
  have t:122∈tailL c:=by
   unfold tailL at l ⊢
   repeat' split
   all_goals simp_all
  refine h2 ?_
  rw[←e1]
  unfold nameL
  rw[←List.take_append_drop (atV c) (tailL c)] at t
  rcases List.mem_append.mp t with t | t
  ·exact List.mem_append_left _ t
  ·exact List.mem_append_right _ (List.mem_cons_of_mem _ t)
 exact⟨key _ (by decide +kernel) (by decide +kernel),key _ (by decide +kernel) (by decide +kernel)⟩
theorem nob_nm:isNm "nobodyat" ∧ isNm "nobodyas" ∧ isNm "q" := by
 have h:∀s∈(["nobodyat", "nobodyas", "q"]:List Str),(1≤(signs s).length∧(signs s).length≤8∧(signs s).all (hasC "abcdefghijklmnopqrstuvwxyz")=true):=by decide +kernel
 exact⟨h _ (by simp),h _ (by simp),h _ (by simp)⟩
noncomputable def nthS:Nat→S→S
 | 0,.cons a _=>a
 | n+1,.cons _ r=>nthS n r
 | _,x=>x
noncomputable def Wr (bk:List D) (r:Str):Prop:=∀n,callF T dfs (n+5) 13 [.tup bk,.str r]=.ok .non
theorem ne_nil_tup (l:List D) (h:D.pl 30 (.tup l)=true):D.cmp .NotEq (.tup l) (.tup [])=.ok (.bl (!l.isEmpty)):=by
 show when (D.eqOk _ _) (Res.ok (D.bl (!D.eqb _ _)))=_
 have e:D.eqb (.tup l) (.tup [])=l.isEmpty:=by cases l<;>rfl
 unfold D.eqOk
 rw[e,h];rfl
theorem num7:numS 7 = "7" := by decide +kernel
theorem num1:numS 1 = "1" := by decide +kernel
theorem mod_lt' {m:Nat} (c:Int) (h:0 < m):∃i:Nat,c % (m:Int)=(i:Int)∧i < m:=by
 have m1:=Int.emod_nonneg c (by lia:(m:Int)≠0)
 have m2:=Int.emod_lt_of_pos c (by lia:0 < (m:Int))
 exact⟨(c % (m:Int)).toNat,by lia,by lia⟩
section
variable {Ps:List PtB} {Qs:List PlB} {Ss:List ScB} {Ls:List (Nat×Nat×Nat)} {Cs:List (Nat×Nat)} (g:GB Ps Qs Ss Ls Cs) (hP:∀x∈Ps,∃c k,x.name=nameV c k) (hQ:∀x∈Qs,∃c k,x.name=nameV c k)
include g hP hQ
theorem bad_names (n:Nat) (cell:Int):∃L:List Str,1≤L.length∧L.length≤100∧(∀r∈L,Wr (bkT (Ps.map PtB.p) (Qs.map PlB.p) (Ss.map ScB.p) Ls Cs) r) ∧
 callF T dfs (n+1) 26 [.tup (bkT (Ps.map PtB.p) (Qs.map PlB.p) (Ss.map ScB.p) Ls Cs),.int cell]=.ok (.lst (L.map D.str)):=by
 have hb:=ten_big
 have hb2:20000 < big:=by decide
 obtain⟨w0,w1,w2,w3,w4,w5,w6⟩:=wd_lit
 obtain⟨o1,o2,o3⟩:=nob_nm
 have dp:((Ps.map PtB.p).map (·.1)).Nodup:=by rw[List.map_map];exact g.np
 have dq:((Qs.map PlB.p).map (·.1)).Nodup:=by rw[List.map_map];exact g.nq
 have ds:((Ss.map ScB.p).map (·.1)).Nodup:=by rw[List.map_map];exact g.ns
 have noP:∀w:Str,(w = "nobodyat" ∨ w = "nobodyas")→w∉(Ps.map PtB.p).map (·.1):=by
  intro w hw hm
  rw[List.map_map] at hm
  obtain⟨x,hx,e⟩:=List.mem_map.mp hm
  obtain⟨c,k,e2⟩:=hP x hx
  have e:x.name=w:=e
  rw[e2] at e
  rcases hw with rfl | rfl
  ·exact (name_no c k).1 e
  ·exact (name_no c k).2 e
 have noQ:∀w:Str,(w = "nobodyat" ∨ w = "nobodyas")→w∉(Qs.map PlB.p).map (·.1):=by
  intro w hw hm
  rw[List.map_map] at hm
  obtain⟨x,hx,e⟩:=List.mem_map.mp hm
  obtain⟨c,k,e2⟩:=hQ x hx
  have e:x.name=w:=e
  rw[e2] at e
  rcases hw with rfl | rfl
  ·exact (name_no c k).1 e
  ·exact (name_no c k).2 e
 have lit:∀(ws:List Str) (r:Str),signs r=joinC [32] (ws.map signs)→r=rowT ws:=λws r e=>str_eq_signs (e.trans (sg_row ws).symm)
 have sh:∀ws:List Str,(∀w∈ws,wd w)→ws.length≤100→(rowT ws).length < big:=λws h h2=>by have:=row_len h h2;lia
 have kL:∀a b:Str,∀m:Nat,isNm a→isNm b→m < 10^9→(b∉(Ps.map PtB.p).map (·.1)∨a∉(Qs.map PlB.p).map (·.1))→Wr (bkT (Ps.map PtB.p) (Qs.map PlB.p) (Ss.map ScB.p) Ls Cs) (rowT ["like", a,b,numS m]):=λa b m ha hb' hm h n=>by
  have wd:∀w∈(["like", a,b,numS m]:List Str),wd w:=NI.wd (x:=.l a b m) ⟨ha,hb',hm⟩
  exact with_late3 (n+4) _ _ _ (sh _ wd (by simp)) (row_split (by simp) wd) (like_late (n+1) (Ps.map PtB.p) (Qs.map PlB.p) _ _ _ a b m dp dq hm h)
 have kC:∀a b:Str,isNm a→isNm b→(a∉(Ps.map PtB.p).map (·.1)∨b∉(Qs.map PlB.p).map (·.1))→Wr (bkT (Ps.map PtB.p) (Qs.map PlB.p) (Ss.map ScB.p) Ls Cs) (rowT ["cover", a,b]):=λa b ha hb' h n=>by
  have wd:∀w∈(["cover", a,b]:List Str),wd w:=NI.wd (x:=.c a b) ⟨ha,hb'⟩
  exact with_late4 (n+4) _ _ _ (sh _ wd (by simp)) (row_split (by simp) wd) (cover_late (n+2) (Ps.map PtB.p) (Qs.map PlB.p) _ _ _ a b dp dq h)
 have r1:Wr (bkT (Ps.map PtB.p) (Qs.map PlB.p) (Ss.map ScB.p) Ls Cs) "like nobodyat nobodyas 1" := by
  rw[lit ["like", "nobodyat", "nobodyas", numS 1] "like nobodyat nobodyas 1" (by rw[num1];decide +kernel)]
  exact kL _ _ 1 o1 o2 (by decide) (.inl (noP _ (.inr rfl)))
 have r2:Wr (bkT (Ps.map PtB.p) (Qs.map PlB.p) (Ss.map ScB.p) Ls Cs) "cover nobodyat nobodyas" := by
  rw[lit ["cover", "nobodyat", "nobodyas"] "cover nobodyat nobodyas" (by decide +kernel)]
  exact kC _ _ o1 o2 (.inl (noP _ (.inl rfl)))
 have r3:Wr (bkT (Ps.map PtB.p) (Qs.map PlB.p) (Ss.map ScB.p) Ls Cs) "scene q 1 1 nobodyat" := by
  rw[lit ["scene", "q", numS 1,numS 1, "nobodyat"] "scene q 1 1 nobodyat" (by rw[num1];decide +kernel)]
  intro n
  have ok:NI.ok (.s "q" 1 1 ["nobodyat"]):=⟨o3,by decide,by decide,by simp,λx hx=>by rw[List.mem_singleton.mp hx];exact o1,by simp⟩
  have wd:∀w∈(["scene", "q", numS 1,numS 1, "nobodyat"]:List Str),wd w:=NI.wd ok
  refine with_late2 (n+4) _ _ _ (sh _ wd (by simp)) (row_split (by simp) wd) ?_
  by_cases old:("q" : Str)∈(Ss.map ScB.p).map (·.1)
  ·exact scene_old n (Ss.map ScB.p) _ _ _ _ _ "q" o3 ds old (by simp)
  ·exact scene_late n (Ps.map PtB.p) (Ss.map ScB.p) _ _ _ "q" 1 1 ["nobodyat"] o3 (λp hp e=>old (List.mem_map.mpr ⟨p,hp,e⟩)) dp (by decide) (by decide) (by simp) ⟨"nobodyat", by simp,noP _ (.inl rfl)⟩
 have pl1:D.pl 30 (.tup ((Ps.map PtB.p).map ent))=true:=by rw[ents_map,pl_tup];exact pls_map (λx:PtB=>ent x.p) 29 (λx=>by simp[ent,PtB.p,D.pl,D.pls]) Ps
 have pl2:D.pl 30 (.tup ((Qs.map PlB.p).map ent))=true:=by rw[ents_map,pl_tup];exact pls_map (λx:PlB=>ent x.p) 29 (λx=>by simp[ent,PlB.p,D.pl,D.pls]) Qs
 have pl3:D.pl 30 (.tup ((Ss.map ScB.p).map ent))=true:=by
  rw[ents_map,pl_tup]
  exact pls_map (λx:ScB=>ent x.p) 29 (λx=>by
   simp only[ent,ScB.p,D.pl,D.pls,Bool.and_true,Bool.true_and]
   exact pls_map (λi:Nat=>D.int i) 27 (λi=>rfl) x.who) Ss
 have pl4:D.pl 30 (.tup (Ls.map lkT))=true:=by rw[pl_tup];exact pls_map lkT 29 (λx=>by simp[lkT,D.pl,D.pls]) Ls
 have pl5:D.pl 30 (.tup (Cs.map cvT))=true:=by rw[pl_tup];exact pls_map cvT 29 (λx=>by simp[cvT,D.pl,D.pls]) Cs
 have q1:=ne_nil_tup _ pl1
 have q2:=ne_nil_tup _ pl2
 have q3:=ne_nil_tup _ pl3
 have q4:=ne_nil_tup _ pl4
 have q5:=ne_nil_tup _ pl5
 let BK:=bkT (Ps.map PtB.p) (Qs.map PlB.p) (Ss.map ScB.p) Ls Cs
 have s1:∃M:List Str,M.length≤2∧(∀r∈M,Wr BK r)∧∀(L:List Str) (x3 x4 x5:Sl),L.length≤90→∃y3 y4 y5,
  exS T (callF T dfs n) (nthS 1 b_law_bad_names) [.v (.tup BK),.v (.int cell),.o (.lst (L.map D.str)),x3,x4,x5]=.ok (.nx [.v (.tup BK),.v (.int cell),.o (.lst ((L++M).map D.str)),y3,y4,y5]):=by
  cases hPs:Ps with
  | nil =>
   rw[hPs] at q1
   refine⟨[],by simp,λr hr=>(by cases hr),λL x3 x4 x5 hl=>⟨x3,x4,x5,?_⟩⟩
   simp only[BK,bkT,hPs,List.append_nil]
   have q1:D.cmp .NotEq (.tup []) (.tup [])=.ok (.bl false):=rfl
   simp[nthS,b_law_bad_names,q1]
  | cons x0 r0 =>
   have pos:0 < (Ps.map PtB.p).length:=by rw[hPs];simp
   obtain⟨i,hi,hi'⟩:=mod_lt' cell pos
   have e1:=ents_at hi'
   have e0:=ents_at pos
   have m1:nmAt (Ps.map PtB.p) i∈(Ps.map PtB.p).map (·.1):=mem_nmAt hi'
   have g1:=nmAt_nm g.nmP hi'
   have g0:=nmAt_nm g.nmP pos
   rw[nmAt_ge hi'] at m1 g1
   rw[nmAt_ge pos] at g0
   have b1:D.bin .Mod (.int cell) (.int (((Ps.map PtB.p).map ent).length:Nat))=.ok (.int i):=by rw[List.length_map,bin_mod (by lia),hi]
   have q1':D.cmp .NotEq (.tup ((Ps.map PtB.p).map ent)) (.tup [])=.ok (.bl true):=by rw[q1];rw[hPs];rfl
   generalize ((Ps.map PtB.p)[i])=p1 at *
   generalize ((Ps.map PtB.p)[0])=p0 at *
   have l1:=g1.2.1
   have l0:=g0.2.1
   have z1:(signs "part ").length=5:=by decide +kernel
   have z2:(signs " a 1 1").length=6:=by decide +kernel
   have z3:(signs "cover ").length=6:=by decide +kernel
   have z4:(signs " nobodyat").length=9:=by decide +kernel
   have t1:=add_str (x := "part ") (y:=p1.1) (by lia)
   have t2:=add_str (x := "part " ++ p1.1) (y := " a 1 1") (by rw[sg_cat,List.length_append];lia)
   have t3:=add_str (x := "cover ") (y:=p0.1) (by lia)
   have t4:=add_str (x := "cover " ++ p0.1) (y := " nobodyat") (by rw[sg_cat,List.length_append];lia)
   have n1 : "part " ++ p1.1 ++ " a 1 1" = rowT ["part", p1.1, "a", "1", "1"]:=lit _ _ (by
    simp only[sg_cat]
    rw[show signs "part " = signs "part" ++ [32] by decide +kernel,show signs " a 1 1" = 32::signs "a" ++ [32]++signs "1" ++ [32]++signs "1" by decide +kernel]
    simp[joinC])
   have n2 : "cover " ++ p0.1 ++ " nobodyat" = rowT ["cover", p0.1, "nobodyat"]:=lit _ _ (by
    simp only[sg_cat]
    rw[show signs "cover " = signs "cover" ++ [32] by decide +kernel,show signs " nobodyat" = 32::signs "nobodyat" by decide +kernel]
    simp[joinC])
   refine⟨["part " ++ p1.1 ++ " a 1 1", "cover " ++ p0.1 ++ " nobodyat"],by simp,λr hr=>?_,λL x3 x4 x5 hl=>⟨x3,x4,x5,?_⟩⟩
   ·simp only[List.mem_cons,List.not_mem_nil,or_false] at hr
    rcases hr with rfl | rfl
    ·rw[n1]
     intro n
     have wd:∀w∈(["part", p1.1, "a", "1", "1"]:List Str),wd w:=by simp[wd_part,wd_nm g1,w5,w2]
     exact with_late0 (n+4) _ _ _ (sh _ wd (by simp)) (row_split (by simp) wd) (part_old n (Ps.map PtB.p) _ _ _ _ _ _ _ p1.1 g1 dp m1)
    ·rw[n2]
     exact kC _ _ g0 o1 (.inr (noQ _ (.inl rfl)))
   ·have ad:=add_lsts (a:=L.map D.str) (b:=[.str ("part " ++ p1.1 ++ " a 1 1"),.str ("cover " ++ p0.1 ++ " nobodyat")]) (by simp;lia)
    have e0:D.ix (.tup ((Ps.map PtB.p).map ent)) (.int 0)=.ok (ent p0):=e0
    simp only[BK,bkT]
    generalize (Ps.map PtB.p).map ent=PP at *
    generalize "part " ++ p1.1 ++ " a 1 1" = R1 at *
    generalize "cover " ++ p0.1 ++ " nobodyat" = R2 at *
    simp[nthS,b_law_bad_names,q1',b1,e1,e0,ent,t1,t2,t3,t4,ad]
 have s2:∃M:List Str,M.length≤2∧(∀r∈M,Wr BK r)∧∀(L:List Str) (x3 x4 x5:Sl),L.length≤90→∃y3 y4 y5,
  exS T (callF T dfs n) (nthS 2 b_law_bad_names) [.v (.tup BK),.v (.int cell),.o (.lst (L.map D.str)),x3,x4,x5]=.ok (.nx [.v (.tup BK),.v (.int cell),.o (.lst ((L++M).map D.str)),y3,y4,y5]):=by
  cases hQs:Qs with
  | nil =>
   refine⟨[],by simp,λr hr=>(by cases hr),λL x3 x4 x5 hl=>⟨x3,x4,x5,?_⟩⟩
   simp only[BK,bkT,hQs,List.append_nil]
   have q1:D.cmp .NotEq (.tup []) (.tup [])=.ok (.bl false):=rfl
   simp[nthS,b_law_bad_names,q1]
  | cons x0 r0 =>
   have pos:0 < (Qs.map PlB.p).length:=by rw[hQs];simp
   obtain⟨i,hi,hi'⟩:=mod_lt' cell pos
   have e1:=ents_at hi'
   have e0:=ents_at pos
   have m1:nmAt (Qs.map PlB.p) i∈(Qs.map PlB.p).map (·.1):=mem_nmAt hi'
   have g1:=nmAt_nm g.nmQ hi'
   have g0:=nmAt_nm g.nmQ pos
   rw[nmAt_ge hi'] at m1 g1
   rw[nmAt_ge pos] at g0
   have b1:D.bin .Mod (.int cell) (.int (((Qs.map PlB.p).map ent).length:Nat))=.ok (.int i):=by rw[List.length_map,bin_mod (by lia),hi]
   have q1':D.cmp .NotEq (.tup ((Qs.map PlB.p).map ent)) (.tup [])=.ok (.bl true):=by rw[q2];rw[hQs];rfl
   generalize ((Qs.map PlB.p)[i])=p1 at *
   generalize ((Qs.map PlB.p)[0])=p0 at *
   have l1:=g1.2.1
   have l0:=g0.2.1
   have z1:(signs "player ").length=7:=by decide +kernel
   have z2:(signs " a 1").length=4:=by decide +kernel
   have z3:(signs "like ").length=5:=by decide +kernel
   have z4:(signs " nobodyat 1").length=11:=by decide +kernel
   have t1:=add_str (x := "player ") (y:=p1.1) (by lia)
   have t2:=add_str (x := "player " ++ p1.1) (y := " a 1") (by rw[sg_cat,List.length_append];lia)
   have t3:=add_str (x := "like ") (y:=p0.1) (by lia)
   have t4:=add_str (x := "like " ++ p0.1) (y := " nobodyat 1") (by rw[sg_cat,List.length_append];lia)
   have n1 : "player " ++ p1.1 ++ " a 1" = rowT ["player", p1.1, "a", "1"]:=lit _ _ (by
    simp only[sg_cat]
    rw[show signs "player " = signs "player" ++ [32] by decide +kernel,show signs " a 1" = 32::signs "a" ++ [32]++signs "1" by decide +kernel]
    simp[joinC])
   have n2 : "like " ++ p0.1 ++ " nobodyat 1" = rowT ["like", p0.1, "nobodyat", numS 1]:=lit _ _ (by
    simp only[sg_cat]
    rw[num1,show signs "like " = signs "like" ++ [32] by decide +kernel,show signs " nobodyat 1" = 32::signs "nobodyat" ++ [32]++signs "1" by decide +kernel]
    simp[joinC])
   refine⟨["player " ++ p1.1 ++ " a 1", "like " ++ p0.1 ++ " nobodyat 1"],by simp,λr hr=>?_,λL x3 x4 x5 hl=>⟨x3,x4,x5,?_⟩⟩
   ·simp only[List.mem_cons,List.not_mem_nil,or_false] at hr
    rcases hr with rfl | rfl
    ·rw[n1]
     intro n
     have wd:∀w∈(["player", p1.1, "a", "1"]:List Str),wd w:=by simp[wd_player,wd_nm g1,w5,w2]
     exact with_late1 (n+4) _ _ _ (sh _ wd (by simp)) (row_split (by simp) wd) (player_old n (Qs.map PlB.p) _ _ _ _ _ _ p1.1 g1 dq m1)
    ·rw[n2]
     exact kL _ _ 1 g0 o1 (by decide) (.inl (noP _ (.inl rfl)))
   ·have ad:=add_lsts (a:=L.map D.str) (b:=[.str ("player " ++ p1.1 ++ " a 1"),.str ("like " ++ p0.1 ++ " nobodyat 1")]) (by simp;lia)
    have e0:D.ix (.tup ((Qs.map PlB.p).map ent)) (.int 0)=.ok (ent p0):=e0
    simp only[BK,bkT]
    generalize (Qs.map PlB.p).map ent=PP at *
    generalize "player " ++ p1.1 ++ " a 1" = R1 at *
    generalize "like " ++ p0.1 ++ " nobodyat 1" = R2 at *
    simp[nthS,b_law_bad_names,q1',b1,e1,e0,ent,t1,t2,t3,t4,ad]
 have s3:∃M:List Str,M.length≤2∧(∀r∈M,Wr BK r)∧∀(L:List Str) (x3 x4 x5:Sl),L.length≤90→∃y3 y4 y5,
  exS T (callF T dfs n) (nthS 3 b_law_bad_names) [.v (.tup BK),.v (.int cell),.o (.lst (L.map D.str)),x3,x4,x5]=.ok (.nx [.v (.tup BK),.v (.int cell),.o (.lst ((L++M).map D.str)),y3,y4,y5]):=by
  cases hSs:Ss with
  | nil =>
   refine⟨[],by simp,λr hr=>(by cases hr),λL x3 x4 x5 hl=>⟨x3,x4,x5,?_⟩⟩
   simp only[BK,bkT,hSs,List.append_nil]
   have q1:D.cmp .NotEq (.tup []) (.tup [])=.ok (.bl false):=rfl
   simp[nthS,b_law_bad_names,q1]
  | cons x0 r0 =>
   have pos:0 < (Ss.map ScB.p).length:=by rw[hSs];simp
   obtain⟨i,hi,hi'⟩:=mod_lt' cell pos
   have e1:=ents_at hi'
   have m1:nmAt (Ss.map ScB.p) i∈(Ss.map ScB.p).map (·.1):=mem_nmAt hi'
   have g1:=nmAt_nm (ps:=Ss.map ScB.p) (λp hp=>by obtain⟨x,hx,rfl⟩:=List.mem_map.mp hp;exact (g.gs x hx).nm) hi'
   rw[nmAt_ge hi'] at m1 g1
   have b1:D.bin .Mod (.int cell) (.int (((Ss.map ScB.p).map ent).length:Nat))=.ok (.int i):=by rw[List.length_map,bin_mod (by lia),hi]
   have q1':D.cmp .NotEq (.tup ((Ss.map ScB.p).map ent)) (.tup [])=.ok (.bl true):=by rw[q3];rw[hSs];rfl
   generalize ((Ss.map ScB.p)[i])=p1 at *
   have l1:=g1.2.1
   have z1:(signs "scene ").length=6:=by decide +kernel
   have z2:(signs " 1 1").length=4:=by decide +kernel
   have t1:=add_str (x := "scene ") (y:=p1.1) (by lia)
   have t2:=add_str (x := "scene " ++ p1.1) (y := " 1 1") (by rw[sg_cat,List.length_append];lia)
   have n1 : "scene " ++ p1.1 ++ " 1 1" = rowT ["scene", p1.1, "1", "1"]:=lit _ _ (by
    simp only[sg_cat]
    rw[show signs "scene " = signs "scene" ++ [32] by decide +kernel,show signs " 1 1" = 32::signs "1" ++ [32]++signs "1" by decide +kernel]
    simp[joinC])
   refine⟨["scene " ++ p1.1 ++ " 1 1"],by simp,λr hr=>?_,λL x3 x4 x5 hl=>⟨x3,x4,x5,?_⟩⟩
   ·rw[List.mem_singleton.mp hr,n1]
    intro n
    have wd:∀w∈(["scene", p1.1, "1", "1"]:List Str),wd w:=by simp[wd_scene,wd_nm g1,w2]
    exact with_late2 (n+4) _ _ _ (sh _ wd (by simp)) (row_split (by simp) wd) (scene_old n (Ss.map ScB.p) _ _ _ _ _ p1.1 g1 ds m1 (by simp))
   ·have lb:L.length < big:=by lia
    simp only[BK,bkT]
    generalize (Ss.map ScB.p).map ent=PP at *
    generalize "scene " ++ p1.1 ++ " 1 1" = R1 at *
    simp[nthS,b_law_bad_names,q1',b1,e1,ent,t1,t2,lb]
 have s4:∃M:List Str,M.length≤2∧(∀r∈M,Wr BK r)∧∀(L:List Str) (x3 x4 x5:Sl),L.length≤90→∃y3 y4 y5,
  exS T (callF T dfs n) (nthS 4 b_law_bad_names) [.v (.tup BK),.v (.int cell),.o (.lst (L.map D.str)),x3,x4,x5]=.ok (.nx [.v (.tup BK),.v (.int cell),.o (.lst ((L++M).map D.str)),y3,y4,y5]):=by
  cases hLs:Ls with
  | nil =>
   refine⟨[],by simp,λr hr=>(by cases hr),λL x3 x4 x5 hl=>⟨x3,x4,x5,?_⟩⟩
   simp only[BK,bkT,hLs,List.append_nil]
   have q1:D.cmp .NotEq (.tup []) (.tup [])=.ok (.bl false):=rfl
   simp[nthS,b_law_bad_names,q1]
  | cons x0 r0 =>
   have pos:0 < Ls.length:=by rw[hLs];simp
   obtain⟨i,hi,hi'⟩:=mod_lt' cell pos
   have e1:D.ix (.tup (Ls.map lkT)) (.int i)=.ok (lkT Ls[i]):=ix_t (by rw[List.getElem?_map,List.getElem?_eq_getElem hi'];rfl)
   have lm:Ls[i]∈Ls:=List.getElem_mem hi'
   have b1:D.bin .Mod (.int cell) (.int ((Ls.map lkT).length:Nat))=.ok (.int i):=by rw[List.length_map,bin_mod (by lia),hi]
   have q1':D.cmp .NotEq (.tup (Ls.map lkT)) (.tup [])=.ok (.bl true):=by rw[q4];rw[hLs];rfl
   generalize Ls[i]=l at *
   obtain⟨gl1,gl2,gl3⟩:=g.gl l lm
   have hp1:l.2.1 < (Ps.map PtB.p).length:=by rw[List.length_map];exact gl2
   have hq1:l.1 < (Qs.map PlB.p).length:=by rw[List.length_map];exact gl1
   have e2:=ents_at hp1
   have e3:=ents_at hq1
   have g1:=nmAt_nm g.nmP hp1
   have g0:=nmAt_nm g.nmQ hq1
   rw[nmAt_ge hp1] at g1
   rw[nmAt_ge hq1] at g0
   have old:=λn=>like_old (n+1) (Ps.map PtB.p) (Qs.map PlB.p) Ls (.tup ((Ss.map ScB.p).map ent)) (.tup (Cs.map cvT)) l.2.1 l.1 7 _ _ (List.getElem?_eq_getElem hp1) (List.getElem?_eq_getElem hq1) dp dq (List.mem_map.mpr ⟨l,lm,rfl⟩) (by have:=g.ll;lia) (by decide)
   generalize ((Ps.map PtB.p)[l.2.1])=p1 at *
   generalize ((Qs.map PlB.p)[l.1])=p0 at *
   have wd:∀w∈(["like", p0.1,p1.1,numS 7]:List Str),wd w:=NI.wd (x:=.l p0.1 p1.1 7) ⟨g0,g1,by decide⟩
   have j:=run_join wd (by simp)
   rw[num7] at j
   simp only[List.map_cons,List.map_nil] at j
   refine⟨[rowT ["like", p0.1,p1.1, "7"]],by simp,λr hr=>?_,λL x3 x4 x5 hl=>⟨.v (.int l.1),.v (.int l.2.1),.v (.int l.2.2),?_⟩⟩
   ·rw[List.mem_singleton.mp hr,←num7]
    intro n
    exact with_late3 (n+4) _ _ _ (sh _ wd (by simp)) (row_split (by simp) wd) (old n)
   ·have lb:L.length < big:=by lia
    have lk:lkT l=.tup [.int l.1,.int l.2.1,.int l.2.2]:=rfl
    simp only[BK,bkT]
    generalize (Ps.map PtB.p).map ent=PP at *
    generalize (Qs.map PlB.p).map ent=QQ at *
    generalize Ls.map lkT=LL at *
    generalize rowT ["like", p0.1,p1.1, "7"]=R1 at *
    simp[nthS,b_law_bad_names,q1',b1,e1,e2,e3,ent,lk,j,lb]
 have s5:∃M:List Str,M.length≤2∧(∀r∈M,Wr BK r)∧∀(L:List Str) (x3 x4 x5:Sl),L.length≤90→∃y3 y4 y5,
  exS T (callF T dfs n) (nthS 5 b_law_bad_names) [.v (.tup BK),.v (.int cell),.o (.lst (L.map D.str)),x3,x4,x5]=.ok (.nx [.v (.tup BK),.v (.int cell),.o (.lst ((L++M).map D.str)),y3,y4,y5]):=by
  cases hCs:Cs with
  | nil =>
   refine⟨[],by simp,λr hr=>(by cases hr),λL x3 x4 x5 hl=>⟨x3,x4,x5,?_⟩⟩
   simp only[BK,bkT,hCs,List.append_nil]
   have q1:D.cmp .NotEq (.tup []) (.tup [])=.ok (.bl false):=rfl
   simp[nthS,b_law_bad_names,q1]
  | cons x0 r0 =>
   have pos:0 < Cs.length:=by rw[hCs];simp
   obtain⟨i,hi,hi'⟩:=mod_lt' cell pos
   have e1:D.ix (.tup (Cs.map cvT)) (.int i)=.ok (cvT Cs[i]):=ix_t (by rw[List.getElem?_map,List.getElem?_eq_getElem hi'];rfl)
   have lm:Cs[i]∈Cs:=List.getElem_mem hi'
   have b1:D.bin .Mod (.int cell) (.int ((Cs.map cvT).length:Nat))=.ok (.int i):=by rw[List.length_map,bin_mod (by lia),hi]
   have q1':D.cmp .NotEq (.tup (Cs.map cvT)) (.tup [])=.ok (.bl true):=by rw[q5];rw[hCs];rfl
   generalize Cs[i]=l at *
   obtain⟨gl1,gl2⟩:=g.gc l lm
   have hp1:l.1 < (Ps.map PtB.p).length:=by rw[List.length_map];exact gl1
   have hq1:l.2 < (Qs.map PlB.p).length:=by rw[List.length_map];exact gl2
   have e2:=ents_at hp1
   have e3:=ents_at hq1
   have g1:=nmAt_nm g.nmP hp1
   have g0:=nmAt_nm g.nmQ hq1
   rw[nmAt_ge hp1] at g1
   rw[nmAt_ge hq1] at g0
   have old:=λn=>cover_old (n+2) (Ps.map PtB.p) (Qs.map PlB.p) Cs (.tup ((Ss.map ScB.p).map ent)) (.tup (Ls.map lkT)) l.1 l.2 _ _ (List.getElem?_eq_getElem hp1) (List.getElem?_eq_getElem hq1) dp dq lm
   generalize ((Ps.map PtB.p)[l.1])=p1 at *
   generalize ((Qs.map PlB.p)[l.2])=p0 at *
   have wd:∀w∈(["cover", p1.1,p0.1]:List Str),wd w:=NI.wd (x:=.c p1.1 p0.1) ⟨g1,g0⟩
   have j:=run_join wd (by simp)
   simp only[List.map_cons,List.map_nil] at j
   refine⟨[rowT ["cover", p1.1,p0.1]],by simp,λr hr=>?_,λL x3 x4 x5 hl=>⟨.v (.int l.2),.v (.int l.1),x5,?_⟩⟩
   ·rw[List.mem_singleton.mp hr]
    intro n
    exact with_late4 (n+4) _ _ _ (sh _ wd (by simp)) (row_split (by simp) wd) (old n)
   ·have lb:L.length < big:=by lia
    have lk:cvT l=.tup [.int l.1,.int l.2]:=rfl
    simp only[BK,bkT]
    generalize (Ps.map PtB.p).map ent=PP at *
    generalize (Qs.map PlB.p).map ent=QQ at *
    generalize Cs.map cvT=LL at *
    generalize rowT ["cover", p1.1,p0.1]=R1 at *
    simp[nthS,b_law_bad_names,q1',b1,e1,e2,e3,ent,lk,j,lb]
 obtain⟨M1,a1,b1,c1⟩:=s1
 obtain⟨M2,a2,b2,c2⟩:=s2
 obtain⟨M3,a3,b3,c3⟩:=s3
 obtain⟨M4,a4,b4,c4⟩:=s4
 obtain⟨M5,a5,b5,c5⟩:=s5
 let L0:List Str:=["like nobodyat nobodyas 1", "cover nobodyat nobodyas", "scene q 1 1 nobodyat"]
 obtain⟨x3,x4,x5,d1⟩:=c1 L0 .no .no .no (by simp[L0])
 obtain⟨x3,x4,x5,d2⟩:=c2 (L0++M1) x3 x4 x5 (by simp[L0]<;>lia)
 obtain⟨x3,x4,x5,d3⟩:=c3 (L0++M1++M2) x3 x4 x5 (by simp[L0]<;>lia)
 obtain⟨x3,x4,x5,d4⟩:=c4 (L0++M1++M2++M3) x3 x4 x5 (by simp[L0]<;>lia)
 obtain⟨x3,x4,x5,d5⟩:=c5 (L0++M1++M2++M3++M4) x3 x4 x5 (by simp[L0]<;>lia)
 refine⟨L0++M1++M2++M3++M4++M5,by simp[L0]<;>lia,by simp[L0]<;>lia,λr hr=>?_,?_⟩
 ·simp only[List.mem_append] at hr
  rcases hr with ((((hr | hr) | hr) | hr) | hr) | hr
  ·simp only[L0,List.mem_cons,List.not_mem_nil,or_false] at hr
   rcases hr with rfl | rfl | rfl
   ·exact r1
   ·exact r2
   ·exact r3
  ·exact b1 r hr
  ·exact b2 r hr
  ·exact b3 r hr
  ·exact b4 r hr
  ·exact b5 r hr
 ·refine callF_rt (k:=true) rfl rfl rfl ?_
  have hd:b_law_bad_names=.cons (nthS 0 b_law_bad_names) (.cons (nthS 1 b_law_bad_names) (.cons (nthS 2 b_law_bad_names) (.cons (nthS 3 b_law_bad_names) (.cons (nthS 4 b_law_bad_names) (.cons (nthS 5 b_law_bad_names) (.cons (.retO 2) .nil)))))):=rfl
  have d0:exS T (callF T dfs n) (nthS 0 b_law_bad_names) [.v (.tup BK),.v (.int cell),.no,.no,.no,.no]=.ok (.nx [.v (.tup BK),.v (.int cell),.o (.lst (L0.map D.str)),.no,.no,.no]):=by
   simp[nthS,b_law_bad_names,L0]
  show exS T (callF T dfs n) b_law_bad_names [.v (.tup BK),.v (.int cell),.no,.no,.no,.no]=_
  rw[hd]
  simp only[exS_cons,d0,d1,d2,d3,d4,d5,Res.ok_bind,thenS_nx]
  simp
end
theorem run_rowsR (n:Nat) {Ps Qs Ss Ls Cs} (g:GB Ps Qs Ss Ls Cs) (A:List IA) (Z:List IZ) (hA:A.filterMap aP=Ps∧A.filterMap aQ=Qs) (hZ:Z.filterMap zS=Ss∧Z.filterMap zL=Ls∧Z.filterMap zC=Cs) (la:A.length≤200) (lz:Z.length≤200) :
 Run (n+5) (bkT [] [] [] [] []) (A.map rowA++Z.map (rowZ (Ps.map PtB.p) (Qs.map PlB.p))) (bkT (Ps.map PtB.p) (Qs.map PlB.p) (Ss.map ScB.p) Ls Cs):=by
 have memP:∀x,Sum.inl x∈A→x∈Ps:=λx hx=>by rw[←hA.1];exact List.mem_filterMap.mpr ⟨_,hx,rfl⟩
 have memQ:∀x,Sum.inr x∈A→x∈Qs:=λx hx=>by rw[←hA.2];exact List.mem_filterMap.mpr ⟨_,hx,rfl⟩
 have memS:∀x,Sum.inl x∈Z→x∈Ss:=λx hx=>by rw[←hZ.1];exact List.mem_filterMap.mpr ⟨_,hx,rfl⟩
 have memL:∀x,Sum.inr (Sum.inl x)∈Z→x∈Ls:=λx hx=>by rw[←hZ.2.1];exact List.mem_filterMap.mpr ⟨_,hx,rfl⟩
 have memC:∀x,Sum.inr (Sum.inr x)∈Z→x∈Cs:=λx hx=>by rw[←hZ.2.2];exact List.mem_filterMap.mpr ⟨_,hx,rfl⟩
 have r1:=run_A n [] [] [] A [] [] (λx hx=>g.gp x (memP x hx)) (λx hx=>g.gq x (memQ x hx)) (by rw[hA.1];exact g.np) (by rw[hA.2];exact g.nq) (by simp;lia) (by simp;lia)
 rw[hA.1,hA.2,List.nil_append,List.nil_append] at r1
 have r2:=run_Z n (Ps.map PtB.p) (Qs.map PlB.p) g.nmP g.nmQ (by rw[List.map_map];exact g.np) (by rw[List.map_map];exact g.nq) Z [] [] [] (λx hx=>by rw[List.length_map];exact g.gs x (memS x hx)) (λx hx=>by rw[List.length_map,List.length_map];exact g.gl x (memL x hx)) (λx hx=>by rw[List.length_map,List.length_map];exact g.gc x (memC x hx)) (by rw[hZ.1];exact g.ns) (by rw[hZ.2.1];exact g.nl) (by rw[hZ.2.2];exact g.nc) (by simp;lia) (by simp;lia) (by simp;lia)
 rw[hZ.1,hZ.2.1,hZ.2.2,List.nil_append,List.nil_append,List.nil_append] at r2
 exact Run.app r1 r2
theorem ref_no (n:Nat) (rows:List Str) (b':List D) (h:Run n (bkT [] [] [] [] []) rows b'):callF T dfs (n+2) 27 [.lst (rows.map D.str)]=.ok (.int (-1)):=by
 have e:=read_run n rows b' h
 refine callF_thr (td:=td_law_refused) (e:=[.v (.lst (rows.map D.str)),.v .non,.no]) rfl rfl rfl rfl ?_
 simp[b_law_refused,e]
theorem ref_at (n:Nat) (rows:List Str) (b1:List D) (r:Str) (rest:List Str) (h:Run n (bkT [] [] [] [] []) rows b1) (e:callF T dfs n 13 [.tup b1,.str r]=.ok .non) :
 callF T dfs (n+2) 27 [.lst ((rows++r::rest).map D.str)]=.ok (.int rows.length):=by
 have e:=read_wrong n rows b1 r rest h e
 refine callF_num (td:=td_law_refused) rfl rfl rfl rfl rfl ?_
 generalize (rows++r::rest).map D.str=R at *
 simp[b_law_refused,xX_cons,xX_call,e]
noncomputable def ZB (Ss:List ScB) (Ls:List (Nat×Nat×Nat)) (Cs:List (Nat×Nat)):List IZ:=Ss.map Sum.inl++Ls.map (λl=>Sum.inr (Sum.inl l))++Cs.map λc=>Sum.inr (Sum.inr c)
noncomputable def AB (Ps:List PtB) (Qs:List PlB):List IA:=Ps.map Sum.inl++Qs.map Sum.inr
theorem rows_AZ (Ps:List PtB) (Qs:List PlB) (Ss:List ScB) (Ls:List (Nat×Nat×Nat)) (Cs:List (Nat×Nat)):(AB Ps Qs).map rowA++(ZB Ss Ls Cs).map (rowZ (Ps.map PtB.p) (Qs.map PlB.p))=rowsB Ps Qs Ss Ls Cs:=by
 unfold rowsB AB ZB
 rw[List.map_append,List.map_append,List.map_append,List.map_map,List.map_map,List.map_map,List.map_map,List.map_map]
 simp only[List.append_assoc]
 rfl
theorem gb_sub {Ps Qs Ss Ls Cs Ss' Ls' Cs'} (g:GB Ps Qs Ss Ls Cs) (h1:Ss'.Sublist Ss) (h2:Ls'.Sublist Ls) (h3:Cs'.Sublist Cs):GB Ps Qs Ss' Ls' Cs' :=
 ⟨g.gp,g.gq,λx hx=>g.gs x (h1.subset hx),λx hx=>g.gl x (h2.subset hx),λx hx=>g.gc x (h3.subset hx),g.np,g.nq,(h1.map _).nodup g.ns,(h2.map _).nodup g.nl,h3.nodup g.nc,g.lp,g.lq,Nat.le_trans h1.length_le g.ls,Nat.le_trans h2.length_le g.ll,Nat.le_trans h3.length_le g.lc⟩
theorem run_part (n:Nat) {Ps Qs Ss Ls Cs} (g:GB Ps Qs Ss Ls Cs) (m:Nat):∃Ss' Ls' Cs',GB Ps Qs Ss' Ls' Cs' ∧
 Run (n+5) (bkT [] [] [] [] []) ((AB Ps Qs).map rowA++((ZB Ss Ls Cs).take m).map (rowZ (Ps.map PtB.p) (Qs.map PlB.p))) (bkT (Ps.map PtB.p) (Qs.map PlB.p) (Ss'.map ScB.p) Ls' Cs'):=by
 have b1:=g.lp
 have b2:=g.lq
 have b3:=g.ls
 have b4:=g.ll
 have b5:=g.lc
 have e1:(ZB Ss Ls Cs).filterMap zS=Ss:=by unfold ZB;rw[List.filterMap_append,List.filterMap_append,fm_self zS Sum.inl (λ_=>rfl),fm_inl zS _ (λ_=>rfl),fm_inl zS _ (λ_=>rfl),List.append_nil,List.append_nil]
 have e2:(ZB Ss Ls Cs).filterMap zL=Ls:=by unfold ZB;rw[List.filterMap_append,List.filterMap_append,fm_inl zL Sum.inl (λ_=>rfl),fm_self zL _ (λ_=>rfl),fm_inl zL _ (λ_=>rfl),List.append_nil,List.nil_append]
 have e3:(ZB Ss Ls Cs).filterMap zC=Cs:=by unfold ZB;rw[List.filterMap_append,List.filterMap_append,fm_inl zC Sum.inl (λ_=>rfl),fm_inl zC _ (λ_=>rfl),fm_self zC _ (λ_=>rfl),List.nil_append,List.nil_append]
 have a1:(AB Ps Qs).filterMap aP=Ps:=by unfold AB;rw[List.filterMap_append,fm_self aP Sum.inl (λ_=>rfl),fm_inl aP Sum.inr (λ_=>rfl),List.append_nil]
 have a2:(AB Ps Qs).filterMap aQ=Qs:=by unfold AB;rw[List.filterMap_append,fm_inl aQ Sum.inl (λ_=>rfl),fm_self aQ Sum.inr (λ_=>rfl),List.nil_append]
 have t:=List.take_sublist m (ZB Ss Ls Cs)
 have lz:(ZB Ss Ls Cs).length≤200:=by unfold ZB;simp;lia
 have g':=gb_sub g (e1▸t.filterMap zS) (e2▸t.filterMap zL) (e3▸t.filterMap zC)
 refine⟨_,_,_,g',?_⟩
 exact run_rowsR n g' (AB Ps Qs) ((ZB Ss Ls Cs).take m) ⟨a1,a2⟩ ⟨rfl,rfl,rfl⟩ (by unfold AB;simp;lia) (Nat.le_trans t.length_le lz)
theorem run_full (n:Nat) {Ps Qs Ss Ls Cs} (g:GB Ps Qs Ss Ls Cs):Run (n+5) (bkT [] [] [] [] []) (rowsB Ps Qs Ss Ls Cs) (bkT (Ps.map PtB.p) (Qs.map PlB.p) (Ss.map ScB.p) Ls Cs):=by
 have b1:=g.lp
 have b2:=g.lq
 have b3:=g.ls
 have b4:=g.ll
 have b5:=g.lc
 have e1:(ZB Ss Ls Cs).filterMap zS=Ss:=by unfold ZB;rw[List.filterMap_append,List.filterMap_append,fm_self zS Sum.inl (λ_=>rfl),fm_inl zS _ (λ_=>rfl),fm_inl zS _ (λ_=>rfl),List.append_nil,List.append_nil]
 have e2:(ZB Ss Ls Cs).filterMap zL=Ls:=by unfold ZB;rw[List.filterMap_append,List.filterMap_append,fm_inl zL Sum.inl (λ_=>rfl),fm_self zL _ (λ_=>rfl),fm_inl zL _ (λ_=>rfl),List.append_nil,List.nil_append]
 have e3:(ZB Ss Ls Cs).filterMap zC=Cs:=by unfold ZB;rw[List.filterMap_append,List.filterMap_append,fm_inl zC Sum.inl (λ_=>rfl),fm_inl zC _ (λ_=>rfl),fm_self zC _ (λ_=>rfl),List.nil_append,List.nil_append]
 have a1:(AB Ps Qs).filterMap aP=Ps:=by unfold AB;rw[List.filterMap_append,fm_self aP Sum.inl (λ_=>rfl),fm_inl aP Sum.inr (λ_=>rfl),List.append_nil]
 have a2:(AB Ps Qs).filterMap aQ=Qs:=by unfold AB;rw[List.filterMap_append,fm_inl aQ Sum.inl (λ_=>rfl),fm_self aQ Sum.inr (λ_=>rfl),List.nil_append]
 rw[←rows_AZ]
 exact run_rowsR n g (AB Ps Qs) (ZB Ss Ls Cs) ⟨a1,a2⟩ ⟨e1,e2,e3⟩ (by unfold AB;simp;lia) (by unfold ZB;simp;lia)
theorem add_tups' {a b:List D} (h:a.length+b.length≤1000):D.bin .Add (.tup a) (.tup b)=.ok (.tup (a++b)):=by
 have hb:=ten_big
 show when (decide (a.length+b.length≤big)) _=_
 rw[when_of (decide_eq_true (by lia))]
theorem bad_here (n:Nat) {Ps Qs Ss Ls Cs} (g:GB Ps Qs Ss Ls Cs) {r:Str} (h:Bad r):callF T dfs (n+5) 13 [.tup (bkT (Ps.map PtB.p) (Qs.map PlB.p) (Ss.map ScB.p) Ls Cs),.str r]=.ok .non:=by
 obtain⟨ws,h1,h2,h3,h4,h5,h6⟩:=h
 exact with_wrong n _ _ _ Ls Cs (by rw[List.map_map];exact g.np) (by rw[List.map_map];exact g.nq) (by rw[List.map_map];exact g.ns) g.nmP r ws h6 h1 h3 h4 h2 h5
theorem k03_body (A:D) {Ps Qs Ss Ls Cs} (g:GB Ps Qs Ss Ls Cs) (hP:∀x∈Ps,∃c k,x.name=nameV c k) (hQ:∀x∈Qs,∃c k,x.name=nameV c k) (F:List Str) (hF:∀r∈F,Bad r) (hl:1≤F.length∧F.length≤100) (x3 x4:Sl) (rest:Nv) (cell:Int) (x6 x7 x8:Sl):∃a b c,
 bodyF T (callF T dfs 19) (.one 6) b_law_1 (.int cell) (.v A::.v (.tup (bkT (Ps.map PtB.p) (Qs.map PlB.p) (Ss.map ScB.p) Ls Cs))::.v (.lst ((rowsB Ps Qs Ss Ls Cs).map D.str))::x3::x4::.v (.lst (F.map D.str))::x6::x7::x8::rest) =
  .ok (.nx (.v A::.v (.tup (bkT (Ps.map PtB.p) (Qs.map PlB.p) (Ss.map ScB.p) Ls Cs))::.v (.lst ((rowsB Ps Qs Ss Ls Cs).map D.str))::x3::x4::.v (.lst (F.map D.str))::a::b::c::rest)):=by
 have hb:=ten_big
 obtain⟨L,l1,l2,l3,e1⟩:=bad_names g hP hQ 18 (cell / 3)
 obtain⟨i,hi,hi'⟩:=mod_lt' (cell / 3) (by lia:0 < F.length)
 obtain⟨j,hj,hj'⟩:=mod_lt' (cell / 3) (by lia:0 < L.length)
 have gi:D.ix (.lst (F.map D.str)) (.int i)=.ok (.str F[i]):=ix_l (by rw[List.getElem?_map,List.getElem?_eq_getElem hi'];rfl)
 have gj:D.ix (.lst (L.map D.str)) (.int j)=.ok (.str L[j]):=ix_l (by rw[List.getElem?_map,List.getElem?_eq_getElem hj'];rfl)
 have b1:D.bin .Mod (.int (cell / 3)) (.int ((F.map D.str).length:Nat))=.ok (.int i):=by rw[List.length_map,bin_mod (by lia),hi]
 have b2:D.bin .Mod (.int (cell / 3)) (.int ((L.map D.str).length:Nat))=.ok (.int j):=by rw[List.length_map,bin_mod (by lia),hj]
 have w1:∀n,callF T dfs (n+5) 13 [.tup (bkT (Ps.map PtB.p) (Qs.map PlB.p) (Ss.map ScB.p) Ls Cs),.str F[i]]=.ok .non:=λn=>bad_here n g (hF _ (List.getElem_mem hi'))
 have w2:=l3 L[j] (List.getElem_mem hj')
 obtain⟨Ss',Ls',Cs',_,run⟩:=run_part 12 g (ZB Ss Ls Cs).length
 have run2:=run_full 12 g
 generalize F[i]=fi at *
 generalize L[j]=lj at *
 have key:∀r:Str,(∀n,callF T dfs (n+5) 13 [.tup (bkT (Ps.map PtB.p) (Qs.map PlB.p) (Ss.map ScB.p) Ls Cs),.str r]=.ok .non) →
  callF T dfs 19 27 [.lst ((rowsB Ps Qs Ss Ls Cs).map D.str++[.str r])]=.ok (.int (rowsB Ps Qs Ss Ls Cs).length):=by
  intro r w
  have:=ref_at 17 _ _ r [] run2 (w 12)
  rw[List.map_append] at this
  exact this
 have lr:=rowsB_len g
 have k1:=key fi w1
 have k2:=key lj w2
 have a1:=add_lsts (a:=(rowsB Ps Qs Ss Ls Cs).map D.str) (b:=[.str fi]) (by simp;lia)
 have a2:=add_lsts (a:=(rowsB Ps Qs Ss Ls Cs).map D.str) (b:=[.str lj]) (by simp;lia)
 have lR:((rowsB Ps Qs Ss Ls Cs).map D.str).length=(rowsB Ps Qs Ss Ls Cs).length:=List.length_map _
 generalize bkT (Ps.map PtB.p) (Qs.map PlB.p) (Ss.map ScB.p) Ls Cs=BK at *
 generalize (rowsB Ps Qs Ss Ls Cs).map D.str=R at *
 have b3:D.bin .FloorDiv (.int cell) (.int 3)=.ok (.int (cell / 3)):=bin_fdiv (by lia)
 have x1:∀a b:D,D.ix (.lst [a,b]) (.int (b2z false))=.ok a:=λ_ _=>rfl
 have x2:∀a b:D,D.ix (.lst [a,b]) (.int (b2z true))=.ok b:=λ_ _=>rfl
 cases c:(cell % 3==2) with
 | true =>
  refine⟨.v (.int cell),.v (.lst (L.map D.str)),.v (.str lj),?_⟩
  generalize L.map D.str=LL at *
  generalize F.map D.str=FF at *
  simp[bodyF,b_law_1,b3,e1,b1,b2,gi,gj,c,x2,a2,k2,lR]
 | false =>
  refine⟨.v (.int cell),.v (.lst (L.map D.str)),.v (.str fi),?_⟩
  generalize L.map D.str=LL at *
  generalize F.map D.str=FF at *
  simp[bodyF,b_law_1,b3,e1,b1,b2,gi,gj,c,x1,a1,k1,lR]
theorem k03_loop (A:D) {Ps Qs Ss Ls Cs} (g:GB Ps Qs Ss Ls Cs) (hP:∀x∈Ps,∃c k,x.name=nameV c k) (hQ:∀x∈Qs,∃c k,x.name=nameV c k) (F:List Str) (hF:∀r∈F,Bad r) (hl:1≤F.length∧F.length≤100) (x3 x4:Sl) (rest:Nv):∀(cs:List Int) (x6 x7 x8:Sl),∃a b c,
 forL (bodyF T (callF T dfs 19) (.one 6) b_law_1) (cs.map D.int) (.v A::.v (.tup (bkT (Ps.map PtB.p) (Qs.map PlB.p) (Ss.map ScB.p) Ls Cs))::.v (.lst ((rowsB Ps Qs Ss Ls Cs).map D.str))::x3::x4::.v (.lst (F.map D.str))::x6::x7::x8::rest) =
  .ok (.nx (.v A::.v (.tup (bkT (Ps.map PtB.p) (Qs.map PlB.p) (Ss.map ScB.p) Ls Cs))::.v (.lst ((rowsB Ps Qs Ss Ls Cs).map D.str))::x3::x4::.v (.lst (F.map D.str))::a::b::c::rest))
 | [],x6,x7,x8=>⟨x6,x7,x8,rfl⟩
 | cell::r,x6,x7,x8=>by
  obtain⟨a,b,c,e⟩:=k03_body A g hP hQ F hF hl x3 x4 rest cell x6 x7 x8
  obtain⟨a',b',c',e'⟩:=k03_loop A g hP hQ F hF hl x3 x4 rest r a b c
  exact⟨a',b',c',by rw[List.map_cons,forL_nx e,e']⟩
theorem first_name (ps:List (Str×List D)) (ds:List D) (hp:∀p∈ps,isNm p.1):∃w q,isNm w∧D.ix (.tup (ps.map ent++[.tup (.str "p" :: ds)])) (.int 0)=.ok (.tup (.str w::q)):=by
 cases ps with
 | nil=>exact⟨"p", ds,by
  have:(1≤(signs "p").length∧(signs "p").length≤8∧(signs "p").all (hasC "abcdefghijklmnopqrstuvwxyz")=true):=by decide +kernel
  exact this,rfl⟩
 | cons p r=>exact⟨p.1,p.2,hp p List.mem_cons_self,ix_t0⟩
theorem law_true (ns:List Int) (hn:ns.length≤63):callF T dfs 20 28 [.lst (ns.map D.int)]=.ok (.bl true):=by
 have hb:=ten_big
 obtain⟨Ps,Qs,Ss,Ls,Cs,g,hP,hQ,e1⟩:=drawn_good 16 ns 3 hn (by lia)
 rw[show ((3:Nat):Int)=3 from rfl] at e1
 have e2:=law_rows 18 g
 have bP:=g.lp
 have bQ:=g.lq
 obtain⟨P,qP,nP,fP⟩:=first_name (Ps.map PtB.p) [.str "a", .int 0,.int 0] g.nmP
 obtain⟨Q,qQ,nQ,fQ⟩:=first_name (Qs.map PlB.p) [.str "a", .int 0] g.nmQ
 have e3:=bad_forms 18 P Q nP nQ
 have hF:∀r∈CA++CB P Q,Bad r:=λr hr=>by
  rcases List.mem_append.mp hr with hr | hr
  ·exact ca_bad r hr
  ·exact cb_bad nP nQ r hr
 have lF:(CA++CB P Q).length=52:=by rw[List.length_append];rfl
 have cc:∀k:Nat,callF T dfs 19 15 [.lst (ns.map D.int),.int k]=.ok (.int (cellV ns k)):=λk=>cell_at 18 ns k
 have c0:=cc 0
 have c1:=cc 1
 have c2:=cc 2
 have ct:cut (ns.map D.int) (some 23) (some 31)=(cut ns (some 23) (some 31)).map D.int:=by unfold Tr.cut;rw[List.length_map,List.map_take,List.map_drop]
 have cl:(cut ns (some 23) (some 31)).length≤63:=by
  unfold cut
  rw[List.length_take,List.length_drop]
  lia
 have a0:=add_lsts (a:=[D.int (cellV ns 0),D.int (cellV ns 1)]) (b:=(cut ns (some 23) (some 31)).map D.int) (by rw[List.length_map];simp;lia)
 obtain⟨a,b,c,e5⟩:=k03_loop (.lst (ns.map D.int)) g hP hQ (CA++CB P Q) hF (by lia) (.v (.str P)) (.v (.str Q)) [.no,.no,.no,.no] (cellV ns 0::cellV ns 1::cut ns (some 23) (some 31)) .no .no .no
 rw[List.map_cons,List.map_cons] at e5
 have lr:=rowsB_len g
 have lAZ:(rowsB Ps Qs Ss Ls Cs).length=(Ps.length+Qs.length)+(ZB Ss Ls Cs).length:=by
  rw[←rows_AZ];unfold AB;simp<;>lia
 obtain⟨m,hm,hm'⟩:=mod_lt' (cellV ns 2) (by lia:0 < (ZB Ss Ls Cs).length+1)
 obtain⟨i1,hi1,hi1'⟩:=mod_lt' (cellV ns 1) (by lia:0 < (CA++CB P Q).length)
 obtain⟨i0,hi0,hi0'⟩:=mod_lt' (cellV ns 0) (by lia:0 < (CA++CB P Q).length)
 have g1:D.ix (.lst ((CA++CB P Q).map D.str)) (.int i1)=.ok (.str (CA++CB P Q)[i1]):=ix_l (by rw[List.getElem?_map,List.getElem?_eq_getElem hi1'];rfl)
 have g0:D.ix (.lst ((CA++CB P Q).map D.str)) (.int i0)=.ok (.str (CA++CB P Q)[i0]):=ix_l (by rw[List.getElem?_map,List.getElem?_eq_getElem hi0'];rfl)
 have w1:=hF _ (List.getElem_mem hi1')
 have m1:D.bin .Mod (.int (cellV ns 1)) (.int (((CA++CB P Q).map D.str).length:Nat))=.ok (.int i1):=by rw[List.length_map,bin_mod (by lia),hi1]
 have m0:D.bin .Mod (.int (cellV ns 0)) (.int (((CA++CB P Q).map D.str).length:Nat))=.ok (.int i0):=by rw[List.length_map,bin_mod (by lia),hi0]
 have lF2:((CA++CB P Q).map D.str).length=52:=by rw[List.length_map];exact lF
 generalize (CA++CB P Q)[i1]=r1 at *
 generalize (CA++CB P Q)[i0]=r0 at *
 obtain⟨Ss',Ls',Cs',g',run⟩:=run_part 12 g m
 have tk:(AB Ps Qs).map rowA++((ZB Ss Ls Cs).take m).map (rowZ (Ps.map PtB.p) (Qs.map PlB.p))=(rowsB Ps Qs Ss Ls Cs).take (Ps.length+Qs.length+m):=by
  have la:((AB Ps Qs).map rowA).length=Ps.length+Qs.length:=by unfold AB;simp
  rw[←rows_AZ,←la,List.take_length_add_append,List.map_take]
 rw[tk] at run
 have lt:((rowsB Ps Qs Ss Ls Cs).take (Ps.length+Qs.length+m)).length=Ps.length+Qs.length+m:=by rw[List.length_take];lia
 have e6:=ref_at 17 _ _ r1 ((rowsB Ps Qs Ss Ls Cs).drop (Ps.length+Qs.length+m)++[r0]) run (bad_here 12 g' w1)
 rw[lt] at e6
 have sh:((rowsB Ps Qs Ss Ls Cs).take (Ps.length+Qs.length+m)++r1::((rowsB Ps Qs Ss Ls Cs).drop (Ps.length+Qs.length+m)++[r0])).map D.str=((rowsB Ps Qs Ss Ls Cs).map D.str).take (Ps.length+Qs.length+m)++D.str r1::(((rowsB Ps Qs Ss Ls Cs).map D.str).drop (Ps.length+Qs.length+m)++[.str r0]):=by
  rw[List.map_append,List.map_cons,List.map_append,List.map_take,List.map_drop];rfl
 have pl:=strs_pl ((rowsB Ps Qs Ss Ls Cs).take (Ps.length+Qs.length+m)++r1::((rowsB Ps Qs Ss Ls Cs).drop (Ps.length+Qs.length+m)++[r0]))
 rw[sh] at e6 pl
 have q1:=cmp_same pl
 have e7:=ref_no 17 _ _ (run_full 12 g)
 have lR:((rowsB Ps Qs Ss Ls Cs).map D.str).length=(Ps.length+Qs.length)+(ZB Ss Ls Cs).length:=by rw[List.length_map];exact lAZ
 have l1:((Ps.map PtB.p).map ent).length=Ps.length:=by simp
 have l2:((Qs.map PlB.p).map ent).length=Qs.length:=by simp
 have s1:D.bin .Mod (.int (cellV ns 2)) (.int ((((rowsB Ps Qs Ss Ls Cs).map D.str).length:Int)+1 - ((Ps.length:Int)+(Qs.length:Int))))=.ok (.int m):=by
  rw[lR,show (((Ps.length+Qs.length+(ZB Ss Ls Cs).length:Nat):Int)+1 - ((Ps.length:Int)+(Qs.length:Int)))=(((ZB Ss Ls Cs).length+1:Nat):Int) by lia,bin_mod (by lia),hm]
 have s2:=insIx_ok (n:=((rowsB Ps Qs Ss Ls Cs).map D.str).length) (j:=Ps.length+Qs.length+m) (by lia) (by lia)
 have s2:insIx ((rowsB Ps Qs Ss Ls Cs).map D.str).length (.int ((Ps.length:Int)+(Qs.length:Int)+(m:Int)))=.ok (Ps.length+Qs.length+m):=s2
 have aP:=add_tups' (a:=(Ps.map PtB.p).map ent) (b:=[.tup [.str "p", .str "a", .int 0,.int 0]]) (by simp;lia)
 have aQ:=add_tups' (a:=(Qs.map PlB.p).map ent) (b:=[.tup [.str "p", .str "a", .int 0]]) (by simp;lia)
 have lb:∀R:List D,R.length≤400→R.length < big:=λR h=>by lia
 have hi:((Ps.length:Int)+(Qs.length:Int)+(m:Int))=((Ps.length+Qs.length+m:Nat):Int):=by lia
 refine callF_rt (k:=false) rfl rfl rfl ?_
 unfold bkT at *
 generalize cut ns (some 23) (some 31)=CL at *
 generalize (rowsB Ps Qs Ss Ls Cs).map D.str=R at *
 generalize (Ps.map PtB.p).map ent=PP at *
 generalize (Qs.map PlB.p).map ent=QQ at *
 generalize (Ss.map ScB.p).map ent=SS at *
 generalize Ls.map lkT=LL at *
 generalize Cs.map cvT=CC at *
 generalize (CA++CB P Q).map D.str=FF at *
 have lbig:(R.take (Ps.length+Qs.length+m)++D.str r1::R.drop (Ps.length+Qs.length+m)).length < big:=by
  rw[List.length_append,List.length_cons,List.length_take,List.length_drop];lia
 have lbig2:min (Ps.length+Qs.length+m) R.length+(R.length - (Ps.length+Qs.length+m)+1) < big:=by lia
 have as:R.take (Ps.length+Qs.length+m)++D.str r1::(R.drop (Ps.length+Qs.length+m)++[.str r0])=R.take (Ps.length+Qs.length+m)++D.str r1::R.drop (Ps.length+Qs.length+m)++[.str r0]:=by simp
 have w9:D.cmp .Eq (.int ((Ps.length+Qs.length+m:Nat):Int)) (.int ((Ps.length:Int)+(Qs.length:Int)+(m:Int)))=.ok (.bl true):=by rw[hi,cmp_eqi];simp
 have w8:D.cmp .Eq (.int (-1)) (.int (-1))=.ok (.bl true):=rfl
 simp[b_law,e1,e2,aP,fP,aQ,fQ,e3,c0,c1,c2,ct,a0,e5,l1,l2,s1,s2,m1,m0,g1,g0,lbig2,e6,q1,w9,w8,e7]
end K03
namespace K03
open PySem L2 Tr
noncomputable def top (i:Nat):Stmt:=PySem.Challenge.pw_troupe_k03_no_book.main.body.getD i (.Pass ⟨0,0,0,0⟩)
noncomputable abbrev d_consists_of:DefT:=⟨"consists_of", top 15,["signs", "word"],["signs", "word"],b_consists_of,none⟩
noncomputable abbrev d_are_unlike:DefT:=⟨"are_unlike", top 16,["things"],["things"],b_are_unlike,none⟩
noncomputable abbrev d_is_name:DefT:=⟨"is_name", top 17,["word"],["word"],b_is_name,none⟩
noncomputable abbrev d_is_amount:DefT:=⟨"is_amount", top 18,["word"],["word"],b_is_amount,none⟩
noncomputable abbrev d_is_voice:DefT:=⟨"is_voice", top 19,["word"],["word"],b_is_voice,none⟩
noncomputable abbrev d_are_voices:DefT:=⟨"are_voices", top 20,["word"],["word"],b_are_voices,none⟩
noncomputable abbrev d_number_named:DefT:=⟨"number_named", top 21,["entries", "name", "number", "entry"],["entries", "name"],b_number_named,none⟩
noncomputable abbrev d_is_new_name:DefT:=⟨"is_new_name", top 22,["entries", "word"],["entries", "word"],b_is_new_name,none⟩
noncomputable abbrev d_part_read:DefT:=⟨"part_read", top 23,["book", "words"],["book", "words"],b_part_read,none⟩
noncomputable abbrev d_player_read:DefT:=⟨"player_read", top 24,["book", "words"],["book", "words"],b_player_read,none⟩
noncomputable abbrev d_scene_read:DefT:=⟨"scene_read", top 25,["book", "words", "numbers"],["book", "words"],b_scene_read,none⟩
noncomputable abbrev d_like_read:DefT:=⟨"like_read", top 26,["book", "words", "player", "part"],["book", "words"],b_like_read,none⟩
noncomputable abbrev d_cover_read:DefT:=⟨"cover_read", top 27,["book", "words", "part", "player"],["book", "words"],b_cover_read,none⟩
noncomputable abbrev d_with_row:DefT:=⟨"with_row", top 30,["book", "row", "words", "place", "entry"],["book", "row"],b_with_row,none⟩
noncomputable abbrev d_read_book:DefT:=⟨"read_book", top 31,["rows", "book", "at", "row"],["rows"],b_read_book,none⟩
noncomputable abbrev d_law_cell_at:DefT:=⟨"_law_cell_at", top 33,["_law_script", "_law_k"],["_law_script", "_law_k"],b_law_cell_at,none⟩
noncomputable abbrev d_law_mix:DefT:=⟨"_law_mix", top 34,["_law_cell", "_law_k"],["_law_cell", "_law_k"],b_law_mix,none⟩
noncomputable abbrev d_law_name:DefT:=⟨"_law_name", top 35,["_law_cell", "_law_k", "_law_letter", "_law_tail", "_law_at"],["_law_cell", "_law_k"],b_law_name,none⟩
noncomputable abbrev d_law_minutes:DefT:=⟨"_law_minutes", top 36,["_law_number"],["_law_number"],b_law_minutes,none⟩
noncomputable abbrev d_law_part:DefT:=⟨"_law_part", top 37,["_law_cell", "_law_k", "_law_base", "_law_number", "_law_voice"],["_law_cell", "_law_k", "_law_base"],b_law_part,none⟩
noncomputable abbrev d_law_player:DefT:=⟨"_law_player", top 38,["_law_cell", "_law_k", "_law_base", "_law_number", "_law_voices"],["_law_cell", "_law_k", "_law_base"],b_law_player,none⟩
noncomputable abbrev d_law_scene:DefT:=⟨"_law_scene", top 39,["_law_cell", "_law_k", "_law_base", "_law_many", "_law_number", "_law_some", "_law_middle", "_law_pause"],["_law_cell", "_law_k", "_law_base", "_law_many"],b_law_scene,none⟩
noncomputable abbrev d_law_pairs:DefT:=⟨"_law_pairs", top 40,["_law_cell", "_law_one", "_law_other", "_law_share", "_law_found", "_law_k", "_law_number", "_law_pair", "_law_middle"],["_law_cell", "_law_one", "_law_other", "_law_share"],b_law_pairs,none⟩
noncomputable abbrev d_law_drawn:DefT:=⟨"_law_drawn", top 41,["_law_script", "_law_at", "_law_cells", "_law_many", "_law_parts", "_law_players", "_law_scenes", "_law_k", "_law_cell", "_law_likes", "_law_player_here", "_law_part_here", "_law_covers"],["_law_script", "_law_at"],b_law_drawn,none⟩
noncomputable abbrev d_law_rows:DefT:=⟨"_law_rows", top 42,["_law_book", "_law_parts", "_law_players", "_law_scenes", "_law_likes", "_law_covers", "_law_rows_here", "_law_name_here", "_law_voices", "_law_hire", "_law_length", "_law_pause", "_law_numbers", "_law_words", "_law_player_here", "_law_part_here", "_law_price"],["_law_book"],b_law_rows,none⟩
noncomputable abbrev d_law_bad_forms:DefT:=⟨"_law_bad_forms", top 43,["_law_part_here", "_law_player_here", "_law_some", "_law_both"],["_law_part_here", "_law_player_here"],b_law_bad_forms,none⟩
noncomputable abbrev d_law_bad_names:DefT:=⟨"_law_bad_names", top 44,["_law_book", "_law_cell", "_law_some", "_law_player_here", "_law_part_here", "_law_price"],["_law_book", "_law_cell"],b_law_bad_names,none⟩
noncomputable abbrev d_law_refused:DefT:=⟨"_law_refused", top 46,["_law_rows_here", "_law_wrong", "_law_e"],["_law_rows_here"],b_law_refused,(some td_law_refused)⟩
noncomputable abbrev d_law:DefT:=⟨"law", top 47,["_law_script", "_law_book", "_law_good", "_law_part_here", "_law_player_here", "_law_some", "_law_cell", "_law_names", "_law_bad", "_law_rows_here", "_law_first", "_law_at", "_law_kept"],["_law_script"],b_law,none⟩
noncomputable def defs:List DefT:=[d_consists_of,d_are_unlike,d_is_name,d_is_amount,d_is_voice,d_are_voices,d_number_named,d_is_new_name,d_part_read,d_player_read,d_scene_read,d_like_read,d_cover_read,d_with_row,d_read_book,d_law_cell_at,d_law_mix,d_law_name,d_law_minutes,d_law_part,d_law_player,d_law_scene,d_law_pairs,d_law_drawn,d_law_rows,d_law_bad_forms,d_law_bad_names,d_law_refused,d_law]
noncomputable def Tx:Txt:=⟨["LETTERS", "FIGURES", "PARTS", "PLAYERS", "SCENES", "LIKES", "COVERS", "KINDS"],[("consists_of":Str),("are_unlike":Str),("is_name":Str),("is_amount":Str),("is_voice":Str),("are_voices":Str),("number_named":Str),("is_new_name":Str),("part_read":Str),("player_read":Str),("scene_read":Str),("like_read":Str),("cover_read":Str),("with_row":Str),("read_book":Str),("_law_cell_at":Str),("_law_mix":Str),("_law_name":Str),("_law_minutes":Str),("_law_part":Str),("_law_player":Str),("_law_scene":Str),("_law_pairs":Str),("_law_drawn":Str),("_law_rows":Str),("_law_bad_forms":Str),("_law_bad_names":Str),("_law_refused":Str),("law":Str)],[("READERS", [8,9,10,11,12])],[("KINDS", ["part", "player", "scene", "like", "cover"])],[],[("NoBook" : Str)]⟩
noncomputable def sti0:Stmt:=match top 2 with | .ClassDef _ _ _ b _ _ _ _ _ _ _=>b.getD 0 (.Pass ⟨0,0,0,0⟩) | x=>x
theorem iB0:initB "at" ["self", "at"] ["self", "at"] sti0=true:=by decide +kernel
theorem okB:defs.all (·.okB Tx)=true:=by decide +kernel
noncomputable abbrev xt:ToldT:=⟨"TroupeError", "_law_others", top 45,["_law_e"], "_law_e", [("NoChange" : Str),("NoCasting" : Str),("NoName" : Str),("NoRow" : Str)]⟩
theorem oB:mOth xt=true:=by decide +kernel
theorem sB:fnScB d_law_refused.N d_law_refused.ps (defScope d_law_refused.st)=true:=by decide +kernel
end K03
open PySem PySem.W PyProof.Rows
set_option maxRecDepth 100000 in
set_option maxHeartbeats 0 in
theorem PySem.Challenge.cw_troupe_k03_no_book_holds : PySem.Challenge.rw_troupe_k03_no_book.Holds := by
 refine K03.hd ?_
 k_fill
 refine Tr.walkT (l:=PySem.Challenge.rw_troupe_k03_no_book) (T:=K03.T) (Tx:=K03.Tx) (defs:=K03.defs) (i:=28) (n:=20) rfl rfl rfl rfl rfl ⟨rfl,by decide,by decide⟩ K03.law_true (λw h Y=>PySem.W.kIn_of Y) ?X (λ_ _ _ _ _ _ _=>rfl)
 case X =>
  intro w mg h KX G
  refine' Tr.text_at (x:=K03.xt) (td:=K03.td_law_refused) ⟨rfl,K03.okB,(Tr.all_cons (Tr.fun_in KX G ?a0 ?l0 ?c0 ?k0 ?b0) (Tr.all_cons (Tr.fun_in KX G ?a1 ?l1 ?c1 ?k1 ?b1) (Tr.all_cons (Tr.fun_in KX G ?a2 ?l2 ?c2 ?k2 ?b2) (Tr.all_cons (Tr.fun_in KX G ?a3 ?l3 ?c3 ?k3 ?b3) (Tr.all_cons (Tr.fun_in KX G ?a4 ?l4 ?c4 ?k4 ?b4) (Tr.all_cons (Tr.fun_in KX G ?a5 ?l5 ?c5 ?k5 ?b5) (Tr.all_cons (Tr.fun_in KX G ?a6 ?l6 ?c6 ?k6 ?b6) (Tr.all_cons (Tr.fun_in KX G ?a7 ?l7 ?c7 ?k7 ?b7) (Tr.all_cons (Tr.fun_in KX G ?a8 ?l8 ?c8 ?k8 ?b8) (Tr.all_cons (Tr.fun_in KX G ?a9 ?l9 ?c9 ?k9 ?b9) (Tr.all_cons (Tr.fun_in KX G ?a10 ?l10 ?c10 ?k10 ?b10) (Tr.all_cons (Tr.fun_in KX G ?a11 ?l11 ?c11 ?k11 ?b11) (Tr.all_cons (Tr.fun_in KX G ?a12 ?l12 ?c12 ?k12 ?b12) (Tr.all_cons (Tr.fun_in KX G ?a13 ?l13 ?c13 ?k13 ?b13) (Tr.all_cons (Tr.fun_in KX G ?a14 ?l14 ?c14 ?k14 ?b14) (Tr.all_cons (Tr.fun_in KX G ?a15 ?l15 ?c15 ?k15 ?b15) (Tr.all_cons (Tr.fun_in KX G ?a16 ?l16 ?c16 ?k16 ?b16) (Tr.all_cons (Tr.fun_in KX G ?a17 ?l17 ?c17 ?k17 ?b17) (Tr.all_cons (Tr.fun_in KX G ?a18 ?l18 ?c18 ?k18 ?b18) (Tr.all_cons (Tr.fun_in KX G ?a19 ?l19 ?c19 ?k19 ?b19) (Tr.all_cons (Tr.fun_in KX G ?a20 ?l20 ?c20 ?k20 ?b20) (Tr.all_cons (Tr.fun_in KX G ?a21 ?l21 ?c21 ?k21 ?b21) (Tr.all_cons (Tr.fun_in KX G ?a22 ?l22 ?c22 ?k22 ?b22) (Tr.all_cons (Tr.fun_in KX G ?a23 ?l23 ?c23 ?k23 ?b23) (Tr.all_cons (Tr.fun_in KX G ?a24 ?l24 ?c24 ?k24 ?b24) (Tr.all_cons (Tr.fun_in KX G ?a25 ?l25 ?c25 ?k25 ?b25) (Tr.all_cons (Tr.fun_in KX G ?a26 ?l26 ?c26 ?k26 ?b26) (Tr.all_cons (Tr.fun_in KX G ?a27 ?l27 ?c27 ?k27 ?b27) (Tr.all_cons (Tr.fun_in KX G ?a28 ?l28 ?c28 ?k28 ?b28) Tr.all_nil))))))))))))))))))))))))))))),(Tr.gl_cons (Tr.glob_str KX G ?gg0) (Tr.gl_cons (Tr.glob_str KX G ?gg1) (Tr.gl_cons (Tr.glob_int KX G ?gg2) (Tr.gl_cons (Tr.glob_int KX G ?gg3) (Tr.gl_cons (Tr.glob_int KX G ?gg4) (Tr.gl_cons (Tr.glob_int KX G ?gg5) (Tr.gl_cons (Tr.glob_int KX G ?gg6) (Tr.gl_cons (Tr.glob_tupS (ss:=["part", "player", "scene", "like", "cover"]) KX G ?gg7 ?gl7 ?gz7 ?gv7 rfl) Tr.gl_nil)))))))),(Tr.all_cons (Tr.blt_none KX G ?z0) (Tr.all_cons (Tr.blt_none KX G ?z1) (Tr.all_cons (Tr.blt_none KX G ?z2) (Tr.all_cons (Tr.blt_none KX G ?z3) (Tr.all_cons (Tr.blt_none KX G ?z4) (Tr.all_cons (Tr.blt_none KX G ?z5) (Tr.all_cons (Tr.blt_none KX G ?z6) (Tr.all_cons (Tr.blt_none KX G ?z7) (Tr.all_cons (Tr.blt_none KX G ?z8) (Tr.all_cons (Tr.blt_none KX G ?z9) (Tr.all_cons (Tr.blt_none KX G ?z10) (Tr.all_cons (Tr.blt_none KX G ?z11) (Tr.all_cons (Tr.blt_none KX G ?z12) (Tr.all_cons (Tr.blt_none KX G ?z13) (Tr.all_cons (Tr.blt_none KX G ?z14) (Tr.all_cons (Tr.blt_none KX G ?z15) (Tr.all_cons (Tr.blt_none KX G ?z16) (Tr.all_cons (Tr.blt_none KX G ?z17) Tr.all_nil)))))))))))))))))),(Tr.all_cons (Tr.tab_in KX G ?ta0 ?tl0 ?tz0 ?tr0) Tr.all_nil),(Tr.all_cons (Tr.modS_in KX G ?sa0 ?sl0 ?sv0) Tr.all_nil),Tr.all_nil,(Tr.all_cons (Tr.iniK_in (st:=K03.sti0) (qual := "NoBook.__init__") KX G ?ia0 ?ib0 ?ic0 ?id0 ?ie0 ?if0 ?ig0 ?ih0 ?ii0 ?ij0 ?ik0 K03.iB0) Tr.all_nil)⟩ rfl rfl K03.sB rfl rfl (by decide +kernel) K03.oB ⟨Tr.cls_in KX G ?ha0 ?he0,Tr.ini_in KX G ?ia0 ?id0 ?ie0 ?if0 ⟨?x1,?x2,?x3,?x4,?x5,?x6,?x7⟩ rfl,?tm,Tr.kit_self,?tv,(Tr.all_cons (Tr.cls_no KX G ?oa0 ?oe0) (Tr.all_cons (Tr.cls_no KX G ?oa1 ?oe1) (Tr.all_cons (Tr.cls_no KX G ?oa2 ?oe2) (Tr.all_cons (Tr.cls_no KX G ?oa3 ?oe3) Tr.all_nil)))),Tr.blt_none KX G ?tz,Tr.fun_in KX G ?fa ?fl ?fc ?fk ?fb⟩
  (case ha0=>k_is);(case he0=>kernel_rfl)
  (case ia0=>k_is);(case ib0=>k_is);(case ic0=>k_is);(case id0=>kernel_rfl);(case ie0=>kernel_rfl);(case if0=>kernel_rfl);(case ig0=>kernel_rfl)
  (case ih0=>k_is);(case ii0=>k_is);(case ij0=>k_is);(case ik0=>exact λ_ _ _ _ _ _=>Tr.len2 (λ_ _=>rfl))
  (case x1=>kernel_rfl);(case x2=>kernel_rfl);(case x3=>kernel_rfl);(case x4=>kernel_rfl);(case x5=>kernel_rfl);(case x6=>kernel_rfl);(case x7=>kernel_rfl)
  (case tm=>kernel_rfl);(case tv=>kernel_rfl);(case tz=>k_is)
  (case oa0=>k_is);(case oe0=>kernel_rfl)
  (case oa1=>k_is);(case oe1=>kernel_rfl)
  (case oa2=>k_is);(case oe2=>kernel_rfl)
  (case oa3=>k_is);(case oe3=>kernel_rfl)
  (case fa=>k_is);(case fl=>k_is);(case fc=>k_is);(case fk=>k_is)
  (case fb=>exact λ_ _ _ _ _ _=>Tr.len1 (λ_=>rfl))
  (case ta0=>k_is);(case tl0=>k_is);(case tz0=>decide);(case tr0=>exact⟨⟨_,K03.d_part_read, "part_read", rfl,rfl,rfl,by k_is⟩,⟨⟨_,K03.d_player_read, "player_read", rfl,rfl,rfl,by k_is⟩,⟨⟨_,K03.d_scene_read, "scene_read", rfl,rfl,rfl,by k_is⟩,⟨⟨_,K03.d_like_read, "like_read", rfl,rfl,rfl,by k_is⟩,⟨⟨_,K03.d_cover_read, "cover_read", rfl,rfl,rfl,by k_is⟩,trivial⟩⟩⟩⟩⟩)
  (case sa0=>k_is);(case sl0=>k_is);(case sv0=>rfl)
  (case a0=>k_is);(case l0=>k_is);(case c0=>k_is);(case k0=>k_is)
  (case b0=>exact λ_ _ _ _ _ _=>Tr.len2 (λ_ _=>rfl))
  (case a1=>k_is);(case l1=>k_is);(case c1=>k_is);(case k1=>k_is)
  (case b1=>exact λ_ _ _ _ _ _=>Tr.len1 (λ_=>rfl))
  (case a2=>k_is);(case l2=>k_is);(case c2=>k_is);(case k2=>k_is)
  (case b2=>exact λ_ _ _ _ _ _=>Tr.len1 (λ_=>rfl))
  (case a3=>k_is);(case l3=>k_is);(case c3=>k_is);(case k3=>k_is)
  (case b3=>exact λ_ _ _ _ _ _=>Tr.len1 (λ_=>rfl))
  (case a4=>k_is);(case l4=>k_is);(case c4=>k_is);(case k4=>k_is)
  (case b4=>exact λ_ _ _ _ _ _=>Tr.len1 (λ_=>rfl))
  (case a5=>k_is);(case l5=>k_is);(case c5=>k_is);(case k5=>k_is)
  (case b5=>exact λ_ _ _ _ _ _=>Tr.len1 (λ_=>rfl))
  (case a6=>k_is);(case l6=>k_is);(case c6=>k_is);(case k6=>k_is)
  (case b6=>exact λ_ _ _ _ _ _=>Tr.len2 (λ_ _=>rfl))
  (case a7=>k_is);(case l7=>k_is);(case c7=>k_is);(case k7=>k_is)
  (case b7=>exact λ_ _ _ _ _ _=>Tr.len2 (λ_ _=>rfl))
  (case a8=>k_is);(case l8=>k_is);(case c8=>k_is);(case k8=>k_is)
  (case b8=>exact λ_ _ _ _ _ _=>Tr.len2 (λ_ _=>rfl))
  (case a9=>k_is);(case l9=>k_is);(case c9=>k_is);(case k9=>k_is)
  (case b9=>exact λ_ _ _ _ _ _=>Tr.len2 (λ_ _=>rfl))
  (case a10=>k_is);(case l10=>k_is);(case c10=>k_is);(case k10=>k_is)
  (case b10=>exact λ_ _ _ _ _ _=>Tr.len2 (λ_ _=>rfl))
  (case a11=>k_is);(case l11=>k_is);(case c11=>k_is);(case k11=>k_is)
  (case b11=>exact λ_ _ _ _ _ _=>Tr.len2 (λ_ _=>rfl))
  (case a12=>k_is);(case l12=>k_is);(case c12=>k_is);(case k12=>k_is)
  (case b12=>exact λ_ _ _ _ _ _=>Tr.len2 (λ_ _=>rfl))
  (case a13=>k_is);(case l13=>k_is);(case c13=>k_is);(case k13=>k_is)
  (case b13=>exact λ_ _ _ _ _ _=>Tr.len2 (λ_ _=>rfl))
  (case a14=>k_is);(case l14=>k_is);(case c14=>k_is);(case k14=>k_is)
  (case b14=>exact λ_ _ _ _ _ _=>Tr.len1 (λ_=>rfl))
  (case a15=>k_is);(case l15=>k_is);(case c15=>k_is);(case k15=>k_is)
  (case b15=>exact λ_ _ _ _ _ _=>Tr.len2 (λ_ _=>rfl))
  (case a16=>k_is);(case l16=>k_is);(case c16=>k_is);(case k16=>k_is)
  (case b16=>exact λ_ _ _ _ _ _=>Tr.len2 (λ_ _=>rfl))
  (case a17=>k_is);(case l17=>k_is);(case c17=>k_is);(case k17=>k_is)
  (case b17=>exact λ_ _ _ _ _ _=>Tr.len2 (λ_ _=>rfl))
  (case a18=>k_is);(case l18=>k_is);(case c18=>k_is);(case k18=>k_is)
  (case b18=>exact λ_ _ _ _ _ _=>Tr.len1 (λ_=>rfl))
  (case a19=>k_is);(case l19=>k_is);(case c19=>k_is);(case k19=>k_is)
  (case b19=>exact λ_ _ _ _ _ _=>Tr.len3 (λ_ _ _=>rfl))
  (case a20=>k_is);(case l20=>k_is);(case c20=>k_is);(case k20=>k_is)
  (case b20=>exact λ_ _ _ _ _ _=>Tr.len3 (λ_ _ _=>rfl))
  (case a21=>k_is);(case l21=>k_is);(case c21=>k_is);(case k21=>k_is)
  (case b21=>exact λ_ _ _ _ _ _=>Tr.len4 (λ_ _ _ _=>rfl))
  (case a22=>k_is);(case l22=>k_is);(case c22=>k_is);(case k22=>k_is)
  (case b22=>exact λ_ _ _ _ _ _=>Tr.len4 (λ_ _ _ _=>rfl))
  (case a23=>k_is);(case l23=>k_is);(case c23=>k_is);(case k23=>k_is)
  (case b23=>exact λ_ _ _ _ _ _=>Tr.len2 (λ_ _=>rfl))
  (case a24=>k_is);(case l24=>k_is);(case c24=>k_is);(case k24=>k_is)
  (case b24=>exact λ_ _ _ _ _ _=>Tr.len1 (λ_=>rfl))
  (case a25=>k_is);(case l25=>k_is);(case c25=>k_is);(case k25=>k_is)
  (case b25=>exact λ_ _ _ _ _ _=>Tr.len2 (λ_ _=>rfl))
  (case a26=>k_is);(case l26=>k_is);(case c26=>k_is);(case k26=>k_is)
  (case b26=>exact λ_ _ _ _ _ _=>Tr.len2 (λ_ _=>rfl))
  (case a27=>k_is);(case l27=>k_is);(case c27=>k_is);(case k27=>k_is)
  (case b27=>exact λ_ _ _ _ _ _=>Tr.len1 (λ_=>rfl))
  (case a28=>k_is);(case l28=>k_is);(case c28=>k_is);(case k28=>k_is)
  (case b28=>exact λ_ _ _ _ _ _=>Tr.len1 (λ_=>rfl))
  (case gg0=>k_is)
  (case gg1=>k_is)
  (case gg2=>k_is)
  (case gg3=>k_is)
  (case gg4=>k_is)
  (case gg5=>k_is)
  (case gg6=>k_is)
  (case gg7=>k_is)
  (case gl7=>k_is);(case gz7=>decide);(case gv7=>rfl)
  (case z0=>k_is)
  (case z1=>k_is)
  (case z2=>k_is)
  (case z3=>k_is)
  (case z4=>k_is)
  (case z5=>k_is)
  (case z6=>k_is)
  (case z7=>k_is)
  (case z8=>k_is)
  (case z9=>k_is)
  (case z10=>k_is)
  (case z11=>k_is)
  (case z12=>k_is)
  (case z13=>k_is)
  (case z14=>k_is)
  (case z15=>k_is)
  (case z16=>k_is)
  (case z17=>k_is)
